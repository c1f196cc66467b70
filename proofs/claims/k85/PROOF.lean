import PyProof.Rows.All
import Wide.All
import OpenK.AllK
import Wide.FinOn
import PyProof.Rows.ReprOcc
import HandS.ForMost
import HandS.Wide
import HandS.WideBits
import HandS.TupAny
import HandS.IsInst
import HandS.SetFor
import HandS.SetTxt0
import HandS.Strs
import HandS.More
import HandS.EndBits
import HandS.Zip
import HandS.FStr
import HandS.Walk
import HandS.TryOnly
import HandS.Star
import HandS.SortInts
import HandS.Comp
import HandS.Exc
import HandS.StrMore
import HandS.Sort
import KE.GoesEnumKw
import HandS.TupLe
import KE.KTupSum
import PyProof.LongRange
import HandS.Codes
import PySem.Challenge.RW_toldwhensure_k85_ringing_in_a_history
set_option Elab.async false
set_option linter.all false
set_option maxRecDepth 100000
/-! sets of texts: set(list of texts), sorted(such a set). The members are told as a list without duplicates. -/
namespace Tset
open PySem PySem.Spec PyProof.Rows L2 PySem.Froz
/-- the payload D has the texts l, can be walked and can be read in order -/
structure Pay (P : Program) (w : World) (D : SD) (l : List Str) : Prop where
  tx : TxOk P w D l
  ris : Ris D.2.2.place.toList
  led : w.params.followText "set-order" = true ∨ D.2.2.led = true
  nd : l.Nodup
def Holds (P : Program) (w : World) (h : Heap) (a : Addr) (l : List Str) : Prop := ∃ D : SD, h.get? a = some (sObj "set" D) ∧ Pay P w D l
section
variable {P : Program} {w : World} {A : Around} {E : Value → Shared → Prop} {s : Shared}
theorem Holds.kept {h h' : Heap} {a : Addr} {l : List Str} (x : Holds P w h a l) (k : ∀ o, h.get? a = some o → h'.get? a = some o) : Holds P w h' a l :=
  let ⟨D, e, r⟩ := x
  ⟨D, k _ e, r⟩
theorem Pay.tail {es : Array (Int × Value)} {t : SetTable} {l : List Str} (ep : Nat) (dm : Bool) (tx : TxOk P w (tailTx ep es t dm) l) (nd : l.Nodup) (r : Ris t.place.toList) (g : w.params.followText "set-order" = true ∨ t.led = true) :
    Pay P w (tailTx ep es t dm) l := by
  refine ⟨tx, ?_, ?_, nd⟩ <;> unfold tailTx <;> split
  · exact relayAll_ris _ _ _
  · exact r
  · rcases g with g | g
    · exact .inl g
    · exact .inr ((relayAll_led _ _ _).trans g)
  · exact g
theorem Pay.add {D : SD} {l : List Str} {k : Str} (u : Tok) (x : Pay P w D l) (hk : k ∉ l) : Pay P w (addTx (hashStr w k) (.str k u) D) (k :: l) := by
  have tx := add_ok (k := k) u x.tx
  unfold addTx at tx ⊢
  have r1 := layNew_ris D.2.2 D.1 (hashStr w k) (.str k u) x.ris
  have l1 := layNew_led D.2.2 D.1 (hashStr w k) (.str k u)
  refine Pay.tail _ _ tx (List.nodup_cons.mpr ⟨hk, x.nd⟩) ?_ ?_
  · split <;> exact r1
  · rcases x.led with g | g
    · exact .inl g
    · right
      split
      · exact l1.trans g
      · exact l1.trans g
/-- a text that is there already is not added -/
theorem add_there {a : Addr} {D : SD} {l : List Str} {k : Str} {u : Tok} {Q : Bool → Shared → Prop} (ho : s.heap.get? a = some (sObj "set" D)) (x : TxOk P w D l) (hk : k ∈ l) (hb : l.length < scanBound) (q : Q false s) :
    wpAny (model P w) A (setAddHashed a (.str k u) (hashStr w k)) Q E s := by
  obtain ⟨es, ep, t⟩ := D
  have hy : (strKind P w).is k (.str k u) = true := is_str k u
  have hsz : es.size = l.length := x.sz
  have fits : t.fits es.size = true := x.fit
  have elems : ElemsOf (strKind P w) es.toList := x.el
  have few : es.size < scanBound := by rw [hsz]; exact hb
  obtain ⟨e, he, hz⟩ := (x.mem k).mp hk
  unfold setAddHashed setAddHashedIn
  refine wpAny_holding (wpAny_bind (wpAny_setState_of ho rfl fits ?_))
  dsimp only
  rw [byScan_of rfl few elems]
  simp only [↓reduceIte]
  unfold setAddByScan
  refine wpAny_bind (wpAny_bind (wpAny_rule ?_))
  refine wpAny_bind (wpAny_setScan_of (knd := strKind P w) (k := k) hy ho rfl fits elems ?_)
  cases hf : List.findIdx? (fun e => (strKind P w).is k e.2) es.toList with
  | some j => exact wpAny_pure (wpAny_pure q)
  | none =>
    have no := List.findIdx?_eq_none_iff.mp hf e he
    rw [hz] at no
    cases no
/-- one text more: it is there behind it -/
theorem add_one {a : Addr} {l : List Str} {k : Str} {u : Tok} {Q : Bool → Shared → Prop} (x : Holds P w s.heap a l) (hb : l.length + 1 < scanBound)
    (q : ∀ b h' l', Heap.SameBut a s.heap h' → Holds P w h' a l' → (∀ z, z ∈ l' ↔ z = k ∨ z ∈ l) → l'.length ≤ l.length + 1 → Q b { s with heap := h' }) :
    wpAny (model P w) A (setAddHashed a (.str k u) (hashStr w k)) Q E s := by
  obtain ⟨D, ho, p⟩ := x
  by_cases hk : k ∈ l
  · exact add_there ho p.tx hk (by omega) (q false s.heap l (Heap.SameBut.refl a s.heap) ⟨D, ho, p⟩ (fun z => ⟨.inr, fun h => h.elim (fun e => e ▸ hk) id⟩) (by omega))
  · refine add_x ho p.tx hk hb (q true _ (k :: l) (Heap.SameBut.update s.heap a _) ⟨_, get_upd _ ho rfl, p.add u hk⟩ (fun z => List.mem_cons) (by simp))
/-- the fresh set -/
theorem fresh {h : Heap} {a : Addr} (ho : h.get? a = some { cls := .type "set", dict := none, data := .set #[] 0 (.fresh 0 0 (!w.params.followText "set-order")) }) : Holds P w h a [] := by
  refine ⟨(#[], 0, .fresh 0 0 (!w.params.followText "set-order")), ho, TxOk.nil rfl, List.Pairwise.nil, ?_, List.nodup_nil⟩
  show _ ∨ (!w.params.followText "set-order") = true
  cases w.params.followText "set-order"
  · exact .inr rfl
  · exact .inl rfl
/-- the loop that puts the items in -/
theorem fill {I S : Addr} {fp wr : List Addr} {G : Array GenState → Array GenState → Prop} {n : Nat} {Pv : Nat → Value → Prop} {Sx : Nat → Shared → Prop} {R : Result → Shared → Prop} (W : WalksS P w A.in1 I fp wr G n Pv Sx)
    (nS : S ∉ fp) (ks : List Str) (hn : n = ks.length) (hb : ks.length + 1 < scanBound) (val : ∀ i v, Pv i v → ∃ k t, ks[i]? = some k ∧ v = .str k t) :
    ∀ (left i : Nat) (s : Shared), n - i = left → i ≤ n → Sx i s → (∃ l, Holds P w s.heap S l ∧ (∀ z, z ∈ l ↔ z ∈ ks.take i) ∧ l.length ≤ i) →
      (∀ s' l, Moved (S :: wr) G s s' → Holds P w s'.heap S l → (∀ z, z ∈ l ↔ z ∈ ks) → l.length ≤ n → R (.ok (.ret .none)) s') → codeAny (model P w) A (.builtin "set.update.loop" ⟨[.ref S, .ref I], []⟩) R s := by
  have nSw : S ∉ wr := fun z => nS (W.sub _ z)
  have up : ∀ b ∈ wr, b ∈ S :: wr := fun b z => List.mem_cons_of_mem _ z
  intro left
  induction left with
  | zero =>
    intro i s e hi st ⟨l, hl, hm, hll⟩ hR
    obtain rfl : i = n := by omega
    refine codeAny_builtin F.entry_set_update_loop ?_
    rw [Around.under_plainId F.plain_set_update_loop _]
    refine wpAny_bind (m := pyNext (.ref I)) (W.done s _ _ st fun s' mv => ?_)
    rw [List.take_of_length_le (by omega)] at hm
    exact wpAny_pure (hR s' l (mv.mono up) (hl.kept fun o z => mv.heap S o nSw z) hm hll)
  | succ left ih =>
    intro i s e hi st ⟨l, hl, hm, hll⟩ hR
    have lt : i < n := by omega
    refine codeAny_builtin F.entry_set_update_loop ?_
    rw [Around.under_plainId F.plain_set_update_loop _]
    refine wpAny_bind (m := pyNext (.ref I)) (W.item i s _ _ lt st fun v s1 hv st1 mv => ?_)
    obtain ⟨k, t, hk, rfl⟩ := val i v hv
    refine wpAny_bind (m := holding [Value.str k t] (setAdd S (.str k t))) (wpAny_holding ?_)
    unfold setAdd
    refine wpAny_holding (wpAny_bind ((strKind P w).pyHash (is_str k t) ?_))
    refine add_one (s := { s1 with toks := s1.toks + 1 }) (l := l) (hl.kept fun o z => mv.heap S o nSw z) (by omega) fun b h2 l2 sb hl2 hm2 hll2 => ?_
    refine wpAny_pure ⟨plainId_quiet F.plain_set_update_loop _, ih (i + 1) _ (by omega) lt (W.frame _ s1 _ _ st1 (Nat.le_succ _) fun b hb o z => ?_) ⟨l2, hl2, fun z => ?_, by omega⟩ fun s3 l3 mv3 hl3 hm3 hll3 => ?_⟩
    · rw [sb.2 b fun x => nS (x ▸ hb)]
      exact z
    · rw [hm2, hm, List.take_add_one, hk]
      simp only [Option.toList_some, List.mem_append, List.mem_singleton]
      exact Or.comm
    · refine hR s3 l3 (Moved.trans W.gtrans ((mv.mono up).then_heap (Nat.le_succ _) fun b o hb z => ?_) mv3) hl3 hm3 hll3
      rw [sb.2 b fun x => hb (x ▸ List.mem_cons_self)]
      exact z
theorem at_text : ∀ {us : List Value} {ks : List Str}, StrsAre us ks → ∀ (i : Nat) (v : Value), us[i]? = some v → ∃ k t, ks[i]? = some k ∧ v = .str k t
  | _, _, .nil, i, v, h => by simp at h
  | _, _, .cons k t r, 0, v, h => ⟨k, t, rfl, (Option.some.inj h).symm⟩
  | _, _, .cons k t r, i + 1, v, h => at_text r i v h
set_option maxHeartbeats 3200000 in
theorem made {l : Addr} {items : Array Value} (ks : List Str) {Q : Value → Shared → Prop} (hh : A.handled = none) (hl : s.heap.IsList l items) (hit : StrsAre items.toList ks) (hb : ks.length + 1 < scanBound)
    (q : ∀ (h' : Heap) (tk : Nat) (ls : List Str), Holds P w h' s.heap.objs.size ls → (∀ z, z ∈ ls ↔ z ∈ ks) → ls.length ≤ ks.length → (∀ b o, s.heap.get? b = some o → h'.get? b = some o) → Q (.ref s.heap.objs.size) { s with heap := h', toks := tk }) :
    wpAny (model P w) A (call (.type "set") [.ref l]) Q E s := by
  have sz : items.size = ks.length := by rw [← Array.length_toList]; exact StrsAre.length hit
  obtain ⟨_, _, hmro⟩ := F.called_set.mro
  have hmade := F.called_set.made
  have hsub := F.called_set.sub
  have h1 := F.called_set.notType
  have h2 := F.called_set.canCreate
  have h3 := F.typeCall_set_1 (.ref l)
  refine wpAny_call (codeAny_of_tree ?_)
  show wpAny _ _ (callAny (.type "set") _) _ _ _
  refine wpAny_pure ⟨Code.quiet_builtin _ (by decide +kernel), codeAny_builtin F.entry_type_call ?_⟩
  rw [Around.under_plain (weight_type_call_type "set" [.ref l] []) rfl]
  repeat (any_goals (first | assumption | wp_step))
  generalize eo : ({ cls := .type "set", dict := none, data := .set #[] 0 (.fresh 0 0 (!w.params.followText "set-order")) } : Obj) = ob
  refine codeAny_mono (code_set_led1 (.ref l) (E := E) (Q₁ := fun r s' => r = .ref s.heap.objs.size ∧ s' = { s with heap := s.heap.push ob }) (by subst eo; exact ⟨rfl, rfl⟩)) fun r s' hr => ?_
  rcases r with e | fl
  · exact hr
  cases fl with
  | ret r =>
    obtain ⟨rfl, rfl⟩ := hr
    have at0 : (s.heap.push ob).get? s.heap.objs.size = some ob := Heap.get?_push_size _ (by subst eo; rfl)
    have ty0 : Shared.TypeIs { s with heap := s.heap.push ob } (.ref s.heap.objs.size) "set" := ⟨ob, at0, by subst eo; rfl⟩
    have hli := F.called_set.init.lookup
    have hbi := F.called_set.init.bind (.ref s.heap.objs.size)
    repeat (any_goals (first | assumption | wp_step))
    refine codeAny_mono (codeAny_call_builtin (R := wants (fun r s2 => r = .none ∧ ∃ h' tk ls, s2 = { s with heap := h', toks := tk } ∧ Holds P w h' s.heap.objs.size ls ∧ (∀ z, z ∈ ls ↔ z ∈ ks) ∧ ls.length ≤ ks.length ∧ (∀ b o, s.heap.get? b = some o → h'.get? b = some o)) E)
      F.called_set.init.plain F.entry_set_init (check_set_init_1 ty0 ?_)) fun r s2 hr => ?_
    · obtain ⟨⟨oc, od, oD, os⟩, hol, hc, nl, hd⟩ := hl
      simp only at hc hd
      subst hc; subst hd
      have lst1 : (s.heap.push ob).IsList l items := ⟨_, Heap.get?_push_of_some _ hol, rfl, nl, rfl⟩
      have hol' := Heap.get?_push_of_some ob hol
      have neI : l ≠ (s.heap.push ob).objs.size := by
        rw [Heap.size_push]
        exact Nat.ne_of_lt (Nat.lt_succ_of_lt (Heap.lt_size hol))
      subst eo
      have a1 := F.sub_list_set
      have a2 := F.sub_list_frozenset
      have a3 : (Value.type "list" == Value.type "dict") = false := by decide
      unfold Builtin.«set.__init__» noKeywords Builtin.Frozenset.updateFrom
      generalize hPI : pyIter = PI
      wp_walk
      subst hPI
      refine wpAny_pyIter_list lst1 ?_
      refine wpAny_bind (wpAny_runValue ?_)
      have ltl : l < s.heap.objs.size := Heap.lt_size hol
      have hd3 : A.in1.in1.in1.handled = none := by simp [hh]
      have val : ∀ (i : Nat) (v : Value), items[i]? = some v → ∃ k t, ks[i]? = some k ∧ v = .str k t := fun i v hv => at_text hit i v (by rw [Array.getElem?_toList]; exact hv)
      refine fill ((Walks.list hd3 _ l neI items).toS) (S := s.heap.objs.size) ?nS ks sz hb val (items.size - 0) 0 _ (by omega) (Nat.zero_le _) ⟨⟨_, Heap.get?_push_size _ rfl, rfl, rfl⟩, (lst1.push _)⟩ ⟨[], ?f, by simp, Nat.le_refl 0⟩ ?R
      case nS =>
        rw [Heap.size_push]
        simp only [List.mem_cons, List.mem_singleton, List.not_mem_nil, or_false, not_or]
        exact ⟨Nat.ne_of_lt (Nat.lt_succ_self _), Nat.ne_of_gt ltl⟩
      case f =>
        have z := Heap.get?_push_of_some ({ cls := .type "list_iterator", data := .fields #[.ref l, .int 0 0] } : Obj) at0
        exact fresh z
      case R =>
        rintro ⟨h', g2, d2, t2, o2⟩ ls mv hH hm hll
        obtain rfl : g2 = s.gens := mv.gens
        obtain rfl : d2 = s.drawn := mv.drawn
        obtain rfl : o2 = s.os := mv.os
        show wpAny _ _ _ _ _ _
        refine wpAny_pure ?_
        show wpAny _ _ (ret Value.none) _ _ _
        refine wpAny_pure ⟨rfl, h', t2, ls, rfl, hH, hm, by rw [← sz]; exact hll, fun b o e => ?_⟩
        have b0 : b < s.heap.objs.size := Heap.lt_size e
        refine mv.heap b o ?_ (Heap.get?_push_of_some _ (Heap.get?_push_of_some _ e))
        simp only [List.mem_cons, List.mem_singleton, List.not_mem_nil, or_false, not_or]
        refine ⟨Nat.ne_of_lt b0, ?_⟩
        rw [Heap.size_push]
        exact Nat.ne_of_lt (Nat.lt_succ_of_lt b0)
    · rcases r with e | fl
      · exact hr
      cases fl with
      | ret r =>
        obtain ⟨rfl, h', tk, ls, rfl, hH, hm, hll, hk⟩ := hr
        repeat (any_goals (first | assumption | wp_step))
        exact q _ _ _ hH hm hll hk
      | _ => exact hr.elim
  | _ => exact hr.elim
/-- as many items as members, each member among them: the members in another order -/
theorem perm_of : ∀ (l ls : List Str), l.Nodup → (∀ z ∈ l, z ∈ ls) → ls.length ≤ l.length → ls.Perm l
  | [], ls, _, _, h => by
    have e : ls = [] := List.length_eq_zero_iff.mp (by simpa using h)
    rw [e]
  | x :: l, ls, nd, sub, h => by
    obtain ⟨nx, nd⟩ := List.nodup_cons.mp nd
    have hx : x ∈ ls := sub x List.mem_cons_self
    have p := List.perm_cons_erase hx
    have e1 : (ls.erase x).length ≤ l.length := by
      rw [List.length_erase_of_mem hx]
      simp only [List.length_cons] at h
      omega
    refine p.trans (List.Perm.cons x (perm_of l (ls.erase x) nd (fun z hz => ?_) e1))
    rcases List.mem_cons.mp (p.mem_iff.mp (sub z (List.mem_cons_of_mem _ hz))) with e | m
    · exact absurd (e ▸ hz) nx
    · exact m
theorem texts : ∀ (es : List (Int × Value)), ElemsOf (strKind P w) es → ∃ ls : List Str, StrsAre (es.map (·.2)) ls ∧ ∀ z, z ∈ ls ↔ ∃ e ∈ es, (strKind P w).is z e.2 = true
  | [], _ => ⟨[], .nil, fun z => by simp⟩
  | e :: es, h => by
    obtain ⟨ls, r, m⟩ := texts es fun x hx => h x (List.mem_cons_of_mem _ hx)
    obtain ⟨⟨k, hk, _⟩, _⟩ := h e List.mem_cons_self
    obtain ⟨t, ek⟩ := Value.isStrOf_shape (x := k) (v := e.2) hk
    refine ⟨k :: ls, ?_, fun z => ?_⟩
    · show StrsAre (e.2 :: es.map (·.2)) (k :: ls)
      rw [ek]
      exact .cons k t r
    · rw [List.mem_cons, m]
      constructor
      · rintro (rfl | ⟨x, hx, y⟩)
        · exact ⟨e, List.mem_cons_self, hk⟩
        · exact ⟨x, List.mem_cons_of_mem _ hx, y⟩
      · rintro ⟨x, hx, y⟩
        rcases List.mem_cons.mp hx with rfl | hx
        · exact .inl ((strKind P w).inj x.2 z k y hk)
        · exact .inr ⟨x, hx, y⟩
/-- the values of the payload, whatever their order, are the members, whatever theirs -/
theorem values {D : SD} {l : List Str} {vs : List Value} (p : Pay P w D l) (pm : vs.Perm (D.1.toList.map (·.2))) : ∃ ls : List Str, StrsAre vs ls ∧ ls.Perm l := by
  obtain ⟨l1, r1, m1⟩ := texts D.1.toList p.tx.el
  have e1 : l1.length = l.length := by rw [← StrsAre.length r1, List.length_map, Array.length_toList, p.tx.sz]
  have p1 : l1.Perm l := perm_of l l1 p.nd (fun z hz => (m1 z).mpr ((p.tx.mem z).mp hz)) (by omega)
  have all : ∀ v ∈ vs, ∃ x t, v = .str x t := fun v hv => r1.all v (pm.mem_iff.mp hv)
  refine ⟨vs.map strOf, strsAre_map vs all, ?_⟩
  have e2 := pm.map strOf
  rw [r1.strs] at e2
  exact e2.trans p1
/-- sorted(the set), fewer than 64 members -/
theorem inOrder {a : Addr} {l : List Str} {Q : Value → Shared → Prop} (x : Holds P w s.heap a l) (hh : A.handled = none) (few : l.length < 64)
    (q : ∀ s' p (out : Array Value) (c : Nat) (ls : List Str), (∀ b o, s.heap.get? b = some o → s'.heap.get? b = some o) → s'.gens = s.gens → s'.os = s.os → s.heap.objs.size ≤ p → s'.heap.get? p = some (seqObj "list" out c) →
      StrsAre out.toList ls → ls.Perm l → sortedS ls = true → Q (.ref p) s') : wpAny (model P w) A (call (.builtin "sorted") [.ref a]) Q E s := by
  obtain ⟨⟨es, ep, t⟩, ho, p⟩ := x
  have sz : es.size = l.length := p.tx.sz
  refine Calls.call_function_entry kind_sorted plain_sorted entry_sorted (args_sorted1 _) ?_
  unfold Builtin.«sorted»
  refine wpAny_bind (m := checkCount "sorted" 1 1 _) (wpAny_pure ?_)
  refine wpAny_bind (collect_set (A := A.in1) hh ⟨_, ho, rfl, rfl⟩ p.tx.fit (by show es.size < scanBound; unfold scanBound; omega) p.ris p.led fun s1 vs k1 z1 g1 o1 pm => ?_)
  obtain ⟨ls, r, pl⟩ := values p pm
  have hv : vs.length = l.length := by rw [StrsAre.length r, pl.length_eq]
  refine wpAny_bind (wpAny_newList ?_ (by rw [hv, sizeLine_eq]; omega))
  have at1 : (s1.heap.push (seqObj "list" vs.toArray 0)).get? s1.heap.objs.size = some (seqObj "list" vs.toArray 0) := Heap.get?_push_size _ rfl
  refine wpAny_bind (wpAny_holding (wpAny_call_entry slot_list_sort ⟨_, at1, rfl⟩ entry_list_sort
    (list_sort_treeK strKind_oneLt at1 r.keysOf (fun v1 v2 rest e => keyKind_strs (by rw [← e]; exact r)) (by rw [hv]; exact few) fun st' hp hs => ?_) (args_list_sort _)))
  obtain ⟨ys, b1, b2, b3⟩ := sorted_out_str r hp hs
  obtain ⟨c, hc⟩ := sortedHeap_at (vs := vs) (out := (arrOf st').map (·.2)) at1
  refine ⟨_, rfl, wpAny_pure ⟨_, rfl, q _ s1.heap.objs.size _ c ys (fun b u e => ?_) g1 o1 z1 hc b1 (b2.trans pl) b3⟩⟩
  have e1 := k1 b u e
  have lt := Heap.lt_size e1
  show (sortedHeap (s1.heap.push (seqObj "list" vs.toArray 0)) s1.heap.objs.size vs _).get? b = some u
  rw [sortedHeap_old (Nat.ne_of_lt lt) (by rw [size_push']; exact Nat.lt_succ_of_lt lt)]
  exact Heap.get?_push_of_some _ e1
end
/-- what stands at a: a set of the texts l -/
def SetS (P : Program) (w : World) (a : Addr) (l : List Str) : HO := .ext fun h => Holds P w h a l
section
variable {X : Cx}
def rSetOfS (K : PySem.W.Frag) (P : Program) (w : World) : List V → Hp → VK → Prop := fun xs H Q => ∃ (l : Addr) (ks : List Str), xs = [V.ref l] ∧ SqL K H l (ks.map V.str) ∧ ks.length ≤ 1000 ∧
  ∀ a ls, H a = none → (∀ z, z ∈ ls ↔ z ∈ ks) → ls.length ≤ ks.length → Q (.ref a) (upd H a (SetS P w a ls))
theorem cr_setOfS (hc : X.calm = true) : CallR X (.type "set") (rSetOfS X.K X.prog X.w) := by
  intro pins s σ H xs us Q I r h
  obtain ⟨l, ks, rfl, hl, hk, q⟩ := h
  rw [Vals.ref1 r]
  obtain ⟨its, rv, pl, hz⟩ := I.list hl
  have hn : H s.heap.objs.size = none := I.hok.fresh (Nat.le_refl _)
  refine made (P := X.prog) (w := X.w) ks (I.ok.hd hc) pl.isList (by simpa using rv.strs) (by unfold scanBound; omega) fun h' tk ls hh hm hl k => ?_
  have new : ObjOk X.prog X.w (upd H s.heap.objs.size (SetS X.prog X.w s.heap.objs.size ls)) h' s.heap.objs.size (SetS X.prog X.w s.heap.objs.size ls) :=
    ⟨hh, let ⟨_, e, _⟩ := hh; ⟨_, e⟩, fun h1 h2 x kk => x.kept kk⟩
  exact ⟨.ref s.heap.objs.size, upd H s.heap.objs.size (SetS X.prog X.w s.heap.objs.size ls), I.laid (t' := tk) k (Nat.le_refl _) new, rfl, q _ ls hn hm hl⟩
def rSortedS (P : Program) (w : World) : List V → Hp → VK → Prop := fun vs H Q => ∃ (a : Addr) (l : List Str), vs = [V.ref a] ∧ H a = some (SetS P w a l) ∧ l.length < 64 ∧
  ∀ (ls : List Str) (p : Addr), ls.Perm l → ls.Nodup → sortedS ls = true → H p = none → Q (.ref p) (upd H p (.lst (ls.map V.str)))
theorem cr_sortedSetS (hc : X.calm = true) : CallR X (.builtin "sorted") (rSortedS X.prog X.w) := by
  intro pins s σ H vs us Q I r h
  obtain ⟨a, l, rfl, ha, few, q⟩ := h
  have R : Holds X.prog X.w s.heap a l := (I.hok a _ ha).1
  have nd : l.Nodup := let ⟨_, _, p⟩ := R; p.nd
  rw [Vals.ref1 r]
  refine inOrder R (I.ok.hd hc) few fun s' p out c ls k g o hp hg hi pm so => ?_
  have hlen : (ls.map V.str).length ≤ sizeLine := by rw [List.length_map, pm.length_eq, sizeLine_eq]; omega
  have hn : H p = none := I.hok.fresh hp
  have J : Inv X pins σ (upd H p (.lst (ls.map V.str))) { s with heap := s'.heap, gens := s'.gens, drawn := s'.drawn, toks := s'.toks } :=
    I.call (ch := []) (Un.laid k hp hn) (I.hok.laid k hp ⟨hlen, out.toList, c, vals_of_strs hi, hg⟩) (by rw [g]; exact I.bare) (fun _ z => nomatch z)
  have e : s' = { s with heap := s'.heap, gens := s'.gens, drawn := s'.drawn, toks := s'.toks } := by
    cases s'
    cases s
    cases o
    rfl
  rw [e]
  exact ⟨.ref p, _, J, rfl, q ls p pm (pm.nodup_iff.mpr nd) so hn⟩
end
end Tset

/-! sets of whole numbers: set(list of ints), sorted(such a set), any number of members -/
namespace Iset
open PySem PySem.Spec PyProof.Rows L2
section
variable {P : Program} {w : World} {A : Around} {E : Value → Shared → Prop} {s : Shared}
set_option maxHeartbeats 3200000 in
theorem made {l : Addr} {items : Array Value} (ks : List Int) {Q : Value → Shared → Prop} (hh : A.handled = none) (hl : s.heap.IsList l items) (hit : IntsAre items.toList ks) (hb : ks.length + 1 < scanBound)
    (q : ∀ (h' : Heap) (tk c : Nat), SetR w h' s.heap.objs.size (fun j => decide (j ∈ ks)) c → c ≤ ks.length → (∀ b o, s.heap.get? b = some o → h'.get? b = some o) → Q (.ref s.heap.objs.size) { s with heap := h', toks := tk }) :
    wpAny (model P w) A (call (.type "set") [.ref l]) Q E s := by
  have sz : items.size = ks.length := by rw [← Array.length_toList]; exact IntsAre.length hit
  obtain ⟨_, _, hmro⟩ := F.called_set.mro
  have hmade := F.called_set.made
  have hsub := F.called_set.sub
  have h1 := F.called_set.notType
  have h2 := F.called_set.canCreate
  have h3 := F.typeCall_set_1 (.ref l)
  refine wpAny_call (codeAny_of_tree ?_)
  show wpAny _ _ (callAny (.type "set") _) _ _ _
  refine wpAny_pure ⟨Code.quiet_builtin _ (by decide +kernel), codeAny_builtin F.entry_type_call ?_⟩
  rw [Around.under_plain (weight_type_call_type "set" [.ref l] []) rfl]
  repeat (any_goals (first | assumption | wp_step))
  generalize eo : ({ cls := .type "set", dict := none, data := .set #[] 0 (.fresh 0 0 (!w.params.followText "set-order")) } : Obj) = ob
  refine codeAny_mono (code_set_led1 (.ref l) (E := E) (Q₁ := fun r s' => r = .ref s.heap.objs.size ∧ s' = { s with heap := s.heap.push ob }) (by subst eo; exact ⟨rfl, rfl⟩)) fun r s' hr => ?_
  rcases r with e | fl
  · exact hr
  cases fl with
  | ret r =>
    obtain ⟨rfl, rfl⟩ := hr
    have at0 : (s.heap.push ob).get? s.heap.objs.size = some ob := Heap.get?_push_size _ (by subst eo; rfl)
    have ty0 : Shared.TypeIs { s with heap := s.heap.push ob } (.ref s.heap.objs.size) "set" := ⟨ob, at0, by subst eo; rfl⟩
    have hli := F.called_set.init.lookup
    have hbi := F.called_set.init.bind (.ref s.heap.objs.size)
    repeat (any_goals (first | assumption | wp_step))
    refine codeAny_mono (codeAny_call_builtin (R := wants (fun r s2 => r = .none ∧ ∃ h' tk c, s2 = { s with heap := h', toks := tk } ∧ SetR w h' s.heap.objs.size (fun j => decide (j ∈ ks)) c ∧ c ≤ ks.length ∧ (∀ b o, s.heap.get? b = some o → h'.get? b = some o)) E)
      F.called_set.init.plain F.entry_set_init (check_set_init_1 ty0 ?_)) fun r s2 hr => ?_
    · obtain ⟨⟨oc, od, oD, os⟩, hol, hc, nl, hd⟩ := hl
      simp only at hc hd
      subst hc; subst hd
      have lst1 : (s.heap.push ob).IsList l items := ⟨_, Heap.get?_push_of_some _ hol, rfl, nl, rfl⟩
      have hol' := Heap.get?_push_of_some ob hol
      have neI : l ≠ (s.heap.push ob).objs.size := by
        rw [Heap.size_push]
        exact Nat.ne_of_lt (Nat.lt_succ_of_lt (Heap.lt_size hol))
      subst eo
      have a1 := F.sub_list_set
      have a2 := F.sub_list_frozenset
      have a3 : (Value.type "list" == Value.type "dict") = false := by decide
      unfold Builtin.«set.__init__» noKeywords Builtin.Frozenset.updateFrom
      generalize hPI : pyIter = PI
      wp_walk
      subst hPI
      refine wpAny_pyIter_list lst1 ?_
      refine wpAny_bind (wpAny_runValue ?_)
      have ltl : l < s.heap.objs.size := Heap.lt_size hol
      have hd3 : A.in1.in1.in1.handled = none := by simp [hh]
      have val : ∀ (i : Nat) (v : Value), items[i]? = some v → ∃ k t, ks[i]? = some k ∧ v = .int k t := fun i v hv => by
        have il : i < ks.length := by rw [← sz]; exact (Array.getElem?_eq_some_iff.mp hv).1
        obtain ⟨t, e⟩ := PyProof.Rows.IntsAre.int_at hit i v (by rw [Array.getElem?_toList]; exact hv)
        refine ⟨ks[i], t, List.getElem?_eq_getElem il, ?_⟩
        rw [e, List.getD_eq_getElem?_getD, List.getElem?_eq_getElem il]
        rfl
      refine set_update_ints ((Walks.list hd3 _ l neI items).toS) s.heap.objs.size ?nS ks sz hb val (items.size - 0) 0 _ (by omega) (Nat.zero_le _) ⟨⟨_, Heap.get?_push_size _ rfl, rfl, rfl⟩, (lst1.push _)⟩ ⟨0, Nat.le_refl 0, ?f⟩ ?R
      case nS =>
        rw [Heap.size_push]
        simp only [List.mem_cons, List.mem_singleton, List.not_mem_nil, or_false, not_or]
        exact ⟨Nat.ne_of_lt (Nat.lt_succ_self _), Nat.ne_of_gt ltl⟩
      case f =>
        exact setR_new_at (Heap.get?_push_of_some ({ cls := .type "list_iterator", data := .fields #[.ref l, .int 0 0] } : Obj) at0)
      case R =>
        rintro ⟨h', g2, d2, t2, o2⟩ c mv hm hH
        obtain rfl : g2 = s.gens := mv.gens
        obtain rfl : d2 = s.drawn := mv.drawn
        obtain rfl : o2 = s.os := mv.os
        show wpAny _ _ _ _ _ _
        refine wpAny_pure ?_
        show wpAny _ _ (ret Value.none) _ _ _
        refine wpAny_pure ⟨rfl, h', t2, c, rfl, hH, by rw [← sz]; exact hm, fun b o e => ?_⟩
        have b0 : b < s.heap.objs.size := Heap.lt_size e
        refine mv.heap b o ?_ (Heap.get?_push_of_some _ (Heap.get?_push_of_some _ e))
        simp only [List.mem_cons, List.mem_singleton, List.not_mem_nil, or_false, not_or]
        refine ⟨Nat.ne_of_lt b0, ?_⟩
        rw [Heap.size_push]
        exact Nat.ne_of_lt (Nat.lt_succ_of_lt b0)
    · rcases r with e | fl
      · exact hr
      cases fl with
      | ret r =>
        obtain ⟨rfl, h', tk, c, rfl, hH, hm, hk⟩ := hr
        repeat (any_goals (first | assumption | wp_step))
        exact q _ _ _ hH hm hk
      | _ => exact hr.elim
  | _ => exact hr.elim
/-- sorted(the set), any number of members -/
theorem inOrder {a : Addr} {S : Int → Bool} {n : Nat} {Q : Value → Shared → Prop} (x : SetR w s.heap a S n) (hh : A.handled = none)
    (q : ∀ s' p (out : List Value) (c : Nat) (ns : List Int), (∀ b o, s.heap.get? b = some o → s'.heap.get? b = some o) → s'.gens = s.gens → s'.os = s.os → s.heap.objs.size ≤ p → s'.heap.get? p = some (seqObj "list" out.toArray c) →
      IntsAre out ns → ns.Pairwise (· < ·) → (∀ k, k ∈ ns ↔ S k = true) → ns.length = n → n ≤ sizeLine → Q (.ref p) s') : wpAny (model P w) A (call (.builtin "sorted") [.ref a]) Q E s := by
  obtain ⟨o, es, ep, t, ho, hex, hd, good, nd, hm, few, hf, hn, hr, hl⟩ := x
  have n1 : n ≤ sizeLine := by unfold scanBound at few; rw [sizeLine_eq]; omega
  refine Calls.call_function_entry kind_sorted plain_sorted entry_sorted (args_sorted1 _) ?_
  unfold Builtin.«sorted»
  refine wpAny_bind (m := checkCount "sorted" 1 1 _) (wpAny_pure ?_)
  refine wpAny_bind (collect_set (A := A.in1) hh ⟨o, ho, hex.1, hd⟩ hf few hr hl fun s1 vs k1 z1 g1 o1 pm => ?_)
  have hv : vs.length = n := by rw [pm.length_eq, List.length_map, Array.length_toList]; exact hn
  have all : ∀ v ∈ vs, ∃ i t, v = Value.int i t := fun v hv => by
    obtain ⟨e, he, r⟩ := List.mem_map.mp (pm.mem_iff.mp hv)
    obtain ⟨k, tk, h1, _⟩ := good e he
    exact ⟨k, tk, by rw [← r]; exact h1⟩
  have hI := SrtO.ints_iv all
  have pk : (vs.map SrtO.iv).Perm (es.toList.map keyOf) := by
    have r := pm.map SrtO.iv
    rw [List.map_map] at r
    refine r.trans (List.Perm.of_eq (List.map_congr_left fun e he => ?_))
    obtain ⟨k, tk, h1, _⟩ := good e he
    show SrtO.iv e.2 = keyOf e
    unfold keyOf
    rw [h1]
    rfl
  refine wpAny_bind (wpAny_newList ?_ (by rw [hv]; exact n1))
  have at1 : (s1.heap.push (seqObj "list" vs.toArray 0)).get? s1.heap.objs.size = some (seqObj "list" vs.toArray 0) := Heap.get?_push_size _ rfl
  refine wpAny_bind (wpAny_holding (wpAny_call_entry slot_list_sort ⟨_, at1, rfl⟩ entry_list_sort
    (SrtO.list_sort_ord SrtO.swo_int at1 (by rw [hv]; exact n1) (fun h2 => SrtO.ints_sortable hI h2) fun out h1 h2 => ⟨_, rfl, ?_⟩) (args_list_sort _)))
  obtain ⟨b1, b2, b3⟩ := SrtO.ints_out hI h1 h2
  obtain ⟨c, hc⟩ := PyProof.Rows.sortedHeap_at (vs := vs) (out := out.toArray) at1
  have pn := b2.trans pk
  refine wpAny_pure ⟨_, rfl, q _ s1.heap.objs.size out c _ (fun b u e => ?_) g1 o1 z1 hc b1 (lt_of_le_nodup _ b3 (pn.nodup_iff.mpr nd)) (fun k => by rw [pn.mem_iff, ← hm k]) (by rw [pn.length_eq, List.length_map, Array.length_toList]; exact hn) n1⟩
  have e1 := k1 b u e
  have lt := Heap.lt_size e1
  show (sortedHeap (s1.heap.push (seqObj "list" vs.toArray 0)) s1.heap.objs.size vs _).get? b = some u
  rw [sortedHeap_old (Nat.ne_of_lt lt) (by rw [size_push']; exact Nat.lt_succ_of_lt lt)]
  exact Heap.get?_push_of_some _ e1
end
section
variable {X : Cx}
def rSetOfI (K : PySem.W.Frag) (w : World) : List V → Hp → VK → Prop := fun xs H Q => ∃ (l : Addr) (ks : List Int), xs = [V.ref l] ∧ SqL K H l (ks.map V.int) ∧ ks.length ≤ 4000 ∧
  ∀ a c, H a = none → c ≤ ks.length → Q (.ref a) (upd H a (SetO w a (fun j => decide (j ∈ ks)) c))
theorem cr_setOfI (hc : X.calm = true) : CallR X (.type "set") (rSetOfI X.K X.w) := by
  intro pins s σ H xs us Q I r h
  obtain ⟨l, ks, rfl, hl, hk, q⟩ := h
  rw [Vals.ref1 r]
  obtain ⟨its, rv, pl, hz⟩ := I.list hl
  have hn : H s.heap.objs.size = none := I.hok.fresh (Nat.le_refl _)
  refine made (P := X.prog) (w := X.w) ks (I.ok.hd hc) pl.isList (by simpa using rv.ints) (by unfold scanBound; omega) fun h' tk c hh hl k => ?_
  exact ⟨.ref s.heap.objs.size, upd H s.heap.objs.size (SetO X.w s.heap.objs.size (fun j => decide (j ∈ ks)) c), I.laid (t' := tk) k (Nat.le_refl _) (setO_new hh), rfl, q _ c hn hl⟩
def rSortedSetI (w : World) : List V → Hp → VK → Prop := fun vs H Q => ∃ (a : Addr) (S : Int → Bool) (n : Nat), vs = [V.ref a] ∧ H a = some (SetO w a S n) ∧
  ∀ (ns : List Int) (p : Addr), ns.Pairwise (· < ·) → (∀ k : Int, k ∈ ns ↔ S k = true) → ns.length = n → H p = none → Q (.ref p) (upd H p (.lst (ns.map V.int)))
theorem cr_sortedSetI (hc : X.calm = true) : CallR X (.builtin "sorted") (rSortedSetI X.w) := by
  intro pins s σ H vs us Q I r h
  obtain ⟨a, S, n, rfl, ha, q⟩ := h
  rw [Vals.ref1 r]
  refine inOrder (setO_get I ha) (I.ok.hd hc) fun s' p out c ns k g o hp hg hi hs hm hl n1 => ?_
  have hlen : (ns.map V.int).length ≤ sizeLine := by rw [List.length_map, hl]; exact n1
  have hn : H p = none := I.hok.fresh hp
  have J : Inv X pins σ (upd H p (.lst (ns.map V.int))) { s with heap := s'.heap, gens := s'.gens, drawn := s'.drawn, toks := s'.toks } :=
    I.call (ch := []) (Un.laid k hp hn) (I.hok.laid k hp ⟨hlen, out, c, vals_of_ints hi, hg⟩) (by rw [g]; exact I.bare) (fun _ z => nomatch z)
  have e : s' = { s with heap := s'.heap, gens := s'.gens, drawn := s'.drawn, toks := s'.toks } := by
    cases s'
    cases s
    cases o
    rfl
  rw [e]
  exact ⟨.ref p, _, J, rfl, q ns p hs hm hl hn⟩
end
end Iset

/-! a, b, *rest = t, t a tuple: the names ahead of the star, the rest as a new list -/
namespace Star2
open PySem PySem.Spec PyProof.Rows L2
theorem nolen_ti : typeLookup (.type "tuple_iterator") "__len__" = pure none := by rw [typeLookup_type, builtinLookup_eq_fast]; kernel_rfl
theorem hint_ti : typeLookup (.type "tuple_iterator") "__length_hint__" = pure (some (.builtin "tuple_iterator.__length_hint__")) := by rw [typeLookup_type, builtinLookup_eq_fast]; kernel_rfl
section
variable {prog : Program} {w : World} {A : Around} {E : Value → Shared → Prop} {s : Shared}
/-- the walk of a tuple from its k-th item on -/
theorem from_ {I ax : Addr} {items : Array Value} {k : Nat} (W : Walks prog w A I [I, ax] [I] items.size (fun i v => items[i]? = some v) (fun i h => h.IsTupleIter I ax i ∧ h.IsTuple ax items)) (hk : k ≤ items.size) :
    Walks prog w A I [I, ax] [I] (items.size - k) (fun i v => items[i + k]? = some v) (fun i h => h.IsTupleIter I ax (i + k) ∧ h.IsTuple ax items) where
  sub := W.sub
  frame := fun i => W.frame (i + k)
  item := fun i s Q E hi st q => W.item (i + k) s Q E (by omega) st fun v h' tk pv st' kk => q v h' tk pv ((show i + k + 1 = i + 1 + k by omega) ▸ st') kk
  done := fun s Q E st q => W.done s Q E ((show items.size - k + k = items.size by omega) ▸ st) q
  self := fun i => W.self (i + k)
/-- what is left of the walk, gathered -/
theorem rest {it t : Addr} {items : Array Value} {k : Nat} {Q : List Value → Shared → Prop} (hh : A.handled = none) (hit : s.heap.IsTupleIter it t k) (ht : s.heap.IsTuple t items) (ne : t ≠ it) (hk : k ≤ items.size) (hz : items.size ≤ sizeLine)
    (q : ∀ (h' : Heap) (tk : Nat), (∀ b o, b ≠ it → s.heap.get? b = some o → h'.get? b = some o) → s.heap.objs.size ≤ h'.objs.size → Q (items.toList.drop k) { s with heap := h', toks := tk }) : wpAny (model prog w) A (collect (.ref it)) Q E s := by
  have W := (from_ (Walks.tuple (prog := prog) (w := w) (A := A.in1) hh it t ne items) hk).toS
  obtain ⟨oi, hoi, _⟩ := id hit
  obtain ⟨ot, hot, _⟩ := id ht
  have n1 : s.heap.objs.size ≠ it := Nat.ne_of_gt (Heap.lt_size hoi)
  have n2 : s.heap.objs.size ≠ t := Nat.ne_of_gt (Heap.lt_size hot)
  have nS : s.heap.objs.size ∉ [it, t] := by simp only [List.mem_cons, List.not_mem_nil, or_false, not_or]; exact ⟨n1, n2⟩
  unfold collect
  refine wpAny_bind (wpAny_runValue (codeAny_builtin F.entry_proto_collect ?_))
  rw [Around.under_plainId F.plain_proto_collect _]
  refine wpAny_bind (m := newList []) (wpAny_newObj_type ?_)
  refine wpAny_pure ⟨plainId_quiet F.plain_list_iadd _, codeAny_builtin F.entry_list_iadd ?_⟩
  rw [Around.under_plainId F.plain_list_iadd _]
  generalize eo : ({ cls := .type "list", data := .seq ([] : List Value).toArray } : Obj) = ob
  have at1 : (s.heap.push ob).get? s.heap.objs.size = some ob := Heap.get?_push_size _ (by subst eo; rfl)
  have it1 : (s.heap.push ob).IsTupleIter it t (0 + k) := by rw [Nat.zero_add]; exact hit.at fun o e => Heap.get?_push_of_some _ e
  have ht1 : (s.heap.push ob).IsTuple t items := ht.push _
  have ty : ({ s with heap := s.heap.push ob } : Shared).TypeIs (.ref it) "tuple_iterator" := Heap.IsTupleIter.typeIs (s := { s with heap := s.heap.push ob }) it1
  have other : Builtin.List.listSameRef (.ref s.heap.objs.size) (.ref it) = false := by simp [Builtin.List.listSameRef, n1]
  subst eo
  show wpAny _ A.in1 (Builtin.List.listExtendWith (.ref s.heap.objs.size) (.ref it) (.ref s.heap.objs.size)) _ _ _
  unfold Builtin.List.listExtendWith
  refine wpAny_bind (wpAny_typeOf ty ?_)
  rw [if_neg (by rw [other]; decide)]
  refine wpAny_bind (wpAny_pyIter_tupleiter (s := { s with heap := s.heap.push _ }) it1 ?_)
  refine wpAny_bind (wpAny_holding ?_)
  unfold Builtin.List.listLengthHint
  refine wpAny_bind (wpAny_specialOf ty nolen_ti ?_)
  show wpAny _ A.in1 (specialOf (Value.ref it) (Str.ofString "__length_hint__") >>= _) _ _ _
  refine wpAny_bind (wpAny_specialOf ty hint_ti ?_)
  generalize hid : ("tuple_iterator.__length_hint__" : String) = id0
  wp_delta
  rw [show splitId id0 = some ("tuple_iterator", "__length_hint__") from by subst hid; decide +kernel]
  subst hid
  refine wpAny_bind (wpAny_isInstance (b := true) ty (by rw [isSubtype_type]; kernel_rfl) ?_)
  refine wpAny_pure ?_
  rw [if_neg (by decide)]
  refine wpAny_pure ⟨plainId_quiet F.plain_extend_loop _, codeAny_extend_loopS W (by omega) _ nS _ (items.size - k) 0 _ _ _ rfl (Nat.zero_le _) ⟨it1, ht1⟩ at1 (ItemsOf.nil _) fun s' acc c mv at2 got => ?_⟩
  show wpAny _ A (load s.heap.objs.size >>= _) _ _ s'
  refine wpAny_bind (wpAny_load at2 (wpAny_pure ?_))
  have ea : acc.toList = items.toList.drop k := by
    refine List.ext_getElem? fun i => ?_
    rw [List.getElem?_drop, Array.getElem?_toList, Array.getElem?_toList]
    have hs : acc.size = items.size - k := got.1
    by_cases hi : i < acc.size
    · have z := got.2 i acc[i] (Array.getElem?_eq_getElem hi)
      rw [Array.getElem?_eq_getElem hi, Nat.add_comm k i]
      exact z.symm
    · rw [Array.getElem?_eq_none (by omega), Array.getElem?_eq_none (by omega)]
  show Q acc.toList s'
  rw [ea, Moved.eq_with mv]
  refine q s'.heap s'.toks (fun b o hb e => mv.heap b o (fun hm => ?_) (Heap.get?_push_of_some _ e)) (Nat.le_of_lt (Heap.lt_size at2))
  rcases List.mem_cons.mp hm with z | hm
  · exact absurd (Heap.lt_size e) (by rw [z]; exact Nat.lt_irrefl _)
  · exact hb (List.mem_singleton.mp hm)
theorem items_star {t : Addr} {items : Array Value} {i n : Nat} {Q : List Value → Shared → Prop} (hh : A.handled = none) (ht : IsTup s.heap t items) (hi : i + 1 = n) (hl : i ≤ items.size) (hz : items.size ≤ sizeLine)
    (q : ∀ (h' : Heap) (tk : Nat), (∀ b o, s.heap.get? b = some o → h'.get? b = some o) → s.heap.objs.size ≤ h'.objs.size →
      Q (items.toList.take i ++ [.ref h'.objs.size]) { s with heap := h'.push { cls := .type "list", data := .seq (items.toList.drop i).toArray }, toks := tk }) :
    wpAny (model prog w) A (unpackItems (.ref t) n (some i)) Q E s := by
  have nt : t ≠ s.heap.objs.size := by obtain ⟨o, ho, _⟩ := ht; exact Nat.ne_of_lt (Heap.lt_size ho)
  unfold unpackItems
  refine wpAny_bind ?_
  unfold notIterableAtAll
  refine wpAny_bind (wpAny_specialOf ht.typeIs slot_tuple_iter.lookup (wpAny_pure ?_))
  simp only [Bool.false_eq_true, if_false]
  refine wpAny_bind (wpAny_holding (iter_tuple ht ?_))
  refine wpAny_bind (wpAny_holding (draw_tuple nt i 0 _ _ ⟨_, Heap.get?_push_size _ rfl, rfl, rfl⟩ (ht.push _) (by omega) fun h1 it1 sb => ?_))
  have e1 : List.take i (List.drop 0 items.toList) = items.toList.take i := by rw [List.drop_zero]
  rw [e1]
  have len1 : (items.toList.take i).length = i := by rw [List.length_take, Array.length_toList]; omega
  rw [if_neg (by rw [len1]; omega)]
  have ht1 : IsTup h1 t items := (ht.push _).extBut sb.extBut nt
  obtain ⟨ot, hot, hoc, hod⟩ := id ht1
  obtain ⟨oi, hoi, hic, hid⟩ := id it1
  refine wpAny_bind (wpAny_holding (rest (k := i) hh (by rw [Nat.zero_add] at it1; exact it1) ht1 nt hl hz fun h2 tk k2 z2 => ?_))
  have ea : n - 1 - i = 0 := by omega
  rw [ea]
  try dsimp only
  rw [if_neg (by omega)]
  have em : (items.toList.drop i).length - 0 = (items.toList.drop i).length := rfl
  rw [em, List.take_length, List.drop_length]
  refine wpAny_bind (wpAny_newList ?_ (by rw [List.length_drop, Array.length_toList]; omega))
  refine wpAny_pure ?_
  rw [List.append_nil]
  refine q h2 tk (fun b o e => ?_) ?_
  · have hb : b ≠ s.heap.objs.size := Nat.ne_of_lt (Heap.lt_size e)
    exact k2 b o hb (sb.extBut b o hb (Heap.get?_push_of_some _ e))
  · exact Nat.le_trans (Nat.le_of_lt (Heap.lt_size hoi)) z2
end
section
variable {X : Cx}
/-- names ahead of the star: their targets' readings; then the starred one's -/
def gStar (K : PySem.W.Frag) (i : Nat) (t : TGs) : TG := fun v σ H Q => ∃ a xs, v = .ref a ∧ SqT K H a xs ∧ i ≤ xs.length ∧ ∀ p, H p = none → t (xs.take i ++ [.ref p]) σ (upd H p (.lst (xs.drop i))) Q
theorem pgs_star {e : Expr} {pos : Pos} {t : TG} (h1 : PG X e t) (hs : (assignEach [.Starred e pos] X.env).map (·.2) = [assign e X.env] := by rfl) : PGs X [.Starred e pos] (gCons t gNil) := by
  refine ⟨fun pins s σ H vs us Q I r h => ?_⟩
  obtain ⟨v, vr, rfl, h⟩ := h
  cases r with
  | cons r rr =>
    rw [hs]
    refine assignInOrder_cons (thn (h1.run pins s σ H _ _ _ I r h) fun _ s1 ⟨σ1, H1, I1, e1, q1⟩ => ?_)
    subst e1
    cases rr
    exact assignInOrder_nil ⟨σ1, H1, I1, q1⟩
theorem pg_star {es : List Expr} {k : Nat} {t : TGs} {i : Nat} {pos : Pos} (hc : X.calm = true) (h : PGs X es t) (hn : (assignEach es X.env).length = i + 1 := by rfl) (hst : (assignEach es X.env).findIdx? (·.1) = some i := by rfl) : PG X (.Tuple es k pos) (gStar X.K i t) := by
  refine ⟨fun pins s σ H v u Q I r hw => ?_⟩
  obtain ⟨a, xs, rfl, hq, hl, hw⟩ := hw
  cases r
  obtain ⟨its, rv, ht, hz⟩ := I.tuple hq
  have el := rv.length
  rw [assign_Tuple]
  refine wpAny_bind (wpAny_standAt ?_)
  unfold unpack
  rw [hn, hst]
  refine wpAny_bind (wpAny_holding (items_star (I.ok.hd hc) ht rfl (by simp; omega) (by simp; omega) fun h' tk kk hs => ?_))
  have keep : ∀ b o, s.heap.get? b = some o → (h'.push { cls := .type "list", data := .seq (its.toArray.toList.drop i).toArray }).get? b = some o := fun b o e => Heap.get?_push_of_some _ (kk b o e)
  have hp : H h'.objs.size = none := I.hok.fresh hs
  have new : ObjOk X.prog X.w (upd H h'.objs.size (.lst (xs.drop i))) (h'.push { cls := .type "list", data := .seq (its.toArray.toList.drop i).toArray }) h'.objs.size (.lst (xs.drop i)) :=
    ⟨by rw [List.length_drop]; omega, its.drop i, 0, rv.drop i, by rw [Heap.get?_push_size _ rfl]⟩
  have J : Inv X pins σ (upd H h'.objs.size (.lst (xs.drop i))) { s with heap := h'.push { cls := .type "list", data := .seq (its.toArray.toList.drop i).toArray }, toks := tk } := I.laid keep hs new
  exact h.run pins _ σ _ _ _ Q J (Vals.append (by simpa using rv.take i) (.cons (show RelV (V.ref h'.objs.size) (Value.ref h'.objs.size) from rfl) .nil)) (hw _ hp)
end
end Star2

/-! zip of a tuple and a list: two walks of different kinds side by side -/
namespace Zmix
open PySem PySem.Spec PyProof.Rows L2
/-- what a walk at i over l needs to stand, and stands on -/
def Looks (i l : Addr) (P : Heap → Prop) : Prop := ∀ h h' : Heap, P h → (∀ b o, b = i ∨ b = l → h.get? b = some o → h'.get? b = some o) → P h'
/-- the walk's next item: only the walk's own object moves -/
def Gives (prog : Program) (w : World) (i : Addr) (x : Value) (P P' : Heap → Prop) : Prop :=
  ∀ (A : Around) (E : Value → Shared → Prop) (s : Shared) (Q : Value → Shared → Prop), P s.heap → (∀ h', P' h' → Heap.SameBut i s.heap h' → Q x { s with heap := h' }) → wpAny (model prog w) A (Builtin.SmallTypes.nextOf (.ref i)) Q E s
def Halts (prog : Program) (w : World) (i : Addr) (P : Heap → Prop) : Prop :=
  ∀ (A : Around) (E : Value → Shared → Prop) (s : Shared) (Q : Value → Shared → Prop), A.handled = none → P s.heap → (∀ h' e, Heap.ExtBut i s.heap h' → (∃ o, h'.get? e = some o ∧ o.cls = .type "StopIteration") → E (.ref e) { s with heap := h' }) → wpAny (model prog w) A (Builtin.SmallTypes.nextOf (.ref i)) Q E s
abbrev TW (i l : Addr) (k : Nat) (xs : Array Value) (h : Heap) : Prop := h.IsTupleIter i l k ∧ h.IsTuple l xs
abbrev LW (i l : Addr) (k : Nat) (xs : Array Value) (h : Heap) : Prop := h.IsListIter i l k ∧ h.IsList l xs
theorem looksT (i l : Addr) (k : Nat) (xs : Array Value) : Looks i l (TW i l k xs) := fun h h' p q => ⟨p.1.at fun o e => q i o (.inl rfl) e, by
  obtain ⟨o, ho, r⟩ := p.2
  exact ⟨o, q l o (.inr rfl) ho, r⟩⟩
theorem looksL (i l : Addr) (k : Nat) (xs : Array Value) : Looks i l (LW i l k xs) := fun h h' p q => ⟨p.1.at fun o e => q i o (.inl rfl) e, by
  obtain ⟨o, ho, r⟩ := p.2
  exact ⟨o, q l o (.inr rfl) ho, r⟩⟩
section
variable {prog : Program} {w : World} {A : Around} {E : Value → Shared → Prop} {s : Shared}
theorem givesT {i l : Addr} {k : Nat} {xs : Array Value} {x : Value} (ne : l ≠ i) (hx : xs[k]? = some x) : Gives prog w i x (TW i l k xs) (TW i l (k + 1) xs) := fun A E s Q p q =>
  RZ.nextOf_tuple_item p.1 p.2 hx fun h' a b => q h' ⟨a, p.2.extBut b.extBut ne⟩ b
theorem givesL {i l : Addr} {k : Nat} {xs : Array Value} {x : Value} (ne : l ≠ i) (hx : xs[k]? = some x) : Gives prog w i x (LW i l k xs) (LW i l (k + 1) xs) := fun A E s Q p q =>
  wpAny_nextOf_list_item p.1 p.2 hx fun h' a b => q h' ⟨a, p.2.extBut b.extBut ne⟩ b
theorem haltsT {i l : Addr} {k : Nat} {xs : Array Value} (hx : xs[k]? = none) : Halts prog w i (TW i l k xs) := fun A E s Q hh p q => RZ.nextOf_tuple_end hh p.1 p.2 hx q
/-- the next pair of two walks -/
theorem pair_next {z TI TO i1 i2 l1 l2 : Addr} {P1 P1' P2 P2' : Heap → Prop} {x y a b : Value} {Q : Option Value → Shared → Prop} (D : ZipApart z TI TO i1 i2 l1 l2)
    (k1 : Looks i1 l1 P1) (k1' : Looks i1 l1 P1') (k2 : Looks i2 l2 P2) (k2' : Looks i2 l2 P2') (g1 : Gives prog w i1 x P1 P1') (g2 : Gives prog w i2 y P2 P2')
    (hz : IsZip s.heap z TI TO .none) (hTI : IsPair s.heap TI (.ref i1) (.ref i2)) (hTO : IsPair s.heap TO a b) (p1 : P1 s.heap) (p2 : P2 s.heap)
    (q : ∀ h', IsZip h' z TI TO (rawInt s.heap.objs.size) → IsPair h' TO x y → P1' h' → P2' h' → IsPair h' s.heap.objs.size x y →
      (∀ c o, c ≠ z → c ≠ TO → c ≠ i1 → c ≠ i2 → s.heap.get? c = some o → h'.get? c = some o) → Q (some (.ref s.heap.objs.size)) { s with heap := h' }) :
    wpAny (model prog w) A (pyNext (.ref z)) Q E s := by
  have hT : s.TypeIs (.ref z) "zip" := ⟨_, hz, rfl⟩
  unfold pyNext
  refine wpAny_bind (wpAny_attempt (wpAny_callSpecial?_slot (name := Str.ofString "__next__") hT F.slot_zip_next (wpAny_call_entry F.slot_zip_next hT F.entry_zip_next ?_ (F.args_zip_next_1 _))))
  show wpAny _ _ (field (.ref z) 2 >>= _) _ _ _
  refine wpAny_bind (wpAny_field hz rfl (x := .bool false) rfl ?_)
  show wpAny _ _ (field (.ref z) 3 >>= _) _ _ _
  refine wpAny_bind (wpAny_field hz rfl (x := .ref TI) rfl (wpAny_bind (wpAny_seqItems hTI rfl ?_)))
  show wpAny _ _ (Builtin.SmallTypes.ownedTupleIsFree (.ref z) >>= _) _ _ _
  unfold Builtin.SmallTypes.ownedTupleIsFree
  refine wpAny_bind (wpAny_bind (wpAny_field hz rfl (x := .none) rfl (wpAny_pure ?_)))
  simp only [if_true]
  refine wpAny_bind (wpAny_rule (wpAny_bind (wpAny_field hz rfl (x := .ref TO) rfl ?_)))
  refine wpAny_bind (wpAny_setField_rec hz (by simp) fun hA zA sA => ?_)
  simp only [List.zipIdx_cons, List.zipIdx_nil, List.forIn_cons, List.forIn_nil]
  have uA : ∀ c o, c ≠ z → s.heap.get? c = some o → hA.get? c = some o := fun c o n e => sA.extBut _ _ n e
  refine wpAny_bind (wpAny_bind (wpAny_bind (wpAny_onRaise ?_)))
  refine wpAny_bind (g1 _ _ _ _ (k1 _ _ p1 fun c o hc e => uA c o (by rcases hc with r | r <;> rw [r]; exact D.i1z; exact D.l1z) e) fun hB pB sB => wpAny_pure ?_)
  have uB : ∀ c o, c ≠ z → c ≠ i1 → s.heap.get? c = some o → hB.get? c = some o := fun c o n m e => sB.extBut _ _ m (uA c o n e)
  have tB : IsPair hB TO a b := uB _ _ D.TOz D.TOi1 hTO
  refine wpAny_bind (wpAny_seqItems tB rfl (wpAny_bind (wpAny_updateSeq_pair tB fun hC tC sC => wpAny_bind (wpAny_letGo (wpAny_pure ?_)))))
  have uC : ∀ c o, c ≠ z → c ≠ i1 → c ≠ TO → s.heap.get? c = some o → hC.get? c = some o := fun c o n m k e => sC.extBut _ _ k (uB c o n m e)
  replace tC : IsPair hC TO x b := tC
  refine wpAny_bind (wpAny_bind (wpAny_onRaise ?_))
  refine wpAny_bind (g2 _ _ _ _ (k2 _ _ p2 fun c o hc e => uC c o (by rcases hc with r | r <;> rw [r]; exact D.i2z; exact D.l2z) (by rcases hc with r | r <;> rw [r]; exact D.i12.symm; exact D.l2i1) (by rcases hc with r | r <;> rw [r]; exact D.TOi2.symm; exact D.l2TO) e) fun hD pD sD => wpAny_pure ?_)
  have tD : IsPair hD TO x b := sD.extBut _ _ D.TOi2 tC
  refine wpAny_bind (wpAny_seqItems tD rfl (wpAny_bind (wpAny_updateSeq_pair tD fun hF tF sF => wpAny_bind (wpAny_letGo (wpAny_pure (wpAny_pure ?_))))))
  replace tF : IsPair hF TO x y := tF
  have uF : ∀ c o, c ≠ z → c ≠ i1 → c ≠ TO → c ≠ i2 → s.heap.get? c = some o → hF.get? c = some o := fun c o n m k j e => sF.extBut _ _ k (sD.extBut _ _ j (uC c o n m k e))
  have same : hF.objs.size = s.heap.objs.size := by rw [sF.1, sD.1, sC.1, sB.1, sA.1]
  have zF := sF.extBut _ _ D.TOz.symm (sD.extBut _ _ D.i2z.symm (sC.extBut _ _ D.TOz.symm (sB.extBut _ _ D.i1z.symm zA)))
  have f1 : P1' hF := k1' hB hF pB fun c o hc e => sF.extBut _ _ (by rcases hc with r | r <;> rw [r]; exact D.TOi1.symm; exact D.l1TO) (sD.extBut _ _ (by rcases hc with r | r <;> rw [r]; exact D.i12; exact D.l1i2) (sC.extBut _ _ (by rcases hc with r | r <;> rw [r]; exact D.TOi1.symm; exact D.l1TO) e))
  have f2 : P2' hF := k2' hD hF pD fun c o hc e => sF.extBut _ _ (by rcases hc with r | r <;> rw [r]; exact D.TOi2.symm; exact D.l2TO) e
  refine wpAny_bind (wpAny_seqItems tF rfl (wpAny_bind (wpAny_newTuple ?_)))
  show wpAny _ _ (Builtin.SmallTypes.ownedTupleHandOut (.ref z) (.ref hF.objs.size) >>= _) _ _ _
  unfold Builtin.SmallTypes.ownedTupleHandOut
  refine wpAny_bind (wpAny_bind (wpAny_setField_rec (Heap.get?_push_of_some _ zF) (by simp) fun hG zG sG => wpAny_setField_rec zG (by simp) fun hI zI sI => wpAny_pure ?_))
  have zlt : z < hF.objs.size := Heap.lt_size zF
  have up : ∀ c o, c ≠ z → hF.get? c = some o → hI.get? c = some o := fun c o n e => sI.extBut _ _ n (sG.extBut _ _ n (Heap.get?_push_of_some _ e))
  have new : IsPair hI hF.objs.size x y := sI.extBut _ _ (Nat.ne_of_gt zlt) (sG.extBut _ _ (Nat.ne_of_gt zlt) (Heap.get?_push_size _ rfl))
  have zE : IsZip hI z TI TO (rawInt hF.objs.size) := zI
  rw [same] at new zE
  refine ⟨_, rfl, wpAny_pure ?_⟩
  show Q (some (.ref hF.objs.size)) _
  rw [same]
  exact q hI zE (up _ _ D.TOz tF) (k1' _ _ f1 fun c o hc e => up c o (by rcases hc with r | r <;> rw [r]; exact D.i1z; exact D.l1z) e) (k2' _ _ f2 fun c o hc e => up c o (by rcases hc with r | r <;> rw [r]; exact D.i2z; exact D.l2z) e) new
    fun c o n m j k e => up c o n (uF c o n j m k e)
/-- the first walk is at its end -/
theorem pair_end {z TI TO i1 i2 l1 l2 : Addr} {P1 : Heap → Prop} {a b : Value} {Q : Option Value → Shared → Prop} (hh : A.handled = none) (D : ZipApart z TI TO i1 i2 l1 l2)
    (k1 : Looks i1 l1 P1) (g1 : Halts prog w i1 P1) (hz : IsZip s.heap z TI TO .none) (hTI : IsPair s.heap TI (.ref i1) (.ref i2)) (hTO : IsPair s.heap TO a b) (p1 : P1 s.heap)
    (q : ∀ h', (∀ c o, c ≠ z → c ≠ TO → c ≠ i1 → c ≠ i2 → s.heap.get? c = some o → h'.get? c = some o) → Q none { s with heap := h' }) : wpAny (model prog w) A (pyNext (.ref z)) Q E s := by
  have hT : s.TypeIs (.ref z) "zip" := ⟨_, hz, rfl⟩
  unfold pyNext
  refine wpAny_bind (wpAny_attempt (wpAny_callSpecial?_slot (name := Str.ofString "__next__") hT F.slot_zip_next (wpAny_call_entry F.slot_zip_next hT F.entry_zip_next ?_ (F.args_zip_next_1 _))))
  show wpAny _ _ (field (.ref z) 2 >>= _) _ _ _
  refine wpAny_bind (wpAny_field hz rfl (x := .bool false) rfl ?_)
  show wpAny _ _ (field (.ref z) 3 >>= _) _ _ _
  refine wpAny_bind (wpAny_field hz rfl (x := .ref TI) rfl (wpAny_bind (wpAny_seqItems hTI rfl ?_)))
  show wpAny _ _ (Builtin.SmallTypes.ownedTupleIsFree (.ref z) >>= _) _ _ _
  unfold Builtin.SmallTypes.ownedTupleIsFree
  refine wpAny_bind (wpAny_bind (wpAny_field hz rfl (x := .none) rfl (wpAny_pure ?_)))
  simp only [if_true]
  refine wpAny_bind (wpAny_rule (wpAny_bind (wpAny_field hz rfl (x := .ref TO) rfl ?_)))
  refine wpAny_bind (wpAny_setField_rec hz (by simp) fun hA zA sA => ?_)
  simp only [List.zipIdx_cons, List.zipIdx_nil, List.forIn_cons, List.forIn_nil]
  have uA : ∀ c o, c ≠ z → s.heap.get? c = some o → hA.get? c = some o := fun c o n e => sA.extBut _ _ n e
  refine wpAny_bind (wpAny_bind (wpAny_bind (wpAny_onRaise ?_)))
  refine wpAny_bind (g1 _ _ _ _ hh (k1 _ _ p1 fun c o hc e => uA c o (by rcases hc with r | r <;> rw [r]; exact D.i1z; exact D.l1z) e) fun hB e sB he => ?_)
  obtain ⟨oe, hoe, hce⟩ := he
  have zB := sB _ _ D.i1z.symm zA
  have ne : e ≠ z := fun r => by
    subst r
    rw [zB] at hoe
    cases hoe
    simp at hce
  refine wpAny_setField_rec zB (by simp) fun hC zC sC => ?_
  refine wpAny_bind (wpAny_isInstance (T := "StopIteration") (b := true) ⟨oe, sC.extBut _ _ ne hoe, hce⟩ isSubtype_stop ?_)
  exact wpAny_pure (q _ fun c o n m j k r => sC.extBut _ _ n (sB _ _ j (uA c o n r)))
end
abbrev hp1 (h : Heap) (l1 : Addr) : Heap := h.push { cls := .type "tuple_iterator", data := .fields #[.ref l1, .int 0 0] }
abbrev hp2 (h : Heap) (l1 l2 : Addr) : Heap := (hp1 h l1).push { cls := .type "list_iterator", data := .fields #[.ref l2, .int 0 0] }
abbrev hp3 (h : Heap) (l1 l2 : Addr) : Heap := (hp2 h l1 l2).push { cls := .type "tuple", data := .seq #[.ref h.objs.size, .ref (hp1 h l1).objs.size] }
abbrev hp4 (h : Heap) (l1 l2 : Addr) : Heap := (hp3 h l1 l2).push { cls := .type "tuple", data := .seq #[.none, .none] }
abbrev hp5 (h : Heap) (l1 l2 : Addr) : Heap := (hp4 h l1 l2).push { cls := .type "zip", data := .fields #[.none, .bool false, .bool false, .ref (hp2 h l1 l2).objs.size, .ref (hp3 h l1 l2).objs.size] }
theorem made (l1 l2 : Addr) (xs ys : Array Value) : Meets (Builtin.«zip.__new__» ⟨[.type "zip", .ref l1, .ref l2], []⟩) (fun _ R s => s.heap.IsTuple l1 xs ∧ s.heap.IsList l2 ys ∧ R (.ok (.ret (.ref (hp4 s.heap l1 l2).objs.size))) { s with heap := hp5 s.heap l1 l2 }) :=
  .of_wp fun prog w A R s q => by
    obtain ⟨hp, g, d, tk, os⟩ := s
    obtain ⟨t1, t2, q⟩ := q
    have hsub := sub_zip
    have w1 : Heap.IsTuple (Shared.heap ⟨hp, g, d, tk, os⟩) l1 xs := t1
    have w2 : Heap.IsList (Shared.heap ⟨hp.push { cls := .type "tuple_iterator", data := .fields #[.ref l1, .int 0 0] }, g, d, tk, os⟩) l2 ys := Heap.IsList.push t2 _
    wp_walk using wpAny_pyIter_tuple w1, wpAny_pyIter_list w2
    exact ⟨_, rfl, q⟩
theorem call_mix {prog : Program} {w : World} {A : Around} {E : Value → Shared → Prop} {s : Shared} {l1 l2 : Addr} {xs ys : Array Value} {Q : Value → Shared → Prop} (t1 : s.heap.IsTuple l1 xs) (t2 : s.heap.IsList l2 ys)
    (q : ∀ h', IsZip h' (s.heap.objs.size + 4) (s.heap.objs.size + 2) (s.heap.objs.size + 3) .none → IsPair h' (s.heap.objs.size + 2) (.ref s.heap.objs.size) (.ref (s.heap.objs.size + 1)) →
      IsPair h' (s.heap.objs.size + 3) .none .none → h'.IsTupleIter s.heap.objs.size l1 0 → h'.IsListIter (s.heap.objs.size + 1) l2 0 → (∀ c o, s.heap.get? c = some o → h'.get? c = some o) → Q (.ref (s.heap.objs.size + 4)) { s with heap := h' }) :
    wpAny (model prog w) A (call (.type "zip") [.ref l1, .ref l2]) Q E s := by
  refine callType_new F.called_zip (by decide) (F.typeCall_zip_2 _ _) (F.newCall_zip_2 _ _) (fun obj => F.args_object_init_3 obj _ _) F.entry_zip_new (made l1 l2 xs ys) ⟨t1, t2, ?_⟩
  have e1 : (hp1 s.heap l1).objs.size = s.heap.objs.size + 1 := Heap.size_push ..
  have e2 : (hp2 s.heap l1 l2).objs.size = s.heap.objs.size + 2 := by rw [Heap.size_push, e1]
  have e3 : (hp3 s.heap l1 l2).objs.size = s.heap.objs.size + 3 := by rw [Heap.size_push, e2]
  have e4 : (hp4 s.heap l1 l2).objs.size = s.heap.objs.size + 4 := by rw [Heap.size_push, e3]
  have a5 : (hp5 s.heap l1 l2).get? (hp4 s.heap l1 l2).objs.size = some _ := Heap.get?_push_size _ rfl
  have a4 : (hp5 s.heap l1 l2).get? (hp3 s.heap l1 l2).objs.size = some _ := Heap.get?_push_of_some _ (Heap.get?_push_size _ rfl)
  have a3 : (hp5 s.heap l1 l2).get? (hp2 s.heap l1 l2).objs.size = some _ := Heap.get?_push_of_some _ (Heap.get?_push_of_some _ (Heap.get?_push_size _ rfl))
  have a2 : (hp5 s.heap l1 l2).get? (hp1 s.heap l1).objs.size = some _ := Heap.get?_push_of_some _ (Heap.get?_push_of_some _ (Heap.get?_push_of_some _ (Heap.get?_push_size _ rfl)))
  have a1 : (hp5 s.heap l1 l2).get? s.heap.objs.size = some _ := Heap.get?_push_of_some _ (Heap.get?_push_of_some _ (Heap.get?_push_of_some _ (Heap.get?_push_of_some _ (Heap.get?_push_size _ rfl))))
  show _ ∧ _
  rw [e2, e3, e4] at a5
  rw [e1, e2] at a3
  rw [e3] at a4
  rw [e1] at a2
  rw [e4]
  exact ⟨⟨_, a5, rfl⟩, q _ a5 a3 a4 ⟨_, a1, rfl, rfl⟩ ⟨_, a2, rfl, rfl⟩ fun c o z => Heap.get?_push_of_some _ (Heap.get?_push_of_some _ (Heap.get?_push_of_some _ (Heap.get?_push_of_some _ (Heap.get?_push_of_some _ z))))⟩
/-- the tuple at a and the list at b as they stand at each turn -/
def ItM (K : PySem.W.Frag) (a b : Addr) : It :=
  ⟨fun i H => ∃ (xs ys : List V) (x y : V), SqT K H a xs ∧ SqL K H b ys ∧ xs[i]? = some x ∧ ys[i]? = some y,
    fun i H v H' => ∃ T x y, v = .ref T ∧ H T = none ∧ H' = upd H T (.tup [x, y]) ∧ (∀ xs, SqT K H a xs → xs[i]? = some x) ∧ ∀ ys, SqL K H b ys → ys[i]? = some y,
    fun i H => ∃ xs : List V, SqT K H a xs ∧ xs.length ≤ i⟩
theorem five {a b c d e : Addr} {x : Addr} (h : x ∈ [a, b, c, d, e]) : x = a ∨ x = b ∨ x = c ∨ x = d ∨ x = e := by simpa using h
theorem turn_mix {P : Program} {w : World} {K : PySem.W.Frag} {elts : List Expr} {kk : Nat} {tpos : Pos} {a b z TI TO i1 i2 : Addr} (D : ZipApart z TI TO i1 i2 a b) :
    Turn P w K (.Tuple elts kk tpos) (ItM K a b) [z, TI, TO, i1, i2] z (fun i h => IsZip h z TI TO .none ∧ IsPair h TI (.ref i1) (.ref i2) ∧ (∃ x y, IsPair h TO x y) ∧ h.IsTupleIter i1 a i ∧ h.IsListIter i2 b i) where
  mem := List.mem_cons_self
  obj := fun i h st c hc => by
    obtain ⟨hz, hTI, ⟨x, y, hTO⟩, ⟨o1, e1, _, d1⟩, ⟨o2, e2, _, d2⟩⟩ := st
    rcases five hc with r | r | r | r | r <;> rw [r]
    · exact ⟨_, hz, fun v q => nomatch q⟩
    · exact ⟨_, hTI, fun v q => nomatch q⟩
    · exact ⟨_, hTO, fun v q => nomatch q⟩
    · exact ⟨o1, e1, fun v q => by rw [d1] at q; cases q⟩
    · exact ⟨o2, e2, fun v q => by rw [d2] at q; cases q⟩
  keep := fun i h h' st k => by
    obtain ⟨hz, hTI, ⟨x, y, hTO⟩, h1, h2⟩ := st
    exact ⟨k z (by simp) _ hz, k TI (by simp) _ hTI, ⟨x, y, k TO (by simp) _ hTO⟩, h1.at fun o q => k i1 (by simp) o q, h2.at fun o q => k i2 (by simp) o q⟩
  item := by
    intro X hP hw hK hc i pins s σ H E I hf st hg
    subst hP hw hK
    obtain ⟨hz, hTI, ⟨x0, y0, hTO⟩, h1, h2⟩ := st
    obtain ⟨xs, ys, x, y, hqx, hqy, hx, hy⟩ := hg
    obtain ⟨its, rv, p, _⟩ := I.tuple hqx
    obtain ⟨its2, rv2, p2, _⟩ := I.list hqy
    obtain ⟨u, hu, ru⟩ := rv.get hx
    obtain ⟨u2, hu2, ru2⟩ := rv2.get hy
    have hzl : z < s.heap.objs.size := Heap.lt_size hz
    refine pair_next D (looksT i1 a i its.toArray) (looksT i1 a (i + 1) its.toArray) (looksL i2 b i its2.toArray) (looksL i2 b (i + 1) its2.toArray) (givesT (x := u) D.l1i1 (by simpa using hu)) (givesL (x := u2) D.l2i2 (by simpa using hu2)) hz hTI hTO ⟨h1, p⟩ ⟨h2, p2.isList⟩ fun h' z' TO' h1' h2' hT hk => ?_
    refine ⟨_, rfl, wpAny_letOwnedTupleGo_zip (s := { s with heap := h' }) z' fun h'' z'' sb => ?_⟩
    have hT2 : h''.get? s.heap.objs.size = some { cls := .type "tuple", data := .seq #[u, u2] } := (sb.2 _ (Nat.ne_of_gt hzl)).trans hT
    have new : ObjOk X.prog X.w (upd H s.heap.objs.size (.tup [x, y])) h'' s.heap.objs.size (.tup [x, y]) := ⟨by show 2 ≤ sizeLine; decide, [u, u2], .cons ru (.cons ru2 .nil), ⟨_, hT2, rfl, _, rfl⟩⟩
    have I1 : Inv X pins σ (upd H s.heap.objs.size (.tup [x, y])) { s with heap := h'' } := I.turnedNew (t' := s.toks) (ch := [z, TI, TO, i1, i2])
      (fun c o hb q => (sb.2 c (fun r => hb (by simp [r]))).trans (hk c o (fun r => hb (by simp [r])) (fun r => hb (by simp [r])) (fun r => hb (by simp [r])) (fun r => hb (by simp [r])) q)) hf (Nat.le_refl _) new
    refine ⟨.ref s.heap.objs.size, _, I1, rfl, ⟨_, x, y, rfl, I.hok.fresh (Nat.le_refl _), rfl, fun l hl => by rw [I.tuple_inj hl hqx]; exact hx, fun l hl => by rw [I.list_inj hl hqy]; exact hy⟩, ⟨z'', (sb.2 _ D.TIz).trans (hk _ _ D.TIz D.TITO D.TIi1 D.TIi2 hTI), ⟨u, u2, (sb.2 _ D.TOz).trans TO'⟩, h1'.1.at fun o q => (sb.2 _ D.i1z).trans q, h2'.1.at fun o q => (sb.2 _ D.i2z).trans q⟩, fun c hcm => ?_⟩
    have hlt : c < s.heap.objs.size := by
      rcases five hcm with r | r | r | r | r <;> rw [r]
      · exact hzl
      · exact Heap.lt_size hTI
      · exact Heap.lt_size hTO
      · obtain ⟨_, e1, _⟩ := h1
        exact Heap.lt_size e1
      · obtain ⟨_, e2, _⟩ := h2
        exact Heap.lt_size e2
    rw [upd_ne (Nat.ne_of_lt hlt)]
    exact (hf c hcm).1
  done := by
    intro X hP hw hK hc i pins s σ H E I hf st hg
    subst hP hw hK
    obtain ⟨hz, hTI, ⟨x0, y0, hTO⟩, h1, h2⟩ := st
    obtain ⟨xs, hqx, hend⟩ := hg
    obtain ⟨its, rv, p, _⟩ := I.tuple hqx
    have e := rv.length
    exact pair_end (I.ok.hd hc) D (looksT i1 a i its.toArray) (haltsT (by simp; omega)) hz hTI hTO ⟨h1, p⟩ fun h' hk => ⟨rfl, I.turnedL (t' := s.toks) (ch := [z, TI, TO, i1, i2])
      (fun c o hb q => hk c o (fun r => hb (by simp [r])) (fun r => hb (by simp [r])) (fun r => hb (by simp [r])) (fun r => hb (by simp [r])) q) hf⟩
  self := fun A i s Q E st h => wpAny_pyIter_zip st.1 h
def iZipM (K : PySem.W.Frag) (ta : TA) : TI := fun σ H R => ta σ H fun vs H1 => ∃ a b xs ys, vs = [.ref a, .ref b] ∧ SqT K H1 a xs ∧ SqL K H1 b ys ∧ R (ItM K a b) H1
theorem pi_zipM {X : Cx} {e e2 : Expr} {ta : TA} {p pos tpos : Pos} {elts : List Expr} {kk : Nat} (hg : Gl X "zip") (hm : X.mg "zip" = none) (ha : PA X [e, e2] ta)
    (hs : starEach [e, e2] X.env = (false, eval e X.env) :: starEach [e2] X.env := by rfl) (hpl : (backTo pos (starEach [e2] X.env)).any (·.1) = false := by rfl) :
    PI X (.Tuple elts kk tpos) (.Call (.Name "zip" p) [e, e2] [] pos) (iZipM X.K ta) := by
  refine ⟨fun pins s σ H R I h => Call_ (ld_blt I hg hm PyProof.Rows.boot_zip (PyProof.Rows.callWith_type1 (thn (ha.run pos pins s σ H _ I h) fun us s1 ⟨vs, H1, I1, r1, q1⟩ => ?_) hs hpl))⟩
  obtain ⟨a, b, xs, ys, ex, hqx, hqy, q⟩ := q1
  subst ex
  cases r1 with
  | cons r rr =>
    cases rr with
    | cons r' rr =>
      cases rr
      cases r
      cases r'
      obtain ⟨its, rv, p1, _⟩ := I1.tuple hqx
      obtain ⟨its2, rv2, p2, _⟩ := I1.list hqy
      obtain ⟨o1, ho1, _⟩ := id p1
      refine call_mix (show s1.heap.IsTuple a its.toArray from p1) p2.isList fun h' hz hTI hTO h1 h2 hk => wpAny_pyIter_zip hz ?_
      have I2 : Inv X pins σ H1 { s1 with heap := h' } := I1.kept (t' := s1.toks) hk
      refine ⟨s1.heap.objs.size + 4, [s1.heap.objs.size + 4, s1.heap.objs.size + 2, s1.heap.objs.size + 3, s1.heap.objs.size, s1.heap.objs.size + 1], _, _, H1, rfl, I2, turn_mix (PySem.W.ktu_apart s1.heap.objs.size a b (Heap.lt_size ho1) p2.lt), ⟨hz, hTI, ⟨_, _, hTO⟩, h1, h2⟩, fun c hcm => ?_, q⟩
      have hle : s1.heap.objs.size ≤ c := by
        rcases five hcm with z | z | z | z | z <;> rw [z]
        · exact Nat.le_add_right _ _
        · exact Nat.le_add_right _ _
        · exact Nat.le_add_right _ _
        · exact Nat.le_refl _
        · exact Nat.le_add_right _ _
      exact I1.fpOk hle (I1.hok.fresh hle)
/-- a loop over the two, of one length -/
theorem for_mix {K : PySem.W.Frag} {a b : Addr} {xs ys : List V} {g : TG} {tb : TS} {D : Ends} {σ : L2.St} {H : Hp} (hl : xs.length = ys.length) (Pv : Nat → L2.St → Hp → Prop) (h0 : Pv 0 σ H) (hq : ∀ i σ H, Pv i σ H → SqT K H a xs ∧ SqL K H b ys)
    (hs : ∀ (i : Nat) (x y : V) (T : Addr) (σ : L2.St) (H : Hp), xs[i]? = some x → ys[i]? = some y → Pv i σ H → H T = none → g (.ref T) σ (upd H T (.tup [x, y])) fun σ2 H2 => tb { D with nx := Pv (i + 1), ct := Pv (i + 1), bk := D.nx } σ2 H2) (hd : ∀ σ H, Pv xs.length σ H → D.nx σ H) :
    ∃ W : Nat → Nat → L2.St → Hp → Prop, (∃ m, W 0 m σ H) ∧ ∀ i m σ H, W i m σ H →
      ((ItM K a b).stop i H ∧ D.nx σ H) ∨ ((ItM K a b).go i H ∧ ∃ N : L2.St → Hp → Prop, (∀ σ' H', N σ' H' → ∃ m', m' < m ∧ W (i + 1) m' σ' H') ∧ ∀ v H', (ItM K a b).yld i H v H' → g v σ H' fun σ2 H2 => tb { D with nx := N, ct := N, bk := D.nx } σ2 H2) := by
  refine ⟨fun i m σ H => m + i = xs.length ∧ Pv i σ H, ⟨xs.length, Nat.add_zero _, h0⟩, fun i m σ H => ?_⟩
  rintro ⟨hm, p⟩
  obtain ⟨qx, qy⟩ := hq i σ H p
  cases m with
  | zero =>
    have e : i = xs.length := by omega
    subst e
    exact .inl ⟨⟨xs, qx, Nat.le_refl _⟩, hd σ H p⟩
  | succ m =>
    have l1 : i < xs.length := by omega
    have l2 : i < ys.length := by omega
    refine .inr ⟨⟨xs, ys, _, _, qx, qy, List.getElem?_eq_getElem l1, List.getElem?_eq_getElem l2⟩, Pv (i + 1), fun σ' H' p' => ⟨m, Nat.lt_succ_self _, by omega, p'⟩, fun v H' y => ?_⟩
    obtain ⟨T, x', y', rfl, hT, rfl, f1, f2⟩ := y
    exact hs i x' y' T σ H (f1 xs qx) (f2 ys qy) p hT
end Zmix

namespace TX
open PySem PySem.Spec PyProof.Rows L2
variable {X : Cx}
theorem cut_whole {xs : List V} {lo hi : Option Int} (h : HT.sIx xs.length 0 lo = 0 ∧ HT.sIx xs.length xs.length hi = xs.length) : cutV xs lo hi = xs := by
  unfold cutV
  rw [h.1, h.2, List.drop_zero, Nat.sub_zero, List.take_length]
/-- t[lo:hi], whole or not -/
def rSlX (K : PySem.W.Frag) : V → Option Int → Option Int → Hp → VK → Prop := fun x lo hi H Q => ∃ a xs, x = .ref a ∧ SqT K H a xs ∧ ∀ (p : Addr) (H' : Hp), Same H H' → SqT K H' p (cutV xs lo hi) → Q (.ref p) H'
theorem sl_any : SlR X (rSlX X.K) := by
  intro pins s σ H x v vl vu lo hi sl Q I rx hs pl pu ⟨a, xs, ex, hx, q⟩
  refine sl_tupA pins s σ H x v vl vu lo hi sl Q I rx hs pl pu ⟨a, xs, ex, hx, fun hw => q a H (Same.refl H) (by rw [cut_whole hw]; exact hx), fun _ p np => q p _ (fun b o e => ?_) (.inl (.inl upd_same))⟩
  rw [upd_ne (ne_of_none e np)]
  exact e
/-- t + u, none of them empty -/
def rCatX (K : PySem.W.Frag) : R2 := fun x y H Q => ∃ a b xs ys, x = .ref a ∧ y = .ref b ∧ SqT K H a xs ∧ SqT K H b ys ∧ xs ≠ [] ∧ ys ≠ [] ∧ xs.length + ys.length ≤ sizeLine ∧ ∀ p, H p = none → Q (.ref p) (upd H p (.tup (xs ++ ys)))
theorem op_cat2 : OpR X (binaryOp .Add) (rCatX X.K) := by
  intro pins s σ H x y v u Q I rx ry ⟨a, b, xs, ys, ex, ey, ha, hb, nx, ny, hz, q⟩
  exact op_catA pins s σ H x y v u Q I rx ry ⟨a, b, xs, ys, ex, ey, ha, hb, hz, fun e => absurd e nx, fun _ e => absurd e ny, fun _ _ => q⟩
end TX

namespace TT
open PySem PySem.Spec PyProof.Rows L2
variable {X : Cx}
/-- t[lo:hi] of a tuple that is told: a told tuple -/
def rSlT2 (K : PySem.W.Frag) : V → Option Int → Option Int → Hp → VK → Prop := fun x lo hi H Q => ∃ a xs, x = .ref a ∧ H a = some (.tup xs) ∧ ∀ (p : Addr) (H' : Hp), Same H H' → H' p = some (.tup (cutV xs lo hi)) → Q (.ref p) H'
theorem sl_t : SlR X (rSlT2 X.K) := by
  intro pins s σ H x v vl vu lo hi sl Q I rx hs pl pu ⟨a, xs, ex, hx, q⟩
  refine sl_tupA pins s σ H x v vl vu lo hi sl Q I rx hs pl pu ⟨a, xs, ex, .inl (.inl hx), fun hw => q a H (Same.refl H) (by rw [TX.cut_whole hw]; exact hx), fun _ p np => q p _ (fun b o e => ?_) upd_same⟩
  rw [upd_ne (ne_of_none e np)]
  exact e
/-- t + u of told tuples -/
def rCatT2 (K : PySem.W.Frag) : R2 := fun x y H Q => ∃ a b xs ys, x = .ref a ∧ y = .ref b ∧ H a = some (.tup xs) ∧ H b = some (.tup ys) ∧ xs.length + ys.length ≤ sizeLine ∧ ∀ (p : Addr) (H' : Hp), Same H H' → H' p = some (.tup (xs ++ ys)) → Q (.ref p) H'
theorem op_cat_t : OpR X (binaryOp .Add) (rCatT2 X.K) := by
  intro pins s σ H x y v u Q I rx ry ⟨a, b, xs, ys, ex, ey, ha, hb, hz, q⟩
  refine op_catA pins s σ H x y v u Q I rx ry ⟨a, b, xs, ys, ex, ey, .inl (.inl ha), .inl (.inl hb), hz, fun e => q b H (Same.refl H) (by rw [e]; exact hb), fun _ e => q a H (Same.refl H) (by rw [e, List.append_nil]; exact ha), fun _ _ p np => q p _ (fun b o e => ?_) upd_same⟩
  rw [upd_ne (ne_of_none e np)]
  exact e
end TT

/-! // by a divisor of any size. CPython may hand such a division to _pylong: that nothing of the program stands in its way is known of the heap behind the top. -/
namespace Big
open PySem PySem.Spec PyProof.Rows L2
section
variable {X : Cx}
theorem op_fdivP (hN : X.base.NoSeer) (ht : X.prog.given.tree = none) (hs : X.stack = X.env :: X.outer) (hg : X.env.scope.isGenerator = false) (hc : X.env.scope.isCoroutine = false) (hd : X.A.depth + 100 < recursionLimit) :
    OpR X (binaryOp .FloorDiv) (rI (fun _ j => 0 < j) fun i j => .int (i / j)) := by
  intro pins s σ H x y v u Q I rx ry h
  obtain ⟨i, j, rfl, rfl, hj, q⟩ := h
  obtain ⟨t, rfl⟩ := rx
  obtain ⟨t', rfl⟩ := ry
  have hj' : (0 : Int) < j := hj
  have room : PylongRoom (model X.prog X.w) X.A s :=
    PylongRoom.of I.nolimit hd (SeerAt.of (env := X.env) (l := X.outer) (hN.keeps I.bk) ht (by rw [I.ok.frames, hs]) hg hc I.ok.blt I.ok.glob)
  refine floordiv_int (by omega) ?_ (.inr room)
  rw [Int.fdiv_eq_ediv_of_nonneg i (by omega)]
  exact ⟨.int _, H, I.tok _, ⟨_, rfl⟩, q⟩
end
section
variable {P : Program} {w : World} {K : PySem.W.Frag} {mg mb : Str → Option Value} {s : Shared} {a : Addr} {vs : List Value}
/-- the heap without what is tracked: what no list stands for is still there -/
theorem hid_ns {H : Hp} (ha : s.heap.get? a = some { cls := .type "list", data := .seq vs.toArray }) (only : ∀ b, H b ≠ none → b = a) {b : Addr} {m : Str → Option Value} (x : s.heap.Ns b m) : (hidT s.heap H).Ns b m := by
  obtain ⟨o, es, ep, e, d, r⟩ := x
  refine ⟨o, es, ep, hidT_get e ?_, d, r⟩
  refine Classical.byContradiction fun n => ?_
  rw [only b n, ha] at e
  cases e
  cases d
theorem hid_get {H : Hp} (ha : s.heap.get? a = some { cls := .type "list", data := .seq vs.toArray }) (only : ∀ b, H b ≠ none → b = a) {b : Addr} {o : Obj} (e : s.heap.get? b = some o) (hc : o.cls ≠ .type "list") : (hidT s.heap H).get? b = some o := by
  refine hidT_get e (Classical.byContradiction fun n => ?_)
  rw [only b n, ha] at e
  cases e
  exact hc rfl
theorem hid_seer {H : Hp} (ha : s.heap.get? a = some { cls := .type "list", data := .seq vs.toArray }) (only : ∀ b, H b ≠ none → b = a) (x : s.heap.NoSeer) : (hidT s.heap H).NoSeer where
  statics := let ⟨m, p, q⟩ := x.statics; ⟨m, hid_ns ha only p, q⟩
  mods := let ⟨m, p, q⟩ := x.mods; ⟨m, hid_ns ha only p, q⟩
  imp := let ⟨m, p, q⟩ := x.imp; ⟨m, hid_ns ha only p, q⟩
  main := let ⟨m, bm, ob, p, q, e, c, d⟩ := x.main; ⟨m, bm, ob, hid_ns ha only p, q, hid_get ha only e (by rw [c]; decide), c, d⟩
/-- the law's call, entered: the base is known to be free of what a great division asks for -/
theorem entered {CX : CXT} {k : Nat} {fa : Addr} {fd : FuncData} {x : Str} {sp : Sp} {ns : List Int} (KX : K.In s.heap) (hmain : s.heap.Ns mainGlobals mg) (hb : s.heap.Ns builtinsNs mb) (hbb : ∀ x : Str, x ≠ "__name__" → mb x = bootBuiltins x) (hlim : s.heap.NoLimit) (seer : s.heap.NoSeer) (hg : s.gens = #[])
    (ha : s.heap.get? a = some { cls := .type "list", data := .seq vs.toArray }) (hi : IntsAre vs ns) (hl : ns.length ≤ sizeLine) (hr : Room k callerA)
    (F : ∀ base : Heap, K.In base → base.Ns mainGlobals mg → base.NoSeer → FnOk P w K mg base CX k fa fd [x] sp) (bind : ∀ (s : Shared) (u : Value), BindsTo s fd ⟨[u], []⟩ [(x, u)])
    (hsp : ∀ H : Hp, Only H → SqL K H a (ns.map V.int) → sp [.ref a] H (fun v _ => v = .bl true) fun _ _ _ => False) (hCX : ∀ H e s', CX [] H s (fun _ _ _ => False) e s' → False) :
    codeAny (model P w) callerA (.call (.ref fa) ⟨[.ref a], []⟩) (fun r s' => r = .ok (.ret (.bool true)) ∧ OldK s.heap s'.heap ∧ s'.os = s.os ∧ AllBare s'.gens) s := by
  have rv := vals_ints hi
  obtain ⟨H, hO, hS, ok, only, kno⟩ : ∃ H : Hp, Only H ∧ SqL K H a (ns.map V.int) ∧ HOk P w H s.heap ∧ (∀ b, H b ≠ none → b = a) ∧ (H a ≠ none → K.lookup a = none) := by
    cases hk : K.lookup a with
    | some o =>
      have e := KX a o hk
      rw [ha] at e
      cases e
      refine ⟨fun _ => none, fun _ => .inl rfl, .inr ⟨_, vs.toArray, _, hk, rfl, rfl, rfl, by rw [List.size_toArray, hi.length]; exact hl, by simpa using rv⟩, ?_, fun b z => absurd rfl z, fun z => absurd rfl z⟩
      intro b u z
      have z' : (none : Option HO) = some u := z
      cases z'
    | none =>
      have new : ∀ b, b ≠ a → (upd (fun _ => none) a (.frz { cls := .type "list", data := .seq vs.toArray } (.lst (ns.map V.int)))) b = none := fun b n => upd_ne n
      refine ⟨upd (fun _ => none) a (.frz { cls := .type "list", data := .seq vs.toArray } (.lst (ns.map V.int))), fun b => ?_, .inl (.inr ⟨_, upd_same⟩), fun b u z => ?_, fun b z => ?_, fun _ => rfl⟩
      · by_cases e : b = a
        · exact .inr ⟨_, _, by rw [e, upd_same]⟩
        · exact .inl (new b e)
      · by_cases e : b = a
        · subst e
          rw [upd_same] at z
          cases z
          exact ⟨ha, by rw [List.length_map]; exact hl, vs, _, rv, ha⟩
        · rw [new b e] at z
          cases z
      · exact Classical.byContradiction fun e => z (new b e)
  have KB : K.In (hidT s.heap H) := fun b o e => hidT_get (KX b o e) (Classical.byContradiction fun n => by
    have eb := only b n
    subst eb
    rw [kno n] at e
    cases e)
  have M : Mod K mg (hidT s.heap H) := ⟨KB, hid_ns ha only hmain, ⟨mb, hid_ns ha only hb, hbb⟩, let ⟨mc, p, q⟩ := hlim; ⟨mc, hid_ns ha only p, q⟩⟩
  have e0 : Env0 P w K mg (hidT s.heap H) callerA [] s H := ⟨rfl, M, fun b o e => of_hidT e, Nat.le_of_eq (hidT_size _ _), trivial, (fun b z => by cases z), ok, .of_eq hg⟩
  refine codeAny_mono ((F _ KB (hid_ns ha only hmain) (hid_seer ha only seer)).run callerA [] s H ⟨[.ref a], []⟩ [.ref a] [.ref a] _ _ hr e0 (bind s (.ref a)) (.cons rfl .nil) (hsp H hO hS)) fun r s' h => ?_
  rcases r with e | fl
  · exact (hCX H e s' h).elim
  cases fl with
  | ret u =>
    obtain ⟨v, H', os, bare, un, ok', r', q⟩ := h
    have ev : v = .bl true := q
    subst ev
    obtain rfl : u = Value.bool true := r'
    refine ⟨rfl, OldK.of_keep fun b o e => ?_, os, bare⟩
    cases hb' : H b with
    | none => exact un.keep b o e hb' (by intro z; cases z) (by simp)
    | some u =>
      rcases hO b with z | ⟨ob, xs, z⟩
      · rw [hb'] at z
        cases z
      · obtain ⟨e1, _⟩ := ok b _ z
        obtain ⟨e2, _⟩ := ok' b _ (un.frzs b ob _ z)
        rw [e] at e1
        cases e1
        exact e2
  | _ => exact h.elim
end
end Big
namespace Big
open PySem PySem.W PySem.Calls PyProof.Rows
theorem attach {l : OpenLaw} {n : Nat} {q : Program} {loose : List Str} {XP : (Str → Option Value) → Heap → Prop} {YP : World → Heap → Prop} {d : DefRec} (hn : l.most = some n) (hdf : d.params.defaults = [])
    (call : ∀ (w : World) (s₀ s₁ : Shared) (mg mb : Str → Option Value) (fa a : Addr) (vs : List Value) (ns : List Int), Ground q loose [] XP w s₀ mg mb s₁.heap → YP w s₁.heap → mg d.name = some (.ref fa) →
      s₁.heap.get? a = some { cls := .type "list", data := .seq vs.toArray } → IntsAre vs ns → ns.length ≤ n → (∀ k ∈ ns, Builtin.Int.intBits k ≤ 1048576) → s₁.gens = #[] →
      codeAny (model l.prog w) callerA (.call (.ref fa) ⟨[.ref a], []⟩) (fun r s' => r = .ok (.ret (.bool true)) ∧ OldK s₁.heap s'.heap ∧ s'.os = s₁.os ∧ AllBare s'.gens) s₁) :
    WalkO q loose XP YP l.row.toRowW d [] (fun f vs => PySem.call f vs) :=
  Att.attach_callB hn hdf fun w s₀ s₁ mg mb fa _ _ _ _ a vs ns G Y _ _ _ hm ho hi hl hb hg => call w s₀ s₁ mg mb fa a vs ns G Y hm ho hi hl hb hg
end Big
namespace Big
open PySem PySem.Spec PyProof.Rows L2
theorem walk {l : PySem.W.OpenLaw} {n k : Nat} {q : Program} {loose : List Str} {XP : (Str → Option Value) → Heap → Prop} {YP : World → Heap → Prop} {d : DefRec} {K : Params → PySem.W.Frag} {CX : World → CXT} {sp : World → Sp} {x : Str}
    (hn : l.most = some n) (hn2 : n ≤ sizeLine) (hdf : d.params.defaults = []) (hr : Room k callerA) (hi : importsNone q = true) (hY : ∀ (w : World) (h : Heap), YP w h → (K w.params).In h)
    (F : ∀ (w : World) (mg : Str → Option Value) (fa : Addr) (h : Heap), (K w.params).In h → h.Ns mainGlobals mg → mg d.name = some (.ref fa) →
      ∃ fd : FuncData, (∀ (s : Shared) (u : Value), BindsTo s fd ⟨[u], []⟩ [(x, u)]) ∧ ∀ base : Heap, (K w.params).In base → base.Ns mainGlobals mg → base.NoSeer → FnOk l.prog w (K w.params) mg base (CX w) k fa fd [x] (sp w))
    (hsp : ∀ (w : World) (H : Hp) (a : Addr) (ns : List Int), ns.length ≤ n → (∀ z ∈ ns, Builtin.Int.intBits z ≤ 1048576) → Only H → SqL (K w.params) H a (ns.map V.int) → sp w [.ref a] H (fun v _ => v = .bl true) fun _ _ _ => False)
    (hCX : ∀ (w : World) (H : Hp) (s : Shared) (e : Value) (s' : Shared), CX w [] H s (fun _ _ _ => False) e s' → False) : PySem.W.WalkO q loose XP YP l.row.toRowW d [] (fun f vs => PySem.call f vs) := by
  refine Big.attach hn hdf fun w s₀ s₁ mg mb fa a vs ns G Y hm ho hi2 hl hb hg => ?_
  obtain ⟨fd, bd, FF⟩ := F w mg fa _ (hY w _ Y) G.T.g hm
  exact entered (hY w _ Y) G.T.g G.T.b G.T.builtins G.T.nolimit (G.T.seer hi) hg ho hi2 (Nat.le_trans hl hn2) hr FF bd (fun H hO hS => hsp w H a ns hl hb hO hS) fun H e s' => hCX w H s₁ e s'
end Big
namespace Big
open PySem PySem.Spec PyProof.Rows L2
section
variable {X : Cx}
/-- // by a divisor of any size, in a comprehension's block: the frame is that of the def around it -/
theorem op_fdivB (hN : X.base.NoSeer) (ht : X.prog.given.tree = none) {e : Env} {l : List Env} (hs : X.stack = e :: l) (hg : e.scope.isGenerator = false) (hc : e.scope.isCoroutine = false) (hb : e.builtins = builtinsNs) (hgl : e.globals = mainGlobals) (hd : X.A.depth + 100 < recursionLimit) :
    OpR X (binaryOp .FloorDiv) (rI (fun _ j => 0 < j) fun i j => .int (i / j)) := by
  intro pins s σ H x y v u Q I rx ry h
  obtain ⟨i, j, rfl, rfl, hj, q⟩ := h
  obtain ⟨t, rfl⟩ := rx
  obtain ⟨t', rfl⟩ := ry
  have hj' : (0 : Int) < j := hj
  have room : PylongRoom (model X.prog X.w) X.A s :=
    PylongRoom.of I.nolimit hd (SeerAt.of (env := e) (l := l) (hN.keeps I.bk) ht (by rw [I.ok.frames, hs]) hg hc hb hgl)
  refine floordiv_int (by omega) ?_ (.inr room)
  rw [Int.fdiv_eq_ediv_of_nonneg i (by omega)]
  exact ⟨.int _, H, I.tok _, ⟨_, rfl⟩, q⟩
end
end Big

/-! enumerate(list, start=c) -/
namespace Enum1
open PySem PySem.Spec PyProof.Rows L2
section
variable {M : Model} {A : Around} {E : Value → Shared → Prop} {s : Shared} {env : Env}
/-- a built-in class called with names -/
theorem with_names {pos : Pos} {T : String} {e : Expr} {rest : List Expr} {kws : List Keyword} {Q : Value → Shared → Prop}
    (h : wpAny M A (spliced (backTo pos (starEach (e :: rest) env))) (fun vs s₁ => wpAny M A (evalAll ((backToKw pos (keywordEach kws env)).map (·.2)))
      (fun kvs s₂ => wpAny M A (call (.type T) vs (((backToKw pos (keywordEach kws env)).filterMap (·.1)).zip kvs)) Q E s₂) E s₁) E s)
    (he : backTo pos (starEach (e :: rest) env) = (false, eval e env) :: backTo pos (starEach rest env) := by rfl)
    (hp : (backTo pos (starEach (e :: rest) env)).any (·.1) = false := by rfl)
    (hall : (backToKw pos (keywordEach kws env)).all (·.1.isSome) = true := by rfl)
    (hkw : (backToKw pos (keywordEach kws env)).any (·.1.isNone) = false := by rfl) :
    wpAny M A (callWith pos (.type T) [] (backTo pos (starEach (e :: rest) env)) (backToKw pos (keywordEach kws env))) Q E s := by
  have args : wpAny M A (evalArgs (.type T) true (backTo pos (starEach (e :: rest) env)) (backToKw pos (keywordEach kws env))) (fun a s₁ => wpAny M A (call (.type T) ([] ++ a.pos) a.kw) Q E s₁) E s := by
    rw [he] at h ⊢
    exact evalArgs_kwB hall h
  unfold callWith
  refine wpAny_bind (wpAny_holding (wpAny_mono args (fun a s₁ h₁ => wpAny_bind (wpAny_standAt ?_)) fun _ _ x => x))
  simp only [hp, hkw, Bool.or_false]
  refine wpAny_bind (wpAny_pure ?_)
  exact wpAny_bind (wpAny_mono h₁ (fun r s₂ hr => wpAny_bind (wpAny_holding (wpAny_point (wpAny_pure hr)))) fun _ _ x => x)
end
/-- the list at a as it stands at each turn, each item behind its number -/
def Itc (K : PySem.W.Frag) (a : Addr) (c : Int) : It :=
  ⟨fun i H => ∃ (xs : List V) (x : V), SqL K H a xs ∧ xs[i]? = some x, fun i H v H' => ∃ T x, v = .ref T ∧ H T = none ∧ H' = upd H T (.tup [.int (c + (i : Int)), x]) ∧ ∀ xs, SqL K H a xs → xs[i]? = some x, fun i H => ∃ xs : List V, SqL K H a xs ∧ xs.length = i⟩
theorem turn_c {P : Program} {w : World} {K : PySem.W.Frag} {elts : List Expr} {kk : Nat} {tpos : Pos} (a e it : Addr) (c : Int) :
    Turn P w K (.Tuple elts kk tpos) (Itc K a c) [e, it] e (fun i h => (∃ old, IsEnum h e it (c + (i : Int)) old) ∧ h.IsListIter it a i ∧ e ≠ it ∧ a ≠ it ∧ a ≠ e) where
  mem := List.mem_cons_self
  obj := fun i h st b hb => by
    obtain ⟨⟨old, he⟩, ⟨o, ho, hc, hd⟩, _⟩ := st
    rcases List.mem_cons.mp hb with z | z
    · rw [z]
      exact ⟨_, he, fun v q => nomatch q⟩
    · rw [List.mem_singleton.mp z]
      exact ⟨o, ho, fun v q => by rw [hd] at q; cases q⟩
  keep := fun i h h' st k => let ⟨⟨old, he⟩, hi, ne⟩ := st; ⟨⟨old, k e (by simp) _ he⟩, hi.at fun o q => k it (by simp) o q, ne⟩
  item := by
    intro X hP hw hK hc i pins s σ H E I hf st hg
    subst hP hw hK
    obtain ⟨⟨old, he⟩, hit, hne, hai, hae⟩ := st
    obtain ⟨xs, x, hq, hx⟩ := hg
    obtain ⟨its, rv, p, hz⟩ := I.list hq
    obtain ⟨u, hu, ru⟩ := rv.get hx
    have hel : e < s.heap.objs.size := Heap.lt_size he
    have hil : it < s.heap.objs.size := by obtain ⟨_, q, _⟩ := hit; exact Heap.lt_size q
    have hlt : i < its.toArray.size := by
      have := (List.getElem?_eq_some_iff.mp hu).1
      simpa using this
    refine wpAny_pyNext_enum_itemC (Draws.list (A := X.A.in1) (I.ok.hd hc) it a hai its.toArray) he ⟨hit, p.isList⟩ hlt hne (by simp only [List.mem_cons, List.not_mem_nil, or_false, not_or]; exact ⟨hne, hae.symm⟩) fun x' h' tk hx' ho hst hT hsz hk => ?_
    have ex : x' = u := by
      have h1 : its.toArray[i]? = some u := by simpa using hu
      exact Option.some.inj (hx'.symm.trans h1)
    subst ex
    refine ⟨_, rfl, wpAny_letOwnedTupleGo_enum (s := { s with heap := h', toks := tk + 1 }) ho fun h'' he' sb => ?_⟩
    have hT2 : h''.get? s.heap.objs.size = some { cls := .type "tuple", data := .seq #[.int (c + (i : Int)) tk, x'] } := (sb.2 _ (Nat.ne_of_gt hel)).trans hT
    have new : ObjOk X.prog X.w (upd H s.heap.objs.size (.tup [.int (c + (i : Int)), x])) h'' s.heap.objs.size (.tup [.int (c + (i : Int)), x]) :=
      ⟨by show 2 ≤ sizeLine; decide, [.int (c + (i : Int)) tk, x'], .cons ⟨_, rfl⟩ (.cons ru .nil), ⟨_, hT2, rfl, _, rfl⟩⟩
    have I1 : Inv X pins σ (upd H s.heap.objs.size (.tup [.int (c + (i : Int)), x])) { s with heap := h'', toks := tk + 1 } :=
      I.turnedNew (ch := [e, it]) (fun b ob hb q => (sb.2 b (fun z => hb (by simp [z]))).trans (hk b ob (fun z => hb (by simp [z])) (fun z => hb (by simp [z])) q)) hf (Nat.le_refl _) new
    refine ⟨.ref s.heap.objs.size, _, I1, rfl, ⟨_, x, rfl, I.hok.fresh (Nat.le_refl _), rfl, fun ys hy => by rw [I.list_inj hy hq]; exact hx⟩, ⟨⟨x', ?_⟩, hst.1.at fun o q => (sb.2 it (Ne.symm hne)).trans q, hne, hai, hae⟩, fun b hb => ?_⟩
    · have e1 : c + ((i + 1 : Nat) : Int) = c + (i : Int) + 1 := by omega
      rw [e1]
      exact he'
    · have hb' : b < s.heap.objs.size := by
        rcases List.mem_cons.mp hb with z | z
        · rw [z]
          exact hel
        · rw [List.mem_singleton.mp z]
          exact hil
      rw [upd_ne (Nat.ne_of_lt hb')]
      exact (hf b hb).1
  done := by
    intro X hP hw hK hc i pins s σ H E I hf st hg
    subst hP hw hK
    obtain ⟨⟨old, he⟩, hit, hne, hai, hae⟩ := st
    obtain ⟨xs, hq, hx⟩ := hg
    obtain ⟨its, rv, p, hz⟩ := I.list hq
    obtain ⟨f0, f1, f2, f3, f4, f5⟩ := hf it (by simp)
    have hl := rv.length
    have hi : i = its.toArray.size := by rw [List.size_toArray]; omega
    subst hi
    exact wpAny_pyNext_enum_endD (Draws.list (A := X.A.in1) (I.ok.hd hc) it a hai its.toArray) he ⟨hit, p.isList⟩ fun h' eb => ⟨rfl, I.turned (t' := s.toks) (fun b o hb q => eb b o hb q) f0 f1 f3 f4 f5⟩
  self := fun A i s Q E st h => let ⟨⟨_, he⟩, _⟩ := st; wpAny_pyIter_enum he h
def iEnumC (K : PySem.W.Frag) (ta tk : TA) : TI := fun σ H R => ta σ H fun vs H1 => tk σ H1 fun zs H2 => ∃ (a : Addr) (xs : List V) (c : Int), vs = [.ref a] ∧ zs = [.int c] ∧ -(2 ^ 63) ≤ c ∧ c < 2 ^ 63 ∧ SqL K H2 a xs ∧ R (Itc K a c) H2
theorem pi_enumC {X : Cx} {e : Expr} {kws : List Keyword} {ta tk : TA} {p pos tpos : Pos} {elts : List Expr} {kk : Nat} (hg : Gl X "enumerate") (hm : X.mg "enumerate" = none) (ha : PA X [e] ta) (hk : PK X kws tk)
    (he : backTo pos (starEach [e] X.env) = (false, eval e X.env) :: backTo pos (starEach [] X.env) := by rfl) (hpl : (backTo pos (starEach [e] X.env)).any (·.1) = false := by rfl)
    (hall : (backToKw pos (keywordEach kws X.env)).all (·.1.isSome) = true := by rfl) (hnone : (backToKw pos (keywordEach kws X.env)).any (·.1.isNone) = false := by rfl) (hks : (backToKw pos (keywordEach kws X.env)).filterMap (·.1) = [Str.ofString "start"] := by rfl) :
    PI X (.Tuple elts kk tpos) (.Call (.Name "enumerate" p) [e] kws pos) (iEnumC X.K ta tk) := by
  refine ⟨fun pins s σ H R I h => ?_⟩
  refine wpAny_Call_Name_kw (ld_blt I hg hm boot_enumerate ?_)
  refine with_names (thn (ha.run pos pins s σ H _ I h) fun us s1 ⟨vs, H1, I1, r1, q1⟩ => thn (hk.run pos pins s1 σ H1 _ I1 q1) fun ws s2 ⟨zs, H2, I2, r2, q2⟩ => ?_) he hpl hall hnone
  rw [hks]
  obtain ⟨a, xs, c, ex, ez, c0, c1, hq, q⟩ := q2
  subst ex ez
  cases r1 with
  | cons r rr =>
    cases rr
    cases r
    cases r2 with
    | cons r' rr =>
      cases rr
      obtain ⟨t, rfl⟩ := r'
      obtain ⟨its, rv, p', hz⟩ := I2.list hq
      have hal : a < s2.heap.objs.size := p'.lt
      refine enum_begins_start (begins_list a its.toArray) p'.isList c0 c1 fun h' hE hO hsz hk => wpAny_pyIter_enum hE ?_
      have I3 : Inv X pins σ H2 { s2 with heap := h' } := I2.kept (t' := s2.toks) hk
      refine ⟨s2.heap.objs.size + 1, [s2.heap.objs.size + 1, s2.heap.objs.size], _, _, H2, rfl, I3, turn_c a (s2.heap.objs.size + 1) s2.heap.objs.size c,
        ⟨⟨.none, by have e0 : c + ((0 : Nat) : Int) = c := by omega
                    rw [e0]
                    exact hE⟩, ⟨_, hO, rfl, rfl⟩, Nat.succ_ne_self _, Nat.ne_of_lt hal, Nat.ne_of_lt (Nat.lt_succ_of_lt hal)⟩, fun b hb => ?_, q⟩
      have hle : s2.heap.objs.size ≤ b := by
        rcases List.mem_cons.mp hb with z | z
        · rw [z]
          exact Nat.le_succ _
        · rw [List.mem_singleton.mp z]
          exact Nat.le_refl _
      exact I2.fpOk hle (I2.hok.fresh hle)
theorem for_enumC {K : PySem.W.Frag} {a : Addr} {c : Int} {xs : List V} {g : TG} {tb : TS} {D : Ends} {σ : L2.St} {H : Hp} (Pv : Nat → L2.St → Hp → Prop) (h0 : Pv 0 σ H) (hq : ∀ i σ H, Pv i σ H → SqL K H a xs)
    (hs : ∀ (i : Nat) (x : V) (T : Addr) (σ : L2.St) (H : Hp), xs[i]? = some x → Pv i σ H → H T = none → g (.ref T) σ (upd H T (.tup [.int (c + (i : Int)), x])) fun σ2 H2 => tb { D with nx := Pv (i + 1), ct := Pv (i + 1), bk := D.nx } σ2 H2) (hd : ∀ σ H, Pv xs.length σ H → D.nx σ H) :
    ∃ W : Nat → Nat → L2.St → Hp → Prop, (∃ m, W 0 m σ H) ∧ ∀ i m σ H, W i m σ H →
      ((Itc K a c).stop i H ∧ D.nx σ H) ∨ ((Itc K a c).go i H ∧ ∃ N : L2.St → Hp → Prop, (∀ σ' H', N σ' H' → ∃ m', m' < m ∧ W (i + 1) m' σ' H') ∧ ∀ v H', (Itc K a c).yld i H v H' → g v σ H' fun σ2 H2 => tb { D with nx := N, ct := N, bk := D.nx } σ2 H2) := by
  refine ⟨fun i m σ H => m + i = xs.length ∧ Pv i σ H, ⟨xs.length, Nat.add_zero _, h0⟩, fun i m σ H => ?_⟩
  rintro ⟨hm, p⟩
  have qx := hq i σ H p
  cases m with
  | zero =>
    have e : i = xs.length := by omega
    subst e
    exact .inl ⟨⟨xs, qx, rfl⟩, hd σ H p⟩
  | succ m =>
    have l1 : i < xs.length := by omega
    refine .inr ⟨⟨xs, _, qx, List.getElem?_eq_getElem l1⟩, Pv (i + 1), fun σ' H' p' => ⟨m, Nat.lt_succ_self _, by omega, p'⟩, fun v H' y => ?_⟩
    obtain ⟨T, x', rfl, hT, rfl, f1⟩ := y
    exact hs i x' T σ H (f1 xs qx) p hT
end Enum1

/-! enumerate(tuple), enumerate(tuple, start=c); walks within a comprehension -/
namespace EnumT
open PySem PySem.Spec PyProof.Rows L2
/-- the tuple at a, each item behind its number -/
def Itd (K : PySem.W.Frag) (a : Addr) (c : Int) : It :=
  ⟨fun i H => ∃ (xs : List V) (x : V), SqT K H a xs ∧ xs[i]? = some x, fun i H v H' => ∃ T x, v = .ref T ∧ H T = none ∧ H' = upd H T (.tup [.int (c + (i : Int)), x]) ∧ ∀ xs, SqT K H a xs → xs[i]? = some x, fun i H => ∃ xs : List V, SqT K H a xs ∧ xs.length = i⟩
theorem turn_d {P : Program} {w : World} {K : PySem.W.Frag} {elts : List Expr} {kk : Nat} {tpos : Pos} (a e it : Addr) (c : Int) :
    Turn P w K (.Tuple elts kk tpos) (Itd K a c) [e, it] e (fun i h => (∃ old, IsEnum h e it (c + (i : Int)) old) ∧ h.IsTupleIter it a i ∧ e ≠ it ∧ a ≠ it ∧ a ≠ e) where
  mem := List.mem_cons_self
  obj := fun i h st b hb => by
    obtain ⟨⟨old, he⟩, ⟨o, ho, hc, hd⟩, _⟩ := st
    rcases List.mem_cons.mp hb with z | z
    · rw [z]
      exact ⟨_, he, fun v q => nomatch q⟩
    · rw [List.mem_singleton.mp z]
      exact ⟨o, ho, fun v q => by rw [hd] at q; cases q⟩
  keep := fun i h h' st k => let ⟨⟨old, he⟩, hi, ne⟩ := st; ⟨⟨old, k e (by simp) _ he⟩, hi.at fun o q => k it (by simp) o q, ne⟩
  item := by
    intro X hP hw hK hc i pins s σ H E I hf st hg
    subst hP hw hK
    obtain ⟨⟨old, he⟩, hit, hne, hai, hae⟩ := st
    obtain ⟨xs, x, hq, hx⟩ := hg
    obtain ⟨its, rv, p, hz⟩ := I.tuple hq
    have pt : s.heap.IsTuple a its.toArray := p
    obtain ⟨u, hu, ru⟩ := rv.get hx
    have hel : e < s.heap.objs.size := Heap.lt_size he
    have hil : it < s.heap.objs.size := by obtain ⟨_, q, _⟩ := hit; exact Heap.lt_size q
    have hlt : i < its.toArray.size := by
      have := (List.getElem?_eq_some_iff.mp hu).1
      simpa using this
    refine wpAny_pyNext_enum_itemC (Draws.tuple (A := X.A.in1) (I.ok.hd hc) it a hai its.toArray) he ⟨hit, pt⟩ hlt hne (by simp only [List.mem_cons, List.not_mem_nil, or_false, not_or]; exact ⟨hne, hae.symm⟩) fun x' h' tk hx' ho hst hT hsz hk => ?_
    have ex : x' = u := by
      have h1 : its.toArray[i]? = some u := by simpa using hu
      exact Option.some.inj (hx'.symm.trans h1)
    subst ex
    refine ⟨_, rfl, wpAny_letOwnedTupleGo_enum (s := { s with heap := h', toks := tk + 1 }) ho fun h'' he' sb => ?_⟩
    have hT2 : h''.get? s.heap.objs.size = some { cls := .type "tuple", data := .seq #[.int (c + (i : Int)) tk, x'] } := (sb.2 _ (Nat.ne_of_gt hel)).trans hT
    have new : ObjOk X.prog X.w (upd H s.heap.objs.size (.tup [.int (c + (i : Int)), x])) h'' s.heap.objs.size (.tup [.int (c + (i : Int)), x]) :=
      ⟨by show 2 ≤ sizeLine; decide, [.int (c + (i : Int)) tk, x'], .cons ⟨_, rfl⟩ (.cons ru .nil), ⟨_, hT2, rfl, _, rfl⟩⟩
    have I1 : Inv X pins σ (upd H s.heap.objs.size (.tup [.int (c + (i : Int)), x])) { s with heap := h'', toks := tk + 1 } :=
      I.turnedNew (ch := [e, it]) (fun b ob hb q => (sb.2 b (fun z => hb (by simp [z]))).trans (hk b ob (fun z => hb (by simp [z])) (fun z => hb (by simp [z])) q)) hf (Nat.le_refl _) new
    refine ⟨.ref s.heap.objs.size, _, I1, rfl, ⟨_, x, rfl, I.hok.fresh (Nat.le_refl _), rfl, fun ys hy => by rw [I.tuple_inj hy hq]; exact hx⟩, ⟨⟨x', ?_⟩, hst.1.at fun o q => (sb.2 it (Ne.symm hne)).trans q, hne, hai, hae⟩, fun b hb => ?_⟩
    · have e1 : c + ((i + 1 : Nat) : Int) = c + (i : Int) + 1 := by omega
      rw [e1]
      exact he'
    · have hb' : b < s.heap.objs.size := by
        rcases List.mem_cons.mp hb with z | z
        · rw [z]
          exact hel
        · rw [List.mem_singleton.mp z]
          exact hil
      rw [upd_ne (Nat.ne_of_lt hb')]
      exact (hf b hb).1
  done := by
    intro X hP hw hK hc i pins s σ H E I hf st hg
    subst hP hw hK
    obtain ⟨⟨old, he⟩, hit, hne, hai, hae⟩ := st
    obtain ⟨xs, hq, hx⟩ := hg
    obtain ⟨its, rv, p, hz⟩ := I.tuple hq
    have pt : s.heap.IsTuple a its.toArray := p
    obtain ⟨f0, f1, f2, f3, f4, f5⟩ := hf it (by simp)
    have hl := rv.length
    have hi : i = its.toArray.size := by rw [List.size_toArray]; omega
    subst hi
    exact wpAny_pyNext_enum_endD (Draws.tuple (A := X.A.in1) (I.ok.hd hc) it a hai its.toArray) he ⟨hit, pt⟩ fun h' eb => ⟨rfl, I.turned (t' := s.toks) (fun b o hb q => eb b o hb q) f0 f1 f3 f4 f5⟩
  self := fun A i s Q E st h => let ⟨⟨_, he⟩, _⟩ := st; wpAny_pyIter_enum he h
set_option maxHeartbeats 1000000 in
theorem makes1 {v : Value} {o : Obj} {G : Heap → Prop} (B : Begins v o G) :
    Meets (Builtin.«enumerate.__new__» ⟨[.type "enumerate", v], []⟩) (fun _ R s => G s.heap ∧
      R (.ok (.ret (.ref (s.heap.push o).objs.size))) { s with heap := (s.heap.push o).push { cls := .type "enumerate", data := .fields #[.none, .bool false, .ref s.heap.objs.size, rawInt 0, .none, .none] } }) :=
  .of_wp fun prog w A R s h => by
    obtain ⟨hp, g, d, tk, os⟩ := s; obtain ⟨g1, h⟩ := h
    have hsub := sub_enumerate
    have q1 : ∀ {A' : Around} {E : Value → Shared → Prop} {Q : Value → Shared → Prop}, Q (.ref hp.objs.size) ⟨hp.push o, g, d, tk, os⟩ → wpAny (model prog w) A' (pyIter v) Q E ⟨hp, g, d, tk, os⟩ :=
      fun q => B.iter prog w _ _ ⟨hp, g, d, tk, os⟩ _ g1 q
    wp_walk using q1
    refine wpAny_stack_any fun st => wpAny_pure ?_
    split
    · rename_i c _ _ _ _ _
      cases (c == Value.type "enumerate")
      · wp_walk using q1
        exact ⟨_, rfl, h⟩
      · wp_walk using q1
        exact ⟨_, rfl, h⟩
    · wp_walk using q1
      exact ⟨_, rfl, h⟩
theorem begins1 {prog : Program} {w : World} {A : Around} {E : Value → Shared → Prop} {s : Shared} {v : Value} {o : Obj} {G : Heap → Prop} {Q : Value → Shared → Prop} (B : Begins v o G) (g1 : G s.heap)
    (h : ∀ h', IsEnum h' (s.heap.objs.size + 1) s.heap.objs.size 0 .none → h'.get? s.heap.objs.size = some o → (∀ b ob, s.heap.get? b = some ob → h'.get? b = some ob) → Q (.ref (s.heap.objs.size + 1)) { s with heap := h' }) :
    wpAny (model prog w) A (call (.type "enumerate") [v]) Q E s := by
  refine callType_new F.called_enumerate (by decide) (F.typeCall_enumerate_1 _) (F.newCall_enumerate_1 _) (fun obj => F.args_object_init_2 obj _) F.entry_enumerate_new (makes1 B) ⟨g1, ?_⟩
  have hz : (s.heap.push o).objs.size = s.heap.objs.size + 1 := Heap.size_push ..
  show _ ∧ _
  rw [hz]
  have ee : IsEnum ((s.heap.push o).push { cls := .type "enumerate", data := .fields #[.none, .bool false, .ref s.heap.objs.size, rawInt 0, .none, .none] }) (s.heap.objs.size + 1) s.heap.objs.size 0 .none := by
    have y := Heap.get?_push_size (s.heap.push o) (o := { cls := .type "enumerate", data := .fields #[.none, .bool false, .ref s.heap.objs.size, rawInt 0, .none, .none] }) rfl
    rw [hz] at y
    exact y
  exact ⟨⟨_, ee, rfl⟩, h _ ee (Heap.get?_push_of_some _ (Heap.get?_push_size _ B.free)) fun b ob x => Heap.get?_push_of_some _ (Heap.get?_push_of_some _ x)⟩
def iEnumD (K : PySem.W.Frag) (ta tk : TA) : TI := fun σ H R => ta σ H fun vs H1 => tk σ H1 fun zs H2 => ∃ (a : Addr) (xs : List V) (c : Int), vs = [.ref a] ∧ zs = [.int c] ∧ -(2 ^ 63) ≤ c ∧ c < 2 ^ 63 ∧ SqT K H2 a xs ∧ R (Itd K a c) H2
theorem pi_enumD {X : Cx} {e : Expr} {kws : List Keyword} {ta tk : TA} {p pos tpos : Pos} {elts : List Expr} {kk : Nat} (hg : Gl X "enumerate") (hm : X.mg "enumerate" = none) (ha : PA X [e] ta) (hk : PK X kws tk)
    (he : backTo pos (starEach [e] X.env) = (false, eval e X.env) :: backTo pos (starEach [] X.env) := by rfl) (hpl : (backTo pos (starEach [e] X.env)).any (·.1) = false := by rfl)
    (hall : (backToKw pos (keywordEach kws X.env)).all (·.1.isSome) = true := by rfl) (hnone : (backToKw pos (keywordEach kws X.env)).any (·.1.isNone) = false := by rfl) (hks : (backToKw pos (keywordEach kws X.env)).filterMap (·.1) = [Str.ofString "start"] := by rfl) :
    PI X (.Tuple elts kk tpos) (.Call (.Name "enumerate" p) [e] kws pos) (iEnumD X.K ta tk) := by
  refine ⟨fun pins s σ H R I h => ?_⟩
  refine wpAny_Call_Name_kw (ld_blt I hg hm boot_enumerate ?_)
  refine Enum1.with_names (thn (ha.run pos pins s σ H _ I h) fun us s1 ⟨vs, H1, I1, r1, q1⟩ => thn (hk.run pos pins s1 σ H1 _ I1 q1) fun ws s2 ⟨zs, H2, I2, r2, q2⟩ => ?_) he hpl hall hnone
  rw [hks]
  obtain ⟨a, xs, c, ex, ez, c0, c1, hq, q⟩ := q2
  subst ex ez
  cases r1 with
  | cons r rr =>
    cases rr
    cases r
    cases r2 with
    | cons r' rr =>
      cases rr
      obtain ⟨t, rfl⟩ := r'
      obtain ⟨its, rv, p', hz⟩ := I2.tuple hq
      have pt : s2.heap.IsTuple a its.toArray := p'
      have hal : a < s2.heap.objs.size := p'.lt
      refine enum_begins_start (begins_tuple a its.toArray) pt c0 c1 fun h' hE hO hsz hk => wpAny_pyIter_enum hE ?_
      have I3 : Inv X pins σ H2 { s2 with heap := h' } := I2.kept (t' := s2.toks) hk
      refine ⟨s2.heap.objs.size + 1, [s2.heap.objs.size + 1, s2.heap.objs.size], _, _, H2, rfl, I3, turn_d a (s2.heap.objs.size + 1) s2.heap.objs.size c,
        ⟨⟨.none, by have e0 : c + ((0 : Nat) : Int) = c := by omega
                    rw [e0]
                    exact hE⟩, ⟨_, hO, rfl, rfl⟩, Nat.succ_ne_self _, Nat.ne_of_lt hal, Nat.ne_of_lt (Nat.lt_succ_of_lt hal)⟩, fun b hb => ?_, q⟩
      have hle : s2.heap.objs.size ≤ b := by
        rcases List.mem_cons.mp hb with z | z
        · rw [z]
          exact Nat.le_succ _
        · rw [List.mem_singleton.mp z]
          exact Nat.le_refl _
      exact I2.fpOk hle (I2.hok.fresh hle)
def iEnumE (K : PySem.W.Frag) (ta : TA) : TI := fun σ H R => ta σ H fun vs H1 => ∃ a xs, vs = [.ref a] ∧ SqT K H1 a xs ∧ R (Itd K a 0) H1
theorem pi_enumE {X : Cx} {e : Expr} {ta : TA} {p pos tpos : Pos} {elts : List Expr} {kk : Nat} (hg : Gl X "enumerate") (hm : X.mg "enumerate" = none) (ha : PA X [e] ta) (hs : starEach [e] X.env = [(false, eval e X.env)] := by rfl) :
    PI X (.Tuple elts kk tpos) (.Call (.Name "enumerate" p) [e] [] pos) (iEnumE X.K ta) := by
  refine ⟨fun pins s σ H R I h => ?_⟩
  refine Call_ (ld_blt I hg hm boot_enumerate (PyProof.Rows.callWith_type1 (thn (ha.run pos pins s σ H _ I h) fun us z1 ⟨vs, H1, I1, r1, q1⟩ => ?_) hs rfl))
  obtain ⟨a, xs, ex, hq, q⟩ := q1
  subst ex
  cases r1 with
  | cons r rr =>
    cases rr
    cases r
    obtain ⟨its, rv, p', hz⟩ := I1.tuple hq
    have pt : z1.heap.IsTuple a its.toArray := p'
    have hal : a < z1.heap.objs.size := p'.lt
    refine begins1 (begins_tuple a its.toArray) pt fun h' hE hO hk => wpAny_pyIter_enum hE ?_
    have I3 : Inv X pins σ H1 { z1 with heap := h' } := I1.kept (t' := z1.toks) hk
    refine ⟨z1.heap.objs.size + 1, [z1.heap.objs.size + 1, z1.heap.objs.size], _, _, H1, rfl, I3, turn_d a (z1.heap.objs.size + 1) z1.heap.objs.size 0, ⟨⟨.none, hE⟩, ⟨_, hO, rfl, rfl⟩, Nat.succ_ne_self _, Nat.ne_of_lt hal, Nat.ne_of_lt (Nat.lt_succ_of_lt hal)⟩, fun b hb => ?_, q⟩
    have hle : z1.heap.objs.size ≤ b := by
      rcases List.mem_cons.mp hb with z | z
      · rw [z]
        exact Nat.le_succ _
      · rw [List.mem_singleton.mp z]
        exact Nat.le_refl _
    exact I1.fpOk hle (I1.hok.fresh hle)
section
variable {K : PySem.W.Frag} {a : Addr} {xs : List V} {g : TG} {tt : TT} {σ : L2.St} {vs : List Nat} {H : Hp} {N : Hp → Prop} {B : L2.St → Hp → (Hp → Prop) → Prop}
/-- a clause over enumerate(tuple) -/
theorem walk_enum {c : Int} (Pv : Nat → Hp → Prop) (h0 : Pv 0 H) (hq : ∀ i H, Pv i H → SqT K H a xs)
    (hs : ∀ i x T H, xs[i]? = some x → Pv i H → H T = none → g (.ref T) (wipe σ vs) (upd H T (.tup [.int (c + (i : Nat)), x])) fun σ2 H2 => wipe σ2 vs = wipe σ vs ∧ tt σ2 H2 fun b H3 => if b = true then B σ2 H3 (Pv (i + 1)) else Pv (i + 1) H3) (hd : ∀ H, Pv xs.length H → N H) :
    ∃ W : Nat → Nat → Hp → Prop, (∃ m, W 0 m H) ∧ ∀ i m H, W i m H → ((Itd K a c).stop i H ∧ N H) ∨ ((Itd K a c).go i H ∧ ∃ Nx : Hp → Prop, (∀ H', Nx H' → ∃ m', m' < m ∧ W (i + 1) m' H') ∧ ∀ x H', (Itd K a c).yld i H x H' → g x (wipe σ vs) H' fun σ2 H2 => wipe σ2 vs = wipe σ vs ∧ tt σ2 H2 fun b H3 =>
      if b = true then B σ2 H3 Nx else Nx H3) := by
  refine ⟨fun i m H => m + i = xs.length ∧ Pv i H, ⟨xs.length, Nat.add_zero _, h0⟩, fun i m H hw => ?_⟩
  obtain ⟨hm, p⟩ := hw
  have qx := hq i H p
  cases m with
  | zero =>
    have e : i = xs.length := by omega
    subst e
    exact .inl ⟨⟨xs, qx, rfl⟩, hd H p⟩
  | succ m =>
    have l1 : i < xs.length := by omega
    refine .inr ⟨⟨xs, _, qx, List.getElem?_eq_getElem l1⟩, Pv (i + 1), fun H' p' => ⟨m, Nat.lt_succ_self _, by omega, p'⟩, fun v H' y => ?_⟩
    obtain ⟨T, x, ev, nT, eH, fx⟩ := y
    rw [ev, eH]
    exact hs i x T H (fx xs qx) p nT
/-- a clause over a tuple -/
theorem walk_tup (Pv : Nat → Hp → Prop) (h0 : Pv 0 H) (hq : ∀ i H, Pv i H → SqT K H a xs)
    (hs : ∀ i x H, xs[i]? = some x → Pv i H → g x (wipe σ vs) H fun σ2 H2 => wipe σ2 vs = wipe σ vs ∧ tt σ2 H2 fun b H3 => if b = true then B σ2 H3 (Pv (i + 1)) else Pv (i + 1) H3) (hd : ∀ H, Pv xs.length H → N H) :
    ∃ W : Nat → Nat → Hp → Prop, (∃ m, W 0 m H) ∧ ∀ i m H, W i m H → ((Itt K a).stop i H ∧ N H) ∨ ((Itt K a).go i H ∧ ∃ Nx : Hp → Prop, (∀ H', Nx H' → ∃ m', m' < m ∧ W (i + 1) m' H') ∧ ∀ x H', (Itt K a).yld i H x H' → g x (wipe σ vs) H' fun σ2 H2 => wipe σ2 vs = wipe σ vs ∧ tt σ2 H2 fun b H3 =>
      if b = true then B σ2 H3 Nx else Nx H3) := by
  refine ⟨fun i m H => m + i = xs.length ∧ Pv i H, ⟨xs.length, Nat.add_zero _, h0⟩, fun i m H hw => ?_⟩
  obtain ⟨hm, p⟩ := hw
  have qx := hq i H p
  cases m with
  | zero =>
    have e : i = xs.length := by omega
    subst e
    exact .inl ⟨⟨xs, qx, Nat.le_refl _⟩, hd H p⟩
  | succ m =>
    have l1 : i < xs.length := by omega
    refine .inr ⟨⟨xs, _, qx, List.getElem?_eq_getElem l1⟩, Pv (i + 1), fun H' p' => ⟨m, Nat.lt_succ_self _, by omega, p'⟩, fun v H' y => ?_⟩
    obtain ⟨eH, fx⟩ := y
    rw [eH]
    exact hs i v H (fx xs qx) p
end
/-! what a target's names hold is forgotten between the turns -/
theorem wipe_get (σ : L2.St) : ∀ (vs : List Nat) (j : Nat), (wipe σ vs)[j]? = if j ∈ vs ∧ j < σ.length then some none else σ[j]?
  | [], j => by
    rw [if_neg (fun z => nomatch z.1)]
    rfl
  | v :: vs, j => by
    have ih := wipe_get σ vs j
    show ((wipe σ vs).set v none)[j]? = _
    rw [List.getElem?_set, wipe_length, ih]
    by_cases e : v = j
    · subst e
      rw [if_pos rfl]
      by_cases l : v < σ.length
      · rw [if_pos l, if_pos ⟨List.mem_cons_self, l⟩]
      · rw [if_neg l, if_neg (fun z => l z.2), List.getElem?_eq_none (by omega)]
    · rw [if_neg e]
      by_cases m : j ∈ vs ∧ j < σ.length
      · rw [if_pos m, if_pos ⟨List.mem_cons_of_mem _ m.1, m.2⟩]
      · rw [if_neg m, if_neg (fun z => m ⟨(List.mem_cons.mp z.1).resolve_left (fun y => e y.symm), z.2⟩)]
theorem wipe_set {σ : L2.St} {vs : List Nat} {i : Nat} {x : Option V} (h : i ∈ vs) : wipe (σ.set i x) vs = wipe σ vs := by
  refine List.ext_getElem? fun j => ?_
  rw [wipe_get, wipe_get, List.length_set]
  by_cases m : j ∈ vs ∧ j < σ.length
  · rw [if_pos m, if_pos m]
  · rw [if_neg m, if_neg m, List.getElem?_set]
    by_cases e : i = j
    · subst e
      have l : ¬ i < σ.length := fun z => m ⟨h, z⟩
      rw [if_pos rfl, if_neg l, List.getElem?_eq_none (by omega)]
    · rw [if_neg e]
theorem wipe_wipe {σ : L2.St} {vs : List Nat} : wipe (wipe σ vs) vs = wipe σ vs := by
  refine List.ext_getElem? fun j => ?_
  rw [wipe_get, wipe_length, wipe_get]
  by_cases m : j ∈ vs ∧ j < σ.length
  · rw [if_pos m, if_pos m]
  · rw [if_neg m, if_neg m]
theorem wipe2 {σ : L2.St} {vs : List Nat} {a b : Nat} {x y : Option V} (ha : a ∈ vs) (hb : b ∈ vs) : wipe (((wipe σ vs).set a x).set b y) vs = wipe σ vs := (wipe_set hb).trans ((wipe_set ha).trans wipe_wipe)
theorem wipe3 {σ : L2.St} {vs : List Nat} {a b c : Nat} {x y z : Option V} (ha : a ∈ vs) (hb : b ∈ vs) (hc : c ∈ vs) : wipe ((((wipe σ vs).set a x).set b y).set c z) vs = wipe σ vs := (wipe_set hc).trans (wipe2 ha hb)
/-! the walks with their targets: the slots' own clause has no tests; the state is told by what is looked up -/
theorem look3 {σ : L2.St} {vs : List Nat} {i1 i2 i3 : Nat} {y1 y2 y3 : V} (m1 : i1 ∈ vs) (m2 : i2 ∈ vs) (m3 : i3 ∈ vs) (d12 : i1 ≠ i2) (d13 : i1 ≠ i3) (d23 : i2 ≠ i3) (l1 : i1 < σ.length) (l2 : i2 < σ.length) (l3 : i3 < σ.length) :
    let τ := (((wipe σ vs).set i1 (some y1)).set i2 (some y2)).set i3 (some y3)
    τ.length = σ.length ∧ (∀ j, j ∉ vs → τ[j]? = σ[j]?) ∧ τ[i1]? = some (some y1) ∧ τ[i2]? = some (some y2) ∧ τ[i3]? = some (some y3) := by
  refine ⟨by rw [List.length_set, List.length_set, List.length_set, wipe_length], fun j hj => ?_, ?_, ?_, ?_⟩
  · rw [List.getElem?_set_ne (show i3 ≠ j from fun z => hj (by rw [← z]; exact m3)), List.getElem?_set_ne (show i2 ≠ j from fun z => hj (by rw [← z]; exact m2)), List.getElem?_set_ne (show i1 ≠ j from fun z => hj (by rw [← z]; exact m1)), wipe_get, if_neg (fun z => hj z.1)]
  · rw [List.getElem?_set_ne d13.symm, List.getElem?_set_ne d12.symm, List.getElem?_set, if_pos rfl, if_pos (by rw [wipe_length]; exact l1)]
  · rw [List.getElem?_set_ne d23.symm, List.getElem?_set, if_pos rfl, if_pos (by rw [List.length_set, wipe_length]; exact l2)]
  · rw [List.getElem?_set, if_pos rfl, if_pos (by rw [List.length_set, List.length_set, wipe_length]; exact l3)]
theorem look2 {σ : L2.St} {vs : List Nat} {i1 i2 : Nat} {y1 y2 : V} (m1 : i1 ∈ vs) (m2 : i2 ∈ vs) (d12 : i1 ≠ i2) (l1 : i1 < σ.length) (l2 : i2 < σ.length) :
    let τ := ((wipe σ vs).set i1 (some y1)).set i2 (some y2)
    τ.length = σ.length ∧ (∀ j, j ∉ vs → τ[j]? = σ[j]?) ∧ τ[i1]? = some (some y1) ∧ τ[i2]? = some (some y2) := by
  refine ⟨by rw [List.length_set, List.length_set, wipe_length], fun j hj => ?_, ?_, ?_⟩
  · rw [List.getElem?_set_ne (show i2 ≠ j from fun z => hj (by rw [← z]; exact m2)), List.getElem?_set_ne (show i1 ≠ j from fun z => hj (by rw [← z]; exact m1)), wipe_get, if_neg (fun z => hj z.1)]
  · rw [List.getElem?_set_ne d12.symm, List.getElem?_set, if_pos rfl, if_pos (by rw [wipe_length]; exact l1)]
  · rw [List.getElem?_set, if_pos rfl, if_pos (by rw [List.length_set, wipe_length]; exact l2)]
section
variable {K : PySem.W.Frag} {a : Addr} {xs : List V} {σ : L2.St} {vs : List Nat} {H : Hp} {N : Hp → Prop} {B : L2.St → Hp → (Hp → Prop) → Prop}
theorem walk_three {i1 i2 i3 : Nat} (m1 : i1 ∈ vs) (m2 : i2 ∈ vs) (m3 : i3 ∈ vs) (d12 : i1 ≠ i2) (d13 : i1 ≠ i3) (d23 : i2 ≠ i3) (l1 : i1 < σ.length) (l2 : i2 < σ.length) (l3 : i3 < σ.length) (Pv : Nat → Hp → Prop) (h0 : Pv 0 H) (hq : ∀ i H, Pv i H → SqT K H a xs)
    (hs : ∀ i x H, xs[i]? = some x → Pv i H → ∃ p y1 y2 y3, x = .ref p ∧ SqT K H p [y1, y2, y3] ∧ ∀ τ : L2.St, τ.length = σ.length → (∀ j, j ∉ vs → τ[j]? = σ[j]?) → τ[i1]? = some (some y1) → τ[i2]? = some (some y2) → τ[i3]? = some (some y3) → B τ H (Pv (i + 1))) (hd : ∀ H, Pv xs.length H → N H) :
    ∃ W : Nat → Nat → Hp → Prop, (∃ m, W 0 m H) ∧ ∀ i m H, W i m H → ((Itt K a).stop i H ∧ N H) ∨ ((Itt K a).go i H ∧ ∃ Nx : Hp → Prop, (∀ H', Nx H' → ∃ m', m' < m ∧ W (i + 1) m' H') ∧ ∀ x H', (Itt K a).yld i H x H' → gTup K 3 (gCons (gName i1) (gCons (gName i2) (gCons (gName i3) gNil))) x (wipe σ vs) H' fun σ2 H2 => wipe σ2 vs = wipe σ vs ∧ tYes σ2 H2 fun b H3 =>
      if b = true then B σ2 H3 Nx else Nx H3) := by
  refine walk_tup Pv h0 hq (fun i x H hx p => ?_) hd
  obtain ⟨q, y1, y2, y3, e, sq, b⟩ := hs i x H hx p
  obtain ⟨e0, e1, e2, e3, e4⟩ := look3 (y1 := y1) (y2 := y2) (y3 := y3) m1 m2 m3 d12 d13 d23 l1 l2 l3
  exact ⟨q, _, e, sq, rfl, _, _, rfl, _, _, rfl, _, _, rfl, rfl, wipe3 m1 m2 m3, b _ e0 e1 e2 e3 e4⟩
theorem walk_enum_pair {c : Int} {i1 i2 i3 : Nat} (m1 : i1 ∈ vs) (m2 : i2 ∈ vs) (m3 : i3 ∈ vs) (d12 : i1 ≠ i2) (d13 : i1 ≠ i3) (d23 : i2 ≠ i3) (l1 : i1 < σ.length) (l2 : i2 < σ.length) (l3 : i3 < σ.length) (Pv : Nat → Hp → Prop) (h0 : Pv 0 H) (hq : ∀ i H, Pv i H → SqT K H a xs)
    (hs : ∀ i x T H, xs[i]? = some x → Pv i H → H T = none → ∃ p y1 y2, x = .ref p ∧ SqT K (upd H T (.tup [.int (c + (i : Nat)), x])) p [y1, y2] ∧ ∀ τ : L2.St, τ.length = σ.length → (∀ j, j ∉ vs → τ[j]? = σ[j]?) → τ[i1]? = some (some (.int (c + (i : Nat)))) → τ[i2]? = some (some y1) → τ[i3]? = some (some y2) → B τ (upd H T (.tup [.int (c + (i : Nat)), x])) (Pv (i + 1))) (hd : ∀ H, Pv xs.length H → N H) :
    ∃ W : Nat → Nat → Hp → Prop, (∃ m, W 0 m H) ∧ ∀ i m H, W i m H → ((Itd K a c).stop i H ∧ N H) ∨ ((Itd K a c).go i H ∧ ∃ Nx : Hp → Prop, (∀ H', Nx H' → ∃ m', m' < m ∧ W (i + 1) m' H') ∧ ∀ x H', (Itd K a c).yld i H x H' → gTup K 2 (gCons (gName i1) (gCons (gTup K 2 (gCons (gName i2) (gCons (gName i3) gNil))) gNil)) x (wipe σ vs) H' fun σ2 H2 => wipe σ2 vs = wipe σ vs ∧ tYes σ2 H2 fun b H3 =>
      if b = true then B σ2 H3 Nx else Nx H3) := by
  refine walk_enum Pv h0 hq (fun i x T H hx p nT => ?_) hd
  obtain ⟨q, y1, y2, e, sq, b⟩ := hs i x T H hx p nT
  obtain ⟨e0, e1, e2, e3, e4⟩ := look3 (y1 := .int (c + (i : Nat))) (y2 := y1) (y3 := y2) m1 m2 m3 d12 d13 d23 l1 l2 l3
  exact ⟨T, _, rfl, .inl (.inl upd_same), rfl, _, _, rfl, _, _, rfl, q, _, e, sq, rfl, _, _, rfl, _, _, rfl, rfl, rfl, wipe3 m1 m2 m3, b _ e0 e1 e2 e3 e4⟩
theorem walk_enum_two {c : Int} {i1 i2 : Nat} (m1 : i1 ∈ vs) (m2 : i2 ∈ vs) (d12 : i1 ≠ i2) (l1 : i1 < σ.length) (l2 : i2 < σ.length) (Pv : Nat → Hp → Prop) (h0 : Pv 0 H) (hq : ∀ i H, Pv i H → SqT K H a xs)
    (hs : ∀ i x T H, xs[i]? = some x → Pv i H → H T = none → ∀ τ : L2.St, τ.length = σ.length → (∀ j, j ∉ vs → τ[j]? = σ[j]?) → τ[i1]? = some (some (.int (c + (i : Nat)))) → τ[i2]? = some (some x) → B τ (upd H T (.tup [.int (c + (i : Nat)), x])) (Pv (i + 1))) (hd : ∀ H, Pv xs.length H → N H) :
    ∃ W : Nat → Nat → Hp → Prop, (∃ m, W 0 m H) ∧ ∀ i m H, W i m H → ((Itd K a c).stop i H ∧ N H) ∨ ((Itd K a c).go i H ∧ ∃ Nx : Hp → Prop, (∀ H', Nx H' → ∃ m', m' < m ∧ W (i + 1) m' H') ∧ ∀ x H', (Itd K a c).yld i H x H' → gTup K 2 (gCons (gName i1) (gCons (gName i2) gNil)) x (wipe σ vs) H' fun σ2 H2 => wipe σ2 vs = wipe σ vs ∧ tYes σ2 H2 fun b H3 =>
      if b = true then B σ2 H3 Nx else Nx H3) := by
  refine walk_enum Pv h0 hq (fun i x T H hx p nT => ?_) hd
  obtain ⟨e0, e1, e2, e3⟩ := look2 (y1 := .int (c + (i : Nat))) (y2 := x) m1 m2 d12 l1 l2
  exact ⟨T, _, rfl, .inl (.inl upd_same), rfl, _, _, rfl, _, _, rfl, rfl, wipe2 m1 m2, hs i x T H hx p nT _ e0 e1 e2 e3⟩
end
end EnumT

/-! walks of a comprehension's clauses with their tests -/
namespace EnumT
open PySem PySem.Spec PyProof.Rows L2
section
variable {K : PySem.W.Frag} {a : Addr} {xs : List V} {σ : L2.St} {vs : List Nat} {H : Hp} {N : Hp → Prop} {B : L2.St → Hp → (Hp → Prop) → Prop} {tt : TT}
theorem walk_threeT {i1 i2 i3 : Nat} (m1 : i1 ∈ vs) (m2 : i2 ∈ vs) (m3 : i3 ∈ vs) (d12 : i1 ≠ i2) (d13 : i1 ≠ i3) (d23 : i2 ≠ i3) (l1 : i1 < σ.length) (l2 : i2 < σ.length) (l3 : i3 < σ.length) (Pv : Nat → Hp → Prop) (h0 : Pv 0 H) (hq : ∀ i H, Pv i H → SqT K H a xs)
    (hs : ∀ i x H, xs[i]? = some x → Pv i H → ∃ p y1 y2 y3, x = .ref p ∧ SqT K H p [y1, y2, y3] ∧ ∀ τ : L2.St, τ.length = σ.length → (∀ j, j ∉ vs → τ[j]? = σ[j]?) → τ[i1]? = some (some y1) → τ[i2]? = some (some y2) → τ[i3]? = some (some y3) → tt τ H fun b H3 => if b = true then B τ H3 (Pv (i + 1)) else Pv (i + 1) H3) (hd : ∀ H, Pv xs.length H → N H) :
    ∃ W : Nat → Nat → Hp → Prop, (∃ m, W 0 m H) ∧ ∀ i m H, W i m H → ((Itt K a).stop i H ∧ N H) ∨ ((Itt K a).go i H ∧ ∃ Nx : Hp → Prop, (∀ H', Nx H' → ∃ m', m' < m ∧ W (i + 1) m' H') ∧ ∀ x H', (Itt K a).yld i H x H' → gTup K 3 (gCons (gName i1) (gCons (gName i2) (gCons (gName i3) gNil))) x (wipe σ vs) H' fun σ2 H2 => wipe σ2 vs = wipe σ vs ∧ tt σ2 H2 fun b H3 =>
      if b = true then B σ2 H3 Nx else Nx H3) := by
  refine walk_tup Pv h0 hq (fun i x H hx p => ?_) hd
  obtain ⟨q, y1, y2, y3, e, sq, b⟩ := hs i x H hx p
  obtain ⟨e0, e1, e2, e3, e4⟩ := look3 (y1 := y1) (y2 := y2) (y3 := y3) m1 m2 m3 d12 d13 d23 l1 l2 l3
  exact ⟨q, _, e, sq, rfl, _, _, rfl, _, _, rfl, _, _, rfl, rfl, wipe3 m1 m2 m3, b _ e0 e1 e2 e3 e4⟩
theorem walk_twoT {i1 i2 : Nat} (m1 : i1 ∈ vs) (m2 : i2 ∈ vs) (d12 : i1 ≠ i2) (l1 : i1 < σ.length) (l2 : i2 < σ.length) (Pv : Nat → Hp → Prop) (h0 : Pv 0 H) (hq : ∀ i H, Pv i H → SqT K H a xs)
    (hs : ∀ i x H, xs[i]? = some x → Pv i H → ∃ p y1 y2, x = .ref p ∧ SqT K H p [y1, y2] ∧ ∀ τ : L2.St, τ.length = σ.length → (∀ j, j ∉ vs → τ[j]? = σ[j]?) → τ[i1]? = some (some y1) → τ[i2]? = some (some y2) → tt τ H fun b H3 => if b = true then B τ H3 (Pv (i + 1)) else Pv (i + 1) H3) (hd : ∀ H, Pv xs.length H → N H) :
    ∃ W : Nat → Nat → Hp → Prop, (∃ m, W 0 m H) ∧ ∀ i m H, W i m H → ((Itt K a).stop i H ∧ N H) ∨ ((Itt K a).go i H ∧ ∃ Nx : Hp → Prop, (∀ H', Nx H' → ∃ m', m' < m ∧ W (i + 1) m' H') ∧ ∀ x H', (Itt K a).yld i H x H' → gTup K 2 (gCons (gName i1) (gCons (gName i2) gNil)) x (wipe σ vs) H' fun σ2 H2 => wipe σ2 vs = wipe σ vs ∧ tt σ2 H2 fun b H3 =>
      if b = true then B σ2 H3 Nx else Nx H3) := by
  refine walk_tup Pv h0 hq (fun i x H hx p => ?_) hd
  obtain ⟨q, y1, y2, e, sq, b⟩ := hs i x H hx p
  obtain ⟨e0, e1, e2, e3⟩ := look2 (y1 := y1) (y2 := y2) m1 m2 d12 l1 l2
  exact ⟨q, _, e, sq, rfl, _, _, rfl, _, _, rfl, rfl, wipe2 m1 m2, b _ e0 e1 e2 e3⟩
end
end EnumT

namespace SumT
open PySem PySem.Spec PyProof.Rows L2
variable {X : Cx}
/-- sum(xs) of a tuple of ints -/
def rSumT (K : PySem.W.Frag) : List V → Hp → VK → Prop := fun vs H Q => ∃ (a : Addr) (ns : List Int), vs = [V.ref a] ∧ SqT K H a (ns.map V.int) ∧ Q (.int ns.sum) H
theorem cr_sumT (hc : X.calm = true) : CallR X (.builtin "sum") (rSumT X.K) := by
  intro pins s σ H vs us Q I r h
  obtain ⟨a, ns, rfl, hs, q⟩ := h
  obtain ⟨its, rv, hl, _⟩ := I.tuple hs
  rw [Vals.ref1 r]
  have hi := rv.ints
  obtain ⟨xs, e⟩ := hi.allInts.items
  have hn : numsOf (intItems xs).toList = ns := by rw [← e]; exact hi.numsOf
  rw [nums_intItems] at hn
  have ht : s.heap.IsTuple a (intItems xs) := by rw [← e]; exact hl
  refine PySem.W.ktm_sumG (I.ok.hd hc) ht fun h' tk t' hk => ?_
  rw [preSum_eq, List.take_of_length_le (by simp), hn]
  exact ⟨.int _, H, I.kept hk, ⟨_, rfl⟩, q⟩
end SumT

/-! range(a, b) whatever the bounds -/
namespace LongR
open PySem PySem.Spec PyProof.Rows L2
theorem turn_long {P : Program} {w : World} {K : PySem.W.Frag} {tg : Expr} (z : Addr) (a : Int) (n : Nat) : Turn P w K tg (Itr a n) [z] z (fun i h => IsLongIter h z (a + (i : Nat) * 1) ((n : Int) - (i : Nat)) 1) where
  mem := List.mem_cons_self
  obj := fun i h st b hb => by
    rw [List.mem_singleton.mp hb]
    exact ⟨_, st, fun v y => nomatch (show Data.fields _ = Data.cell v from y)⟩
  keep := fun i h h' st k => k z List.mem_cons_self _ st
  item := by
    intro X hP hw hK hc i pins s σ H E I hf st hg
    subst hP hw hK
    obtain ⟨a0, a1, a2, a3, a4, a5⟩ := hf z List.mem_cons_self
    have il : i < n := hg
    refine wpAny_pyNext_long_item st (by omega) fun h' st' sb => ?_
    have st2 : IsLongIter h' z (a + ((i + 1 : Nat) : Int) * 1) ((n : Int) - ((i + 1 : Nat) : Int)) 1 := by
      rw [show a + ((i + 1 : Nat) : Int) * 1 = a + ((i : Nat) : Int) * 1 + 1 by omega, show (n : Int) - ((i + 1 : Nat) : Int) = (n : Int) - ((i : Nat) : Int) - 1 by omega]
      exact st'
    have I1 : Inv X pins σ H { s with heap := h', toks := s.toks + 1 } := I.turned (fun b o nb e => (sb.2 b nb).trans e) a0 a1 a3 a4 a5
    refine ⟨_, rfl, go_of (n := "longrange_iterator") (s := { s with heap := h', toks := s.toks + 1 }) st2 rfl rfl (by decide) ⟨.int (a + i), H, I1, ⟨s.toks, ?_⟩, ⟨rfl, rfl⟩, st2, fun b hb => (hf b hb).1⟩⟩
    rw [Int.mul_one]
  done := by
    intro X hP hw hK hc i pins s σ H E I hf st hg
    subst hP hw hK
    obtain ⟨a0, a1, a2, a3, a4, a5⟩ := hf z List.mem_cons_self
    have il : n ≤ i := hg
    exact wpAny_pyNext_long_end (I.ok.hd hc) st (by omega) fun h' eb => ⟨rfl, I.turned (t' := s.toks) (fun b o nb e => eb b o nb e) a0 a1 a3 a4 a5⟩
  self := fun _ _ _ _ _ st q => wpAny_pyIter_longiter st q
section
variable {X : Cx} {tg : Expr}
theorem any_it {pins : List (Addr × Obj)} {σ : L2.St} {H : Hp} {s : Shared} {R : It → Hp → Prop} {E : Value → Shared → Prop} {a b : Int} {t u v : Tok} {tk : Nat} (I : Inv X pins σ H s) (q : R (Itr a (b - a).toNat) H) :
    wpAny (model X.prog X.w) X.A (pyIter (.ref s.heap.objs.size)) (PIE X pins σ tg R) E { s with heap := s.heap.push { cls := .type "range", data := .fields #[.int a t, .int b u, .int 1 v] }, toks := tk } := by
  have size : (((b - a).toNat : Nat) : Int) - ((0 : Nat) : Int) = Builtin.Range.rangeSize a b 1 := by
    rw [rangeSize_one]
    split <;> omega
  have start : a + ((0 : Nat) : Int) * 1 = a := by omega
  have I1 : Inv X pins σ H { s with heap := s.heap.push { cls := .type "range", data := .fields #[.int a t, .int b u, .int 1 v] }, toks := tk } := I.kept fun b o e => Heap.get?_push_of_some _ e
  cases sm : Builtin.Range.small a b 1 with
  | true =>
    refine wpAny_pyIter_range (IsRange.new ..) sm ⟨_, [_], _, _, H, rfl, I1.kept (t' := tk) fun b o e => Heap.get?_push_of_some _ e, turn_range _ a (b - a).toNat, ?_, fun c hc => ?_, q⟩
    · show IsRangeIter _ _ (a + ((0 : Nat) : Int) * 1) ((((b - a).toNat : Nat) : Int) - ((0 : Nat) : Int)) 1
      rw [start, size]
      exact Heap.get?_push_size _ rfl
    · rw [List.mem_singleton.mp hc]
      exact I1.fpOk (Nat.le_refl _) (I1.hok.fresh (Nat.le_refl _))
  | false =>
    refine wpAny_pyIter_longrange (IsRange.new ..) sm ⟨_, [_], _, _, H, rfl, I1.kept (t' := tk) fun b o e => Heap.get?_push_of_some _ e, turn_long _ a (b - a).toNat, ?_, fun c hc => ?_, q⟩
    · show IsLongIter _ _ (a + ((0 : Nat) : Int) * 1) ((((b - a).toNat : Nat) : Int) - ((0 : Nat) : Int)) 1
      rw [start, size]
      exact Heap.get?_push_size _ rfl
    · rw [List.mem_singleton.mp hc]
      exact I1.fpOk (Nat.le_refl _) (I1.hok.fresh (Nat.le_refl _))
def iRngA (ta : TA) : TI := fun σ H R => ta σ H fun vs H1 => ∃ a b : Int, vs = [.int a, .int b] ∧ R (Itr a (b - a).toNat) H1
theorem pi_rangeA {x y : Expr} {ta : TA} {p pos : Pos} (hg : Gl X "range") (hm : X.mg "range" = none) (ha : PA X [x, y] ta) (hs : starEach [x, y] X.env = [(false, eval x X.env), (false, eval y X.env)] := by rfl) (hs2 : starEach [y] X.env = [(false, eval y X.env)] := by rfl) :
    PI X tg (.Call (.Name "range" p) [x, y] [] pos) (iRngA ta) := by
  refine ⟨fun pins s σ H R I h => Call_ (ld_blt I hg hm boot_range (PyProof.Rows.callWith_type1 (thn (ha.run pos pins s σ H _ I h) fun us z ⟨vs, H1, I1, r1, q1⟩ => ?_) (by rw [hs, hs2]) (by rw [hs2]; rfl)))⟩
  obtain ⟨a, b, e, q⟩ := q1
  cases e
  cases r1 with
  | cons ra rr =>
    cases rr with
    | cons rb rr =>
      cases rr
      obtain ⟨t, e1⟩ := ra
      obtain ⟨t', e2⟩ := rb
      cases e1
      cases e2
      exact call_range_2 (any_it I1 q)
end
end LongR

/-! sorted(xs), xs a list of tuples of a text and ints: a new list of the same tuples in some order -/
namespace Row4
open PySem PySem.Spec PyProof.Rows L2 Srt
/-- v is a tuple of the text x and the ints ns -/
def IsRow (h : Heap) (v : Value) (x : Str) (ns : List Int) : Prop := ∃ a o t us n, v = .ref a ∧ h.get? a = some o ∧ o.cls = .type "tuple" ∧ o.data = .seq (Value.str x t :: us).toArray n ∧ IntsAre us ns
theorem IsRow.keeps {h h' : Heap} {v : Value} {x : Str} {ns : List Int} (p : IsRow h v x ns) (k : ∀ b o, h.get? b = some o → o.cls = .type "tuple" → h'.get? b = some o) : IsRow h' v x ns := by
  obtain ⟨a, o, t, us, n, e, ho, hc, r⟩ := p
  exact ⟨a, o, t, us, n, e, k _ _ ho hc, hc, r⟩
section
variable {prog : Program} {w : World} {A : Around} {s : Shared}
theorem lexInts (fin : Bool) : ∀ (us us' : List Value) (ns ns' : List Int) (i : Nat), IntsAre us ns → IntsAre us' ns' → ∃ c, PySem.W.KatLex prog w A true fin (fun b s' => s' = s ∧ b = c) (us.zip us') (i + 1) s
  | [], _, _, _, i, _, _ => ⟨fin, PySem.W.kat_nil ⟨rfl, rfl⟩⟩
  | _ :: _, [], _, _, i, _, _ => ⟨fin, PySem.W.kat_nil ⟨rfl, rfl⟩⟩
  | _ :: us, _ :: us', _, _, i, .cons x t r, .cons y u r' => by
    obtain ⟨c, hc⟩ := lexInts fin us us' _ _ (i + 1) r r'
    by_cases e : x = y
    · refine ⟨c, PySem.W.kat_cons (SeqAt.EqAt.int_int x t y u prog w _ _ ?_)⟩
      have e1 : (x == y) = true := by rw [e]; exact beq_self_eq_true y
      rw [e1]
      exact PySem.W.kat_yes hc
    · refine ⟨decide (x < y), PySem.W.kat_cons (SeqAt.EqAt.int_int x t y u prog w _ _ ?_)⟩
      rw [beq_eq_false_iff_ne.mpr e]
      refine PySem.W.kat_no (PySem.W.kat_one _ _ (PyProof.Rows.lt_int ?_))
      exact (show s = s ∧ decide (x < y) = decide (x < y) from ⟨rfl, rfl⟩)
theorem rows_tot {vs : List Value} (hp : ∀ v ∈ vs, ∃ x ns, IsRow s.heap v x ns) : Tot prog w A s (tuples' true) (fun p => p.1 ∈ vs) := by
  intro p q hm hm'
  obtain ⟨x, ns, a, o, t, us, n, e, ho, hc, hd, hi⟩ := hp _ hm
  obtain ⟨x', ns', a', o', t', us', n', e', ho', hc', hd', hi'⟩ := hp _ hm'
  rw [e, e']
  by_cases ex : x = x'
  · obtain ⟨c, hc⟩ := lexInts (prog := prog) (w := w) (A := A) (s := s) (decide ((Value.str x t :: us).toArray.size < (Value.str x' t' :: us').toArray.size)) us us' ns ns' 0 hi hi'
    refine ⟨c, PySem.W.kat_lt ho hd ho' hd' ?_⟩
    refine PySem.W.kat_cons (SeqAt.EqAt.str_str x t x' t' prog w _ _ ?_)
    have e1 : (x == x') = true := by rw [ex]; exact beq_self_eq_true x'
    rw [e1]
    exact PySem.W.kat_yes hc
  · refine ⟨decide (x.cps.toList < x'.cps.toList), PySem.W.kat_lt ho hd ho' hd' ?_⟩
    refine PySem.W.kat_cons (SeqAt.EqAt.str_str x t x' t' prog w _ _ ?_)
    have e1 : (x == x') = false := beq_eq_false_iff_ne.mpr ex
    rw [e1]
    exact PySem.W.kat_no (oneLt_str ⟨rfl, rfl⟩)
theorem heads {h : Heap} : ∀ {vs : List Value}, (∀ v ∈ vs, ∃ x ns, IsRow h v x ns) → ∃ fs : List Value, PySem.W.KatTups h vs fs ∧ fs.length = vs.length ∧ ∀ f ∈ fs, ∃ x t, f = Value.str x t
  | [], _ => ⟨[], PySem.W.KatTups.nil, rfl, fun _ z => nomatch z⟩
  | v :: vs, hp => by
    obtain ⟨fs, a1, a2, a3⟩ := heads fun z hz => hp z (List.mem_cons_of_mem _ hz)
    obtain ⟨x, ns, a, o, t, us, n, rfl, ho, hc, hd, _⟩ := hp v List.mem_cons_self
    refine ⟨.str x t :: fs, .cons ho hc hd rfl a1, by simp only [List.length_cons, a2], fun f hf => ?_⟩
    rcases List.mem_cons.mp hf with rfl | z
    · exact ⟨x, t, rfl⟩
    · exact a3 f z
theorem rows_sortable {a : Addr} {vs : List Value} (h0 : 0 < vs.length) (hp : ∀ v ∈ vs, ∃ x ns, IsRow s.heap v x ns) (ha : ∀ o, s.heap.get? a = some o → o.cls ≠ .type "tuple") : Sortable prog w A s a vs := by
  intro h' keep
  have hp' : ∀ v ∈ vs, ∃ x ns, IsRow h' v x ns := fun v hv =>
    let ⟨x, ns, p⟩ := hp v hv
    ⟨x, ns, p.keeps fun b o e c => keep b o (fun z => ha o (z ▸ e) c) e⟩
  obtain ⟨fs, a1, a2, a3⟩ := heads hp'
  refine ⟨tuples' true, fun Q E q => ?_, rows_tot hp'⟩
  refine PySem.W.kat_kind (T := .type "str") a1 (by omega) (fun f hf => ?_) (by rfl) ?_
  · obtain ⟨x, t, rfl⟩ := a3 f hf
    exact PySem.W.Looks.now
  · rw [show (Value.type "str" != Value.type "tuple") = true by first | decide +kernel | rfl]
    exact q
end
section
variable {X : Cx}
/-- x stands for a tuple of a text and ints -/
def RowV (K : PySem.W.Frag) (H : Hp) (x : V) : Prop := ∃ (t : Addr) (z : Str) (ns : List Int), x = .ref t ∧ SqT K H t (.str z :: ns.map V.int)
def rSortRows (K : PySem.W.Frag) : List V → Hp → VK → Prop := fun vs H Q => ∃ (a : Addr) (xs : List V), vs = [V.ref a] ∧ SqL K H a xs ∧ (∀ x ∈ xs, RowV K H x) ∧ ∀ ys p, ys.Perm xs → H p = none → Q (.ref p) (upd H p (.lst ys))
theorem back : ∀ {xs : List V} {us : List Value}, Vals xs us → (∀ x ∈ xs, ∃ t, x = V.ref t) → ∀ {out : List Value}, out.Perm us → ∃ ys : List V, ys.Perm xs ∧ Vals ys out := by
  intro xs us r hx out p
  have f : ∀ {xs : List V} {us : List Value}, Vals xs us → (∀ x ∈ xs, ∃ t, x = V.ref t) → ∃ as : List Addr, xs = as.map V.ref ∧ us = as.map Value.ref := by
    intro xs us r
    induction r with
    | nil => exact fun _ => ⟨[], rfl, rfl⟩
    | cons a _ ih =>
      intro hx
      obtain ⟨t, rfl⟩ := hx _ List.mem_cons_self
      obtain ⟨as, e1, e2⟩ := ih fun x hm => hx x (List.mem_cons_of_mem _ hm)
      cases a
      exact ⟨t :: as, by rw [e1]; rfl, by rw [e2]; rfl⟩
  obtain ⟨as, e1, e2⟩ := f r hx
  subst e1 e2
  have g : ∀ v ∈ out, ∃ t, v = Value.ref t := fun v hv => by
    obtain ⟨t, _, e⟩ := List.mem_map.mp (p.mem_iff.mp hv)
    exact ⟨t, e.symm⟩
  have k : ∀ out : List Value, (∀ v ∈ out, ∃ t, v = Value.ref t) → ∃ bs : List Addr, out = bs.map Value.ref := by
    intro out
    induction out with
    | nil => exact fun _ => ⟨[], rfl⟩
    | cons v out ih =>
      intro h
      obtain ⟨t, rfl⟩ := h v List.mem_cons_self
      obtain ⟨bs, e⟩ := ih fun u hu => h u (List.mem_cons_of_mem _ hu)
      exact ⟨t :: bs, by rw [e]; rfl⟩
  obtain ⟨bs, rfl⟩ := k out g
  have unref : ∀ l : List Addr, (l.map Value.ref).map (fun v => match v with | .ref a => V.ref a | _ => V.non) = l.map V.ref := fun l => by rw [List.map_map]; rfl
  have q := p.map (fun v => match v with | .ref a => V.ref a | _ => V.non)
  rw [unref, unref] at q
  refine ⟨bs.map V.ref, q, ?_⟩
  clear q unref g p
  induction bs with
  | nil => exact .nil
  | cons b bs ih => exact .cons rfl (ih)
theorem cr_sortRows : CallR X (.builtin "sorted") (rSortRows X.K) := by
  intro pins s σ H vs us Q I r h
  obtain ⟨a, xs, rfl, hs, hx, q⟩ := h
  obtain ⟨its, rv, hl, hz⟩ := I.list hs
  rw [Vals.ref1 r]
  have rows : ∀ v ∈ its, ∃ x ns, IsRow s.heap v x ns := fun v hv => by
    obtain ⟨i, hi⟩ := List.mem_iff_getElem?.mp hv
    have hil : i < xs.length := by
      have := (List.getElem?_eq_some_iff.mp hi).1
      rw [rv.length]
      exact this
    obtain ⟨u, hu, ru⟩ := rv.get (List.getElem?_eq_getElem hil)
    rw [hi] at hu
    cases hu
    obtain ⟨t, z, ns, e, ht⟩ := hx _ (List.getElem_mem hil)
    rw [e] at ru
    obtain ⟨ws, rw_, ⟨ob, ho, hc, n, hd⟩, _⟩ := I.tuple ht
    cases ru
    cases rw_ with
    | cons r1 r2 =>
      obtain ⟨tk, rfl⟩ := r1
      exact ⟨z, ns, t, ob, tk, _, n, rfl, ho, hc, hd, Vals.ints r2⟩
  refine sorted_any hl.isList (by rw [← rv.length]; exact hz) (fun h2 h1 b hb k => ?_) fun out p => ?_
  · refine rows_sortable (s := { s with heap := h1 }) (by omega) (fun v hv => ?_) fun o e => ?_
    · obtain ⟨x, ns, y⟩ := rows v hv
      exact ⟨x, ns, y.keeps fun b o e _ => (k b o e).2⟩
    · have e' : some o = some (seqObj "list" its.toArray 0) := e.symm.trans hb
      cases e'
      exact fun c => absurd (Value.type.inj c) (by decide)
  · obtain ⟨ep, he⟩ := PyProof.Rows.sortedAll_at s.heap its out.toArray
    obtain ⟨ys, py, ry⟩ := back rv (fun x m => let ⟨t, _, _, e, _⟩ := hx x m; ⟨t, e⟩) p
    have hlen : ys.length ≤ sizeLine := by rw [py.length_eq]; exact hz
    exact ⟨.ref _, upd H (s.heap.objs.size + 1) (.lst ys), I.laid (t' := s.toks) (fun _ _ => PyProof.Rows.sortedAll_old) (Nat.le_succ _) ⟨hlen, out, ep, ry, he⟩, rfl, q ys _ py (I.hok.fresh (Nat.le_succ _))⟩
end
end Row4

namespace Tw
open PySem PySem.Spec PyProof.Rows L2
/-! what the laws' helpers do to the heap: the draws at d shrink, all else stands -/
def DrA (H : Hp) (d : Addr) : Prop := ∃ ns : List Int, H d = some (.lst (ns.map V.int))
structure Dr (d : Addr) (H H' : Hp) : Prop where
  keep : ∀ b o, b ≠ d → H b = some o → H' b = some o
  at_ : DrA H' d
theorem Dr.refl {d : Addr} {H : Hp} (h : DrA H d) : Dr d H H := ⟨fun _ _ _ e => e, h⟩
theorem Dr.trans {d : Addr} {H H1 H2 : Hp} (a : Dr d H H1) (b : Dr d H1 H2) : Dr d H H2 := ⟨fun c o n e => b.keep c o n (a.keep c o n e), b.at_⟩
theorem Dr.then {d : Addr} {H H1 H2 : Hp} (a : Dr d H H1) (b : Same H1 H2) : Dr d H H2 := ⟨fun c o n e => b c o (a.keep c o n e), let ⟨ns, q⟩ := a.at_; ⟨ns, b d _ q⟩⟩
theorem Dr.of {d : Addr} {H H1 : Hp} (h : DrA H d) (b : Same H H1) : Dr d H H1 := (Dr.refl h).then b
theorem Dr.free {d : Addr} {H H' : Hp} (a : Dr d H H') (h : DrA H d) {l : Addr} (n : H' l = none) : H l = none := by
  cases q : H l with
  | none => rfl
  | some o =>
    by_cases e : l = d
    · obtain ⟨_, z⟩ := a.at_
      rw [e, z] at n
      cases n
    · rw [a.keep l o e q] at n
      cases n
theorem Dr.ne {d : Addr} {H H' : Hp} (a : Dr d H H') {l : Addr} (n : H' l = none) : l ≠ d := fun e => by
  obtain ⟨_, z⟩ := a.at_
  rw [e, z] at n
  cases n
theorem Dr.seq {K : PySem.W.Frag} {d a : Addr} {H H' : Hp} {xs : List V} (r : Dr d H H') (ne : a ≠ d) (h : SqL K H a xs) : SqL K H' a xs := by
  rcases h with (h | ⟨o, h⟩) | h
  · exact .inl (.inl (r.keep _ _ ne h))
  · exact .inl (.inr ⟨o, r.keep _ _ ne h⟩)
  · exact .inr h
theorem same_new {H : Hp} {p : Addr} {o : HO} (h : H p = none) : Same H (upd H p o) := fun b x e => by
  rw [upd_ne (ne_of_none e h)]
  exact e
theorem drA_upd {H : Hp} {d : Addr} (ns : List Int) : DrA (upd H d (.lst (ns.map V.int))) d := ⟨ns, upd_same⟩
theorem dr_upd {H : Hp} {d : Addr} (ns : List Int) : Dr d H (upd H d (.lst (ns.map V.int))) := ⟨fun b o n e => by rw [upd_ne n]; exact e, drA_upd ns⟩
theorem at_last {α : Type} {xs : List α} (h : xs ≠ []) : xs[xs.length - 1]? = some (xs.getLast h) := by
  rw [← List.getLast?_eq_getElem?, List.getLast?_eq_getLast h]
theorem map_at {ns : List Int} {i : Nat} (h : i < ns.length) : (ns.map V.int)[i]? = some (.int ns[i]) := by
  rw [List.getElem?_map, List.getElem?_eq_getElem h]
  rfl
theorem sline : (2000 : Nat) < sizeLine := by decide
theorem small {n : Nat} (h : n ≤ 2000) : n < sizeLine := Nat.lt_of_le_of_lt h sline
theorem small' {n : Nat} (h : n ≤ 2000) : n ≤ sizeLine := Nat.le_of_lt (small h)
theorem atI_z {α : Type} {xs : List α} {z : Int} {j : Nat} {v : α} (e : z = (j : Int)) (h : xs[j]? = some v) : atI xs z = some v := by
  rw [e]
  exact atI_nat h
theorem atI_pos {α : Type} {xs : List α} {z : Int} (h0 : 0 ≤ z) (h1 : z < xs.length) : atI xs z = some (xs[z.toNat]'(by omega)) :=
  atI_z (j := z.toNat) (by omega) (List.getElem?_eq_getElem (by omega))
theorem atM_pos {ns : List Int} {z : Int} (h0 : 0 ≤ z) (h1 : z < ns.length) : atI (ns.map V.int) z = some (.int (ns[z.toNat]'(by omega))) :=
  atI_z (j := z.toNat) (by omega) (map_at (by omega))
/-- an address that was not there at the beginning may be written -/
theorem Dr.keepNew {d p : Addr} {H H' : Hp} {o : HO} (r : Dr d H H') (ne : p ≠ d) (n : H p = none) : Dr d H (upd H' p o) :=
  ⟨fun b x nb e => by rw [upd_ne (ne_of_none e n)]; exact r.keep b x nb e, let ⟨ns, z⟩ := r.at_; ⟨ns, by rw [upd_ne ne.symm]; exact z⟩⟩
/-- the script is read behind every draw -/
theorem Dr.script {K : PySem.W.Frag} {d a : Addr} {H H1 H' : Hp} {xs : List V} (h : SqL K H a xs) (n : H d = none) (s : Same H H1) (r : Dr d H1 H') : SqL K H' a xs := by
  rcases h with (h | ⟨o, h⟩) | h
  · exact .inl (.inl (r.keep _ _ (ne_of_none h n) (s _ _ h)))
  · exact .inl (.inr ⟨o, r.keep _ _ (ne_of_none h n) (s _ _ h)⟩)
  · exact .inr h
theorem same_keep {H H' : Hp} {p : Addr} {o : HO} (s : Same H H') (n : H p = none) : Same H (upd H' p o) := fun b x e => by
  rw [upd_ne (ne_of_none e n)]
  exact s b x e

/-! a plan in the heap -/
structure Mt where
  name : Str
  low : Int
  high : Int
  err : Int
structure Pl where
  len : Int
  ms : List Mt
def MtAt (H : Hp) (t : Addr) (m : Mt) : Prop := H t = some (.tup [.str m.name, .int m.low, .int m.high, .int m.err])
structure PlanAt (H : Hp) (p tm : Addr) (ts : List Addr) (P : Pl) : Prop where
  top : H p = some (.tup [.int P.len, .ref tm])
  mid : H tm = some (.tup (ts.map V.ref))
  low : Paired (MtAt H) ts P.ms
/-- the names in the order of the alphabet, each once -/
def Risen (l : List Str) : Prop := sortedS l = true ∧ l.Nodup
structure MtOk (c : Int) (m : Mt) : Prop where
  order : m.low ≤ m.high
  err0 : 0 ≤ m.err
  err1 : m.err ≤ 60
  lowB : m.low.natAbs ≤ c.natAbs + 3
  highB : m.high.natAbs ≤ 2 * c.natAbs + 3 + 10 ^ 20
structure PlanOk (c : Int) (P : Pl) : Prop where
  len : 1 ≤ P.len
  lenB : P.len ≤ c.natAbs + 60
  some_ : P.ms ≠ []
  few : P.ms.length ≤ 6
  risen : Risen (P.ms.map Mt.name)
  each : ∀ m ∈ P.ms, MtOk c m
theorem Dr.tup {d t : Addr} {H H' : Hp} {xs : List V} (r : Dr d H H') (h : DrA H d) (e : H t = some (.tup xs)) : H' t = some (.tup xs) := by
  obtain ⟨ns, z⟩ := h
  exact r.keep _ _ (ne_of e z (fun q => nomatch q)) e
theorem Dr.mts {d : Addr} {H H' : Hp} (r : Dr d H H') (h : DrA H d) : ∀ {ts : List Addr} {ms : List Mt}, Paired (MtAt H) ts ms → Paired (MtAt H') ts ms
  | _, _, .nil => .nil
  | _, _, .cons a b => .cons (r.tup h a) (Dr.mts r h b)
theorem Dr.plan {d p tm : Addr} {H H' : Hp} {ts : List Addr} {P : Pl} (r : Dr d H H') (h : DrA H d) (x : PlanAt H p tm ts P) : PlanAt H' p tm ts P := ⟨r.tup h x.top, r.tup h x.mid, r.mts h x.low⟩
theorem same_mts {H H' : Hp} (r : Same H H') : ∀ {ts : List Addr} {ms : List Mt}, Paired (MtAt H) ts ms → Paired (MtAt H') ts ms
  | _, _, .nil => .nil
  | _, _, .cons a b => .cons (r _ _ a) (same_mts r b)
theorem PlanAt.same {p tm : Addr} {H H' : Hp} {ts : List Addr} {P : Pl} (r : Same H H') (x : PlanAt H p tm ts P) : PlanAt H' p tm ts P := ⟨r _ _ x.top, r _ _ x.mid, same_mts r x.low⟩
theorem pick {xs : List Int} {vs : List V} {k : Int} (e : vs = xs.map V.int) (h0 : 0 ≤ k) (h1 : k < xs.length) : ∃ v, v ∈ xs ∧ atI vs k = some (.int v) := by
  rw [e]
  exact ⟨_, List.getElem_mem _, atM_pos h0 h1⟩
theorem abs_eq (c : Int) : (if c < 0 then -c else c) = (c.natAbs : Int) := by
  by_cases h : c < 0
  · rw [if_pos h]
    omega
  · rw [if_neg h]
    omega
theorem paired_snoc {α β : Type} {R : α → β → Prop} {xs : List α} {ys : List β} {a : α} {b : β} (h : Paired R xs ys) (r : R a b) : Paired R (xs ++ [a]) (ys ++ [b]) := h.snoc r
theorem map_snoc {ts : List Addr} {t : Addr} : ts.map V.ref ++ [V.ref t] = (ts ++ [t]).map V.ref := by
  rw [List.map_append]
  rfl
/-- a name: letters a to z, one or more, not many -/
def IsW (w : Str) : Prop := w.cps.toList ≠ [] ∧ (∀ c ∈ w.cps.toList, 97 ≤ c ∧ c ≤ 122) ∧ w.length ≤ 200
theorem mts_at {H : Hp} : ∀ {ts : List Addr} {ms : List Mt} {i : Nat} {t : Addr}, Paired (MtAt H) ts ms → ts[i]? = some t → ∃ m, ms[i]? = some m ∧ MtAt H t m
  | _, _, _, _, .nil, h => by simp at h
  | _, _, 0, _, .cons a _, h => by
    cases (Option.some.inj h)
    exact ⟨_, rfl, a⟩
  | _, _, i + 1, _, .cons _ r, h => mts_at (i := i) r h
def mtOf (H : Hp) (t : Addr) : Mt := match H t with
  | some (.tup [.str n, .int a, .int b, .int c]) => ⟨n, a, b, c⟩
  | _ => ⟨⟨#[]⟩, 0, 0, 0⟩
theorem mtOf_at {H : Hp} {t : Addr} {m : Mt} (h : MtAt H t m) : mtOf H t = m := by
  unfold mtOf
  rw [show H t = some (.tup [.str m.name, .int m.low, .int m.high, .int m.err]) from h]
theorem mts_map {H : Hp} : ∀ {ts : List Addr} {ms : List Mt}, Paired (MtAt H) ts ms → ms = ts.map (mtOf H) ∧ ∀ t ∈ ts, MtAt H t (mtOf H t)
  | _, _, .nil => ⟨rfl, fun _ z => nomatch z⟩
  | t :: ts, _ :: ms, .cons a r => by
    obtain ⟨e, k⟩ := mts_map r
    refine ⟨by rw [List.map_cons, mtOf_at a, ← e], fun x hx => ?_⟩
    rcases List.mem_cons.mp hx with rfl | z
    · rw [mtOf_at a]
      exact a
    · exact k x z
theorem mts_of {H : Hp} : ∀ (ts : List Addr), (∀ t ∈ ts, MtAt H t (mtOf H t)) → Paired (MtAt H) ts (ts.map (mtOf H))
  | [], _ => .nil
  | t :: ts, h => .cons (h t List.mem_cons_self) (mts_of ts fun x hx => h x (List.mem_cons_of_mem _ hx))
theorem refs_perm {ys : List V} {ts : List Addr} (p : ys.Perm (ts.map V.ref)) : ∃ us : List Addr, ys = us.map V.ref ∧ us.Perm ts := by
  have g : ∀ ys : List V, (∀ y ∈ ys, ∃ t, y = V.ref t) → ∃ us : List Addr, ys = us.map V.ref := by
    intro ys
    induction ys with
    | nil => exact fun _ => ⟨[], rfl⟩
    | cons y ys ih =>
      intro h
      obtain ⟨t, rfl⟩ := h y List.mem_cons_self
      obtain ⟨us, e⟩ := ih fun u hu => h u (List.mem_cons_of_mem _ hu)
      exact ⟨t :: us, by rw [e]; rfl⟩
  obtain ⟨us, rfl⟩ := g ys fun y hy => by
    obtain ⟨t, _, e⟩ := List.mem_map.mp (p.mem_iff.mp hy)
    exact ⟨t, e.symm⟩
  refine ⟨us, rfl, ?_⟩
  have q := p.map (fun v => match v with | .ref a => a | _ => 0)
  rw [List.map_map, List.map_map] at q
  have e : ∀ l : List Addr, l.map ((fun v => match v with | .ref a => a | _ => 0) ∘ V.ref) = l := fun l => by
    have : ((fun v => match v with | V.ref a => a | _ => 0) ∘ V.ref) = (id : Addr → Addr) := rfl
    rw [this, List.map_id]
  rw [e, e] at q
  exact q
theorem in_names {x : Str} : ∀ ns : List Str, inV (.str x) (ns.map V.str) = decide (x ∈ ns)
  | [] => by simp [inV]
  | n :: ns => by
    have ih := in_names (x := x) ns
    unfold inV at ih ⊢
    rw [List.map_cons, List.any_cons, ih]
    by_cases e : n = x
    · subst e
      simp [eqV]
    · have e1 : eqV (.str n) (.str x) = false := beq_eq_false_iff_ne.mpr e
      have e2 : ¬ x = n := fun z => e z.symm
      rw [e1, Bool.false_or, decide_eq_decide]
      simp [List.mem_cons, e2]
theorem flat_names (ns : List Str) : (ns.map V.str).all flatV = true := by
  rw [List.all_map, List.all_eq_true]
  exact fun _ _ => rfl

/-! a list or a tuple, walked -/
theorem pi_either {X : Cx} {tg l : Expr} {tl : TE} (hl : PE X l tl) : PI X tg l (fun σ H R => iList X.K tl σ H R ∨ iTup X.K tl σ H R) :=
  ⟨fun pins s σ H R I h => h.elim ((pi_list hl).run pins s σ H R I) ((pi_tup hl).run pins s σ H R I)⟩
/-! texts -/
theorem str_ext {a b : Str} (h : a.cps.toList = b.cps.toList) : a = b := by
  cases a with
  | mk x =>
    cases b with
    | mk y =>
      congr 1
      exact Array.ext' h
theorem cps_app (a b : Str) : (a ++ b).cps.toList = a.cps.toList ++ b.cps.toList := by
  show (a.cps ++ b.cps).toList = _
  simp
theorem len_app (a b : Str) : (a ++ b).length = a.length + b.length := by
  show (a.cps ++ b.cps).size = a.cps.size + b.cps.size
  simp
theorem app_assoc (a b c : Str) : a ++ b ++ c = a ++ (b ++ c) := str_ext (by simp only [cps_app, List.append_assoc])
theorem app_empty (a : Str) : a ++ Str.empty = a := str_ext (by rw [cps_app]; exact List.append_nil _)
theorem empty_app (a : Str) : Str.empty ++ a = a := str_ext (by rw [cps_app]; rfl)
/-! letters of a bag -/
inductive Lt where
  | read (n : Str) (slot ver at_ : Int) (v : Option Int)
  | close (n : Str) (aft at_ wit : Int)
  | clock (n : Str) (lo hi : Int)
def optV : Option Int → V
  | none => .non
  | some i => .int i
def Lt.vals : Lt → List V
  | .read n s v a x => [.str "read", .str n, .int s, .int v, .int a, optV x]
  | .close n f a w => [.str "close", .str n, .int f, .int a, .int w]
  | .clock n l h => [.str "clock", .str n, .int l, .int h]
def Lt.name : Lt → Str
  | .read n _ _ _ _ => n
  | .close n _ _ _ => n
  | .clock n _ _ => n
abbrev intT (i : Int) : Str := ((toString i : String) : Str)
def optT : Option Int → Str
  | none => "void"
  | some i => intT i
def Lt.words : Lt → List Str
  | .read n s v a x => ["read", n, "slot", intT s, "version", intT v, "at", intT a, "is", optT x]
  | .close n f a w => ["close", n, "after", intT f, "at", intT a, "with", intT w]
  | .clock n l h => ["clock", n, "from", intT l, "to", intT h]
def Lt.line (l : Lt) : Str := Txt.join " " l.words
/-- a number of at most 60 digits -/
def Nr (i : Int) : Prop := i.natAbs < 10 ^ 60
def Lt.Ok : Lt → Prop
  | .read n s v a x => IsW n ∧ 1 ≤ s ∧ 0 ≤ v ∧ Nr s ∧ Nr v ∧ Nr a ∧ ∀ i, x = some i → Nr i
  | .close n f a w => IsW n ∧ 0 ≤ f ∧ 0 ≤ w ∧ Nr f ∧ Nr a ∧ Nr w
  | .clock n l h => IsW n ∧ Nr l ∧ Nr h
def LtAt (H : Hp) (t : Addr) (l : Lt) : Prop := H t = some (.tup l.vals)
theorem Nr.log {i : Int} (h : Nr i) : i.natAbs.log2 < 1920 := by
  by_cases e : i.natAbs = 0
  · rw [e]
    decide
  · refine (Nat.log2_lt e).mpr (Nat.lt_trans h ?_)
    decide
theorem Nr.len {i : Int} (h : Nr i) : (intT i).length ≤ 61 := by
  have e := int_text_length_le10 (k := 60) (by decide) h
  show (Str.ofString (toString i)).length ≤ 61
  rw [PySem.ofString_length]
  exact e
theorem optT_len {x : Option Int} (h : ∀ i, x = some i → Nr i) : (optT x).length ≤ 61 := by
  cases x with
  | none => decide +kernel
  | some i => exact (h i rfl).len
/-- the line of a letter and its newline -/
def Lt.row (l : Lt) : Str := l.line ++ ("\n" : Str)
def rows (ls : List Lt) : Str := Txt.join "" (ls.map Lt.row)
theorem join_one (s a : Str) : Txt.join s [a] = a := rfl
theorem line_read (n : Str) (s v a : Int) (x : Option Int) : (Lt.read n s v a x).line = ("read " : Str) ++ n ++ (" slot " : Str) ++ intT s ++ (" version " : Str) ++ intT v ++ (" at " : Str) ++ intT a ++ (" is " : Str) ++ optT x := by
  have c1 : ("read " : Str) = ("read" : Str) ++ (" " : Str) := by decide +kernel
  have c2 : (" slot " : Str) = (" " : Str) ++ ("slot" : Str) ++ (" " : Str) := by decide +kernel
  have c3 : (" version " : Str) = (" " : Str) ++ ("version" : Str) ++ (" " : Str) := by decide +kernel
  have c4 : (" at " : Str) = (" " : Str) ++ ("at" : Str) ++ (" " : Str) := by decide +kernel
  have c5 : (" is " : Str) = (" " : Str) ++ ("is" : Str) ++ (" " : Str) := by decide +kernel
  rw [c1, c2, c3, c4, c5]
  show ("read" : Str) ++ (" " : Str) ++ n ++ (" " : Str) ++ ("slot" : Str) ++ (" " : Str) ++ intT s ++ (" " : Str) ++ ("version" : Str) ++ (" " : Str) ++ intT v ++ (" " : Str) ++ ("at" : Str) ++ (" " : Str) ++ intT a ++ (" " : Str) ++ ("is" : Str) ++ (" " : Str) ++ optT x = _
  simp only [app_assoc]
theorem line_close (n : Str) (f a w : Int) : (Lt.close n f a w).line = ("close " : Str) ++ n ++ (" after " : Str) ++ intT f ++ (" at " : Str) ++ intT a ++ (" with " : Str) ++ intT w := by
  have c1 : ("close " : Str) = ("close" : Str) ++ (" " : Str) := by decide +kernel
  have c2 : (" after " : Str) = (" " : Str) ++ ("after" : Str) ++ (" " : Str) := by decide +kernel
  have c4 : (" at " : Str) = (" " : Str) ++ ("at" : Str) ++ (" " : Str) := by decide +kernel
  have c5 : (" with " : Str) = (" " : Str) ++ ("with" : Str) ++ (" " : Str) := by decide +kernel
  rw [c1, c2, c4, c5]
  show ("close" : Str) ++ (" " : Str) ++ n ++ (" " : Str) ++ ("after" : Str) ++ (" " : Str) ++ intT f ++ (" " : Str) ++ ("at" : Str) ++ (" " : Str) ++ intT a ++ (" " : Str) ++ ("with" : Str) ++ (" " : Str) ++ intT w = _
  simp only [app_assoc]
theorem line_clock (n : Str) (l h : Int) : (Lt.clock n l h).line = ("clock " : Str) ++ n ++ (" from " : Str) ++ intT l ++ (" to " : Str) ++ intT h := by
  have c1 : ("clock " : Str) = ("clock" : Str) ++ (" " : Str) := by decide +kernel
  have c2 : (" from " : Str) = (" " : Str) ++ ("from" : Str) ++ (" " : Str) := by decide +kernel
  have c4 : (" to " : Str) = (" " : Str) ++ ("to" : Str) ++ (" " : Str) := by decide +kernel
  rw [c1, c2, c4]
  show ("clock" : Str) ++ (" " : Str) ++ n ++ (" " : Str) ++ ("from" : Str) ++ (" " : Str) ++ intT l ++ (" " : Str) ++ ("to" : Str) ++ (" " : Str) ++ intT h = _
  simp only [app_assoc]
theorem Lt.Ok.word {l : Lt} (h : l.Ok) : IsW l.name := by
  cases l <;> exact h.1
theorem Lt.Ok.row_len {l : Lt} (h : l.Ok) : l.row.length ≤ 1000 := by
  show (l.line ++ ("\n" : Str)).length ≤ 1000
  have w := h.word.2.2
  have k1 : (("\n" : Str)).length ≤ 10 := by decide +kernel
  cases l with
  | read n s v a x =>
    obtain ⟨_, _, _, a1, a2, a3, a4⟩ := h
    have b1 := a1.len
    have b2 := a2.len
    have b3 := a3.len
    have b4 := optT_len a4
    have d1 : (("read " : Str)).length ≤ 10 := by decide +kernel
    have d2 : ((" slot " : Str)).length ≤ 10 := by decide +kernel
    have d3 : ((" version " : Str)).length ≤ 10 := by decide +kernel
    have d4 : ((" at " : Str)).length ≤ 10 := by decide +kernel
    have d5 : ((" is " : Str)).length ≤ 10 := by decide +kernel
    have w' : n.length ≤ 200 := w
    rw [line_read]
    simp only [len_app]
    omega
  | close n f a v =>
    obtain ⟨_, _, _, a1, a2, a3⟩ := h
    have b1 := a1.len
    have b2 := a2.len
    have b3 := a3.len
    have d1 : (("close " : Str)).length ≤ 10 := by decide +kernel
    have d2 : ((" after " : Str)).length ≤ 10 := by decide +kernel
    have d3 : ((" with " : Str)).length ≤ 10 := by decide +kernel
    have d4 : ((" at " : Str)).length ≤ 10 := by decide +kernel
    have w' : n.length ≤ 200 := w
    rw [line_close]
    simp only [len_app]
    omega
  | clock n lo hi =>
    obtain ⟨_, a1, a2⟩ := h
    have b1 := a1.len
    have b2 := a2.len
    have d1 : (("clock " : Str)).length ≤ 10 := by decide +kernel
    have d2 : ((" from " : Str)).length ≤ 10 := by decide +kernel
    have d3 : ((" to " : Str)).length ≤ 10 := by decide +kernel
    have w' : n.length ≤ 200 := w
    rw [line_clock]
    simp only [len_app]
    omega
theorem isW_no10 {n : Str} (h : IsW n) : 10 ∉ n.cps.toList := fun z => by
  have := h.2.1 10 z
  omega
theorem int_no10 (i : Int) : 10 ∉ (intT i).cps.toList := PyProof.Rows.int_text_free' 10 ⟨by decide, .inl (by decide)⟩ i
theorem opt_no10 (x : Option Int) : 10 ∉ (optT x).cps.toList := by
  cases x with
  | none => decide +kernel
  | some i => exact int_no10 i
theorem Lt.Ok.no10 {l : Lt} (h : l.Ok) : 10 ∉ l.line.cps.toList := by
  have w := isW_no10 h.word
  cases l with
  | read n s v a x =>
    have w' : 10 ∉ n.cps.toList := w
    rw [line_read]
    simp only [cps_app, List.mem_append, not_or]
    exact ⟨⟨⟨⟨⟨⟨⟨⟨⟨by decide +kernel, w'⟩, by decide +kernel⟩, int_no10 _⟩, by decide +kernel⟩, int_no10 _⟩, by decide +kernel⟩, int_no10 _⟩, by decide +kernel⟩, opt_no10 _⟩
  | close n f a v =>
    have w' : 10 ∉ n.cps.toList := w
    rw [line_close]
    simp only [cps_app, List.mem_append, not_or]
    exact ⟨⟨⟨⟨⟨⟨⟨by decide +kernel, w'⟩, by decide +kernel⟩, int_no10 _⟩, by decide +kernel⟩, int_no10 _⟩, by decide +kernel⟩, int_no10 _⟩
  | clock n lo hi =>
    have w' : 10 ∉ n.cps.toList := w
    rw [line_clock]
    simp only [cps_app, List.mem_append, not_or]
    exact ⟨⟨⟨⟨⟨by decide +kernel, w'⟩, by decide +kernel⟩, int_no10 _⟩, by decide +kernel⟩, int_no10 _⟩
theorem rows_eq (ls : List Lt) : rows ls = Str.join "" (ls.map Lt.row) := PySem.StrLaws.glued_eq_join _ _
theorem rows_cons (l : Lt) (ls : List Lt) : rows (l :: ls) = l.row ++ rows ls := by
  rw [rows_eq, rows_eq]
  cases ls with
  | nil =>
    show l.row = l.row ++ Str.empty
    rw [app_empty]
  | cons m ms =>
    show l.row ++ ("" : Str) ++ Str.join "" (m.row :: ms.map Lt.row) = l.row ++ Str.join "" (m.row :: ms.map Lt.row)
    have e : ("" : Str) = Str.empty := by decide +kernel
    rw [e, app_empty]
theorem sum_rows : ∀ {ls : List Lt}, (∀ l ∈ ls, l.Ok) → ((ls.map Lt.row).map (·.length)).sum ≤ ls.length * 1000
  | [], _ => Nat.le_refl 0
  | l :: ls, h => by
    have a := (h l List.mem_cons_self).row_len
    have b := sum_rows (ls := ls) fun m hm => h m (List.mem_cons_of_mem _ hm)
    simp only [List.map_cons, List.sum_cons, List.length_cons]
    omega
theorem rows_fit {ls : List Lt} {n : Nat} (h : ∀ l ∈ ls, l.Ok) (hn : ls.length ≤ n) (h2 : n ≤ 16000) : ((ls.map Lt.row).map (·.length)).sum + (ls.map Lt.row).length * (("" : Str)).length ≤ 16777216 := by
  have a := sum_rows h
  have e : (("" : Str)).length = 0 := by decide +kernel
  rw [e, Nat.mul_zero, Nat.add_zero]
  omega
theorem same_lts {H H' : Hp} (r : Same H H') : ∀ {ts : List Addr} {ls : List Lt}, Paired (LtAt H) ts ls → Paired (LtAt H') ts ls
  | _, _, .nil => .nil
  | _, _, .cons a b => .cons (r _ _ a) (same_lts r b)
theorem Dr.lts {d : Addr} {H H' : Hp} (r : Dr d H H') (h : DrA H d) : ∀ {ts : List Addr} {ls : List Lt}, Paired (LtAt H) ts ls → Paired (LtAt H') ts ls
  | _, _, .nil => .nil
  | _, _, .cons a b => .cons (r.tup h a) (Dr.lts r h b)
theorem lts_at {H : Hp} : ∀ {ts : List Addr} {ls : List Lt} {i : Nat} {t : Addr}, Paired (LtAt H) ts ls → ts[i]? = some t → ∃ l, ls[i]? = some l ∧ LtAt H t l
  | _, _, _, _, .nil, h => by simp at h
  | _, _, 0, _, .cons a _, h => by
    cases (Option.some.inj h)
    exact ⟨_, rfl, a⟩
  | _, _, i + 1, _, .cons _ r, h => lts_at (i := i) r h
theorem nl_eq : ("\n" : Str) = ⟨#[10]⟩ := by decide +kernel
theorem find_nl {z : Str} {a b : List Nat} (h : z.cps.toList = a ++ 10 :: b) (h0 : 10 ∉ a) : Txt.find z "\n" = (a.length : Int) := by
  rw [nl_eq]
  have at_ : z.cps.toList[a.length]? = some 10 := by rw [h]; simp
  rcases PyProof.Rows.find_whole z ⟨#[10]⟩ with ⟨_, n⟩ | ⟨i, e, hi, n⟩
  · exact absurd ((StrLaws.subAt_one z 10 a.length).mpr at_) (n a.length)
  · have q := (StrLaws.subAt_one z 10 i).mp hi
    rw [e]
    rcases Nat.lt_trichotomy i a.length with z' | z' | z'
    · exfalso
      rw [h, List.getElem?_append_left z', List.getElem?_eq_getElem z'] at q
      exact h0 (by rw [← Option.some.inj q]; exact List.getElem_mem z')
    · rw [z']
    · exact absurd ((StrLaws.subAt_one z 10 a.length).mpr at_) (n a.length z')
theorem find_nil : Txt.find Str.empty "\n" = -1 := by
  rw [nl_eq]
  rcases PyProof.Rows.find_whole Str.empty ⟨#[10]⟩ with ⟨e, _⟩ | ⟨i, e, hi, n⟩
  · exact e
  · have q := (StrLaws.subAt_one Str.empty 10 i).mp hi
    exact absurd q (by simp [Str.empty])
theorem cut_to (z : Str) (k : Nat) : cutS z none (some (k : Int)) = ⟨(z.cps.toList.take k).toArray⟩ := by
  have e : z.cps.size = z.cps.toList.length := by simp
  show Str.mk ((z.cps.toList.drop (HT.sIx z.length 0 none)).take (HT.sIx z.length z.length (some (k : Int)) - HT.sIx z.length 0 none)).toArray = _
  rw [HT.sIx_none, HT.sIx_nat, List.drop_zero, Nat.sub_zero]
  have e2 : z.cps.toList.take (min k z.length) = z.cps.toList.take k := by
    show z.cps.toList.take (min k z.cps.size) = _
    rw [e, ← List.take_eq_take_min]
  rw [e2]
/-- a text up to its first newline -/
theorem cut_find {ls : List Lt} (ok : ∀ l ∈ ls, l.Ok) : cutS (rows ls) none (some (Txt.find (rows ls) "\n" + 1)) = rows (ls.take 1) := by
  cases ls with
  | nil =>
    show cutS (rows []) none (some (Txt.find Str.empty "\n" + 1)) = rows []
    rw [find_nil]
    show cutS (rows []) none (some ((0 : Nat) : Int)) = rows []
    rw [cut_to]
    rfl
  | cons l r =>
    have e : (rows (l :: r)).cps.toList = l.line.cps.toList ++ 10 :: (rows r).cps.toList := by
      rw [rows_cons, cps_app]
      show (l.line ++ ("\n" : Str)).cps.toList ++ _ = _
      rw [cps_app, nl_eq, List.append_assoc]
      rfl
    rw [find_nl e (ok l List.mem_cons_self).no10]
    have c : ((l.line.cps.toList.length : Int) + 1) = ((l.line.cps.toList.length + 1 : Nat) : Int) := by omega
    rw [c, cut_to, e]
    show _ = rows [l]
    rw [rows_cons]
    show _ = l.row ++ Str.empty
    rw [app_empty]
    refine str_ext ?_
    show (((l.line.cps.toList ++ 10 :: (rows r).cps.toList).take (l.line.cps.toList.length + 1)).toArray).toList = (l.line ++ ("\n" : Str)).cps.toList
    rw [cps_app, nl_eq, List.take_append]
    simp
    exact List.take_of_length_le (by simp)
/-- lists cut and put one behind the other -/
theorem paired_take {α β : Type} {R : α → β → Prop} : ∀ {us : List α} {ls : List β} (k : Nat), Paired R us ls → Paired R (us.take k) (ls.take k)
  | _, _, 0, _ => by simp only [List.take_zero]; exact .nil
  | _, _, k + 1, .nil => .nil
  | _, _, k + 1, .cons a b => .cons a (paired_take k b)
theorem paired_app {α β : Type} {R : α → β → Prop} : ∀ {us : List α} {ls : List β} {us' : List α} {ls' : List β}, Paired R us ls → Paired R us' ls' → Paired R (us ++ us') (ls ++ ls')
  | _, _, _, _, .nil, h => h
  | _, _, _, _, .cons a b, h => .cons a (paired_app b h)
theorem paired_rep {α β : Type} {R : α → β → Prop} {us : List α} {ls : List β} (h : Paired R us ls) : ∀ k : Nat, Paired R (List.replicate k us).flatten (List.replicate k ls).flatten
  | 0 => .nil
  | k + 1 => paired_app h (paired_rep h k)
theorem map_rep {α β : Type} (f : α → β) (xs : List α) : ∀ k : Nat, (List.replicate k (xs.map f)).flatten = ((List.replicate k xs).flatten).map f
  | 0 => rfl
  | k + 1 => by
    show xs.map f ++ (List.replicate k (xs.map f)).flatten = (xs ++ (List.replicate k xs).flatten).map f
    rw [map_rep f xs k, List.map_append]
theorem mem_rep {α : Type} {xs : List α} {x : α} : ∀ {k : Nat}, x ∈ (List.replicate k xs).flatten → x ∈ xs
  | 0, h => by simp at h
  | k + 1, h => by
    have h' : x ∈ xs ++ (List.replicate k xs).flatten := h
    rcases List.mem_append.mp h' with z | z
    · exact z
    · exact mem_rep z
theorem len_rep {α : Type} (xs : List α) : ∀ k : Nat, ((List.replicate k xs).flatten).length = k * xs.length
  | 0 => by simp
  | k + 1 => by
    show (xs ++ (List.replicate k xs).flatten).length = _
    rw [List.length_append, len_rep xs k, Nat.succ_mul, Nat.add_comm]
theorem cutV_to (xs : List V) (k : Nat) : cutV xs none (some (k : Int)) = xs.take k := by
  show (xs.drop (HT.sIx xs.length 0 none)).take (HT.sIx xs.length xs.length (some (k : Int)) - HT.sIx xs.length 0 none) = _
  rw [HT.sIx_none, HT.sIx_nat, List.drop_zero, Nat.sub_zero, ← List.take_eq_take_min]
/-! letters as data -/
def optD : Option Int → PyData
  | none => .none
  | some i => .int i
def ltD : Lt → PyData
  | .read n s v a x => .tuple [.str "read", .str n, .int s, .int v, .int a, optD x]
  | .close n f a w => .tuple [.str "close", .str n, .int f, .int a, .int w]
  | .clock n l h => .tuple [.str "clock", .str n, .int l, .int h]
theorem opt_dp {K : PySem.W.Frag} {H : Hp} (x : Option Int) : Dp K H (optV x) (optD x) := by
  cases x with
  | none => exact .non
  | some i => exact .int i
theorem lt_dp {K : PySem.W.Frag} {H : Hp} {t : Addr} {l : Lt} (h : LtAt H t l) : Dp K H (.ref t) (ltD l) := by
  cases l with
  | read n s v a x => exact .tup (.inl (.inl h)) (.cons (.str _) (.cons (.str _) (.cons (.int _) (.cons (.int _) (.cons (.int _) (.cons (opt_dp x) .nil))))))
  | close n f a w => exact .tup (.inl (.inl h)) (.cons (.str _) (.cons (.str _) (.cons (.int _) (.cons (.int _) (.cons (.int _) .nil)))))
  | clock n l h' => exact .tup (.inl (.inl h)) (.cons (.str _) (.cons (.str _) (.cons (.int _) (.cons (.int _) .nil))))
theorem lts_dp {K : PySem.W.Frag} {H : Hp} : ∀ {ts : List Addr} {ls : List Lt}, Paired (LtAt H) ts ls → DpAll K H (ts.map V.ref) (ls.map ltD)
  | _, _, .nil => .nil
  | _, _, .cons a b => .cons (lt_dp a) (lts_dp b)
theorem isW_ok {n : Str} (h : IsW n) : PyData.strOk n = true := by
  unfold PyData.strOk
  rw [Array.all_eq_true]
  intro i hi
  have := h.2.1 n.cps[i] (by simp)
  exact decide_eq_true (by omega)
theorem lt_lay {l : Lt} (h : l.Ok) : (ltD l).canLay0 = true := by
  have w := isW_ok h.word
  cases l with
  | read n s v a x =>
    have w' : PyData.strOk n = true := w
    have k : PyData.strOk "read" = true := by decide +kernel
    cases x <;> simp [ltD, optD, PyData.canLay0, PyData.canLayAll0, w', k]
  | close n f a v =>
    have w' : PyData.strOk n = true := w
    have k : PyData.strOk "close" = true := by decide +kernel
    simp [ltD, PyData.canLay0, PyData.canLayAll0, w', k]
  | clock n lo hi =>
    have w' : PyData.strOk n = true := w
    have k : PyData.strOk "clock" = true := by decide +kernel
    simp [ltD, PyData.canLay0, PyData.canLayAll0, w', k]
theorem lt_deep (l : Lt) : (ltD l).depth = 1 := by
  cases l with
  | read n s v a x => cases x <;> rfl
  | close => rfl
  | clock => rfl
theorem lts_lay : ∀ {ls : List Lt}, (∀ l ∈ ls, l.Ok) → PyData.canLayAll0 (ls.map ltD) = true
  | [], _ => rfl
  | l :: ls, h => by
    show ((ltD l).canLay0 && PyData.canLayAll0 (ls.map ltD)) = true
    rw [lt_lay (h l List.mem_cons_self), lts_lay fun m hm => h m (List.mem_cons_of_mem _ hm)]
    rfl
theorem lts_deep : ∀ ls : List Lt, PyData.depthAll (ls.map ltD) ≤ 1
  | [] => Nat.zero_le _
  | l :: ls => by
    show max (ltD l).depth (PyData.depthAll (ls.map ltD)) ≤ 1
    rw [lt_deep]
    exact Nat.max_le.mpr ⟨Nat.le_refl _, lts_deep ls⟩
theorem bag_shaped {ls : List Lt} (h : ∀ l ∈ ls, l.Ok) : SeqAt.shaped (.list (ls.map ltD)) = true := by
  unfold SeqAt.shaped
  rw [Bool.and_eq_true]
  refine ⟨lts_lay h, decide_eq_true ?_⟩
  have := lts_deep ls
  show PyData.depthAll (ls.map ltD) + 1 ≤ 64
  omega
theorem bag_same {ls : List Lt} (h : ∀ l ∈ ls, l.Ok) : PyData.eqv (.list (ls.map ltD)) (.list (ls.map ltD)) = true := SeqAt.eqv_refl _ (lts_lay h)
/-- the words of the written form, as the module's dict has them -/
def WordsAt (K : PySem.W.Frag) (w : World) (a : Addr) : Prop := ∃ tr tc tk : Addr, KDct K w a "read" (.ref tr) ∧ KDct K w a "close" (.ref tc) ∧ KDct K w a "clock" (.ref tk) ∧
  (∀ H, SqT K H tr [.str "slot", .str "version", .str "at", .str "is"]) ∧ (∀ H, SqT K H tc [.str "after", .str "at", .str "with"]) ∧ ∀ H, SqT K H tk [.str "from", .str "to"]
def Lt.kind : Lt → Str
  | .read .. => "read"
  | .close .. => "close"
  | .clock .. => "clock"
def Lt.mid : Lt → List Str
  | .read .. => ["slot", "version", "at", "is"]
  | .close .. => ["after", "at", "with"]
  | .clock .. => ["from", "to"]
def Lt.nums : Lt → List (Option Int)
  | .read _ s v a x => [some s, some v, some a, x]
  | .close _ f a w => [some f, some a, some w]
  | .clock _ l h => [some l, some h]
theorem Lt.vals_eq (l : Lt) : l.vals = .str l.kind :: .str l.name :: l.nums.map optV := by
  cases l <;> rfl
/-- the parts of a line, up to the i-th number -/
def Lt.upto (l : Lt) (i : Nat) : List Str := l.kind :: l.name :: ((l.mid.zip (l.nums.map optT)).take i).flatMap fun p => [p.1, p.2]
theorem Lt.upto_all (l : Lt) : l.upto l.mid.length = l.words := by
  cases l <;> rfl
theorem Lt.mid_nums (l : Lt) : l.mid.length = l.nums.length := by
  cases l <;> rfl
theorem Lt.mid_le (l : Lt) : l.mid.length ≤ 4 := by
  cases l
  · exact (by decide : 4 ≤ 4)
  · exact (by decide : 3 ≤ 4)
  · exact (by decide : 2 ≤ 4)
theorem Lt.upto_succ {l : Lt} {i : Nat} {a : Str} {x : Option Int} (h1 : l.mid[i]? = some a) (h2 : l.nums[i]? = some x) : l.upto (i + 1) = l.upto i ++ [a] ++ [optT x] := by
  have e : (l.mid.zip (l.nums.map optT))[i]? = some (a, optT x) := by
    rw [List.getElem?_zip_eq_some]
    exact ⟨h1, by rw [List.getElem?_map, h2]; rfl⟩
  unfold Lt.upto
  rw [List.take_add_one, e, List.flatMap_append, ← List.cons_append, ← List.cons_append, List.append_assoc]
  rfl
theorem Lt.upto_len (l : Lt) (i : Nat) (h : i ≤ 4) : (l.upto i).length ≤ 10 := by
  have e : ∀ (m : List (Str × Str)), (m.flatMap fun p => [p.1, p.2]).length = 2 * m.length := fun m => by
    induction m with
    | nil => rfl
    | cons p r ih =>
      rw [List.flatMap_cons, List.length_append, ih]
      show 2 + 2 * r.length = 2 * (r.length + 1)
      omega
  show (((l.mid.zip (l.nums.map optT)).take i).flatMap fun p => [p.1, p.2]).length + 2 ≤ 10
  rw [e, List.length_take]
  omega
theorem Lt.Ok.nr {l : Lt} (h : l.Ok) : ∀ i, some i ∈ l.nums → Nr i := by
  cases l with
  | read n s v a x =>
    obtain ⟨_, _, _, a1, a2, a3, a4⟩ := h
    intro i hi
    simp only [Lt.nums, List.mem_cons, List.not_mem_nil, or_false, Option.some.injEq] at hi
    rcases hi with rfl | rfl | rfl | z
    · exact a1
    · exact a2
    · exact a3
    · exact a4 i z.symm
  | close n f a v =>
    obtain ⟨_, _, _, a1, a2, a3⟩ := h
    intro i hi
    simp only [Lt.nums, List.mem_cons, List.not_mem_nil, or_false, Option.some.injEq] at hi
    rcases hi with rfl | rfl | rfl
    · exact a1
    · exact a2
    · exact a3
  | clock n lo hi' =>
    obtain ⟨_, a1, a2⟩ := h
    intro i hi
    simp only [Lt.nums, List.mem_cons, List.not_mem_nil, or_false, Option.some.injEq] at hi
    rcases hi with rfl | rfl
    · exact a1
    · exact a2
theorem Lt.Ok.words_fit {l : Lt} (h : l.Ok) : (l.words.map (·.length)).sum + l.words.length * ((" " : Str)).length ≤ 16777216 := by
  have w := h.word.2.2
  have e0 : ((" " : Str)).length ≤ 10 := by decide +kernel
  have m0 : ∀ k : Nat, k ≤ 10 → k * ((" " : Str)).length ≤ 100 := fun k hk => Nat.le_trans (Nat.mul_le_mul hk e0) (by decide)
  cases l with
  | read n s v a x =>
    obtain ⟨_, _, _, a1, a2, a3, a4⟩ := h
    have b1 := a1.len
    have b2 := a2.len
    have b3 := a3.len
    have b4 := optT_len a4
    have d1 : (("read" : Str)).length ≤ 10 := by decide +kernel
    have d2 : (("slot" : Str)).length ≤ 10 := by decide +kernel
    have d3 : (("version" : Str)).length ≤ 10 := by decide +kernel
    have d4 : (("at" : Str)).length ≤ 10 := by decide +kernel
    have d5 : (("is" : Str)).length ≤ 10 := by decide +kernel
    have w' : n.length ≤ 200 := w
    have m := m0 10 (by decide)
    simp only [Lt.words, List.map_cons, List.map_nil, List.sum_cons, List.sum_nil, List.length_cons, List.length_nil]
    omega
  | close n f a v =>
    obtain ⟨_, _, _, a1, a2, a3⟩ := h
    have b1 := a1.len
    have b2 := a2.len
    have b3 := a3.len
    have d1 : (("close" : Str)).length ≤ 10 := by decide +kernel
    have d2 : (("after" : Str)).length ≤ 10 := by decide +kernel
    have d3 : (("with" : Str)).length ≤ 10 := by decide +kernel
    have d4 : (("at" : Str)).length ≤ 10 := by decide +kernel
    have w' : n.length ≤ 200 := w
    have m := m0 8 (by decide)
    simp only [Lt.words, List.map_cons, List.map_nil, List.sum_cons, List.sum_nil, List.length_cons, List.length_nil]
    omega
  | clock n lo hi =>
    obtain ⟨_, a1, a2⟩ := h
    have b1 := a1.len
    have b2 := a2.len
    have d1 : (("clock" : Str)).length ≤ 10 := by decide +kernel
    have d2 : (("from" : Str)).length ≤ 10 := by decide +kernel
    have d3 : (("to" : Str)).length ≤ 10 := by decide +kernel
    have w' : n.length ≤ 200 := w
    have m := m0 6 (by decide)
    simp only [Lt.words, List.map_cons, List.map_nil, List.sum_cons, List.sum_nil, List.length_cons, List.length_nil]
    omega
theorem lts_kept {H H' : Hp} (k : ∀ b xs, H b = some (.tup xs) → H' b = some (.tup xs)) {us : List Addr} {ls : List Lt} (h : Paired (LtAt H) us ls) : Paired (LtAt H') us ls := L2.Paired.mapP h fun _ _ y => k _ _ y
theorem sqL_same {K : PySem.W.Frag} {H H' : Hp} {a : Addr} {xs : List V} (s : Same H H') (h : SqL K H a xs) : SqL K H' a xs := by
  rcases h with (h | ⟨o, h⟩) | h
  · exact .inl (.inl (s _ _ h))
  · exact .inl (.inr ⟨o, s _ _ h⟩)
  · exact .inr h
theorem sqT_same {K : PySem.W.Frag} {H H' : Hp} {a : Addr} {xs : List V} (s : Same H H') (h : SqT K H a xs) : SqT K H' a xs := by
  rcases h with (h | ⟨o, h⟩) | h
  · exact .inl (.inl (s _ _ h))
  · exact .inl (.inr ⟨o, s _ _ h⟩)
  · exact .inr h

/-! histories in the heap -/
structure Sl where
  stamp : Int
  vers : List (Option Int)
def SlAt (H : Hp) (s : Addr) (x : Sl) : Prop := ∃ tv, H s = some (.tup [.int x.stamp, .ref tv]) ∧ H tv = some (.tup (x.vers.map optV))
structure Lg where
  name : Str
  off : Int
  slots : List Sl
def LgAt (H : Hp) (g : Addr) (x : Lg) : Prop := ∃ ts us, H g = some (.tup [.str x.name, .int x.off, .ref ts]) ∧ H ts = some (.tup (us.map V.ref)) ∧ Paired (SlAt H) us x.slots
def HistAt (H : Hp) (h : Addr) (ls : List Lg) : Prop := ∃ gs, H h = some (.tup (gs.map V.ref)) ∧ Paired (LgAt H) gs ls
/-- the versions of a slot of this meter -/
structure VersOk (m : Mt) (vs : List (Option Int)) : Prop where
  head : ∃ v r, vs = some v :: r
  few : vs.length ≤ 12
  each : ∀ v, some v ∈ vs → m.low ≤ v ∧ v ≤ m.high
/-- slots whose stamps never fall, none above st, none far from the cell -/
structure SlsOk (m : Mt) (c st : Int) (xs : List Sl) : Prop where
  up : (xs.map Sl.stamp).Pairwise (· ≤ ·)
  top : ∀ x ∈ xs, x.stamp ≤ st
  near : ∀ x ∈ xs, x.stamp.natAbs ≤ c.natAbs + 1000
  vers : ∀ x ∈ xs, VersOk m x.vers
theorem SlsOk.nil (m : Mt) (c st : Int) : SlsOk m c st [] := ⟨.nil, (fun _ z => nomatch z), (fun _ z => nomatch z), fun _ z => nomatch z⟩
theorem SlsOk.snoc {m : Mt} {c st : Int} {xs : List Sl} {x : Sl} (h : SlsOk m c st xs) (a : st ≤ x.stamp) (n : x.stamp.natAbs ≤ c.natAbs + 1000) (v : VersOk m x.vers) : SlsOk m c x.stamp (xs ++ [x]) := by
  refine ⟨?_, fun y hy => ?_, fun y hy => ?_, fun y hy => ?_⟩
  · rw [List.map_append]
    refine List.pairwise_append.mpr ⟨h.up, List.pairwise_singleton _ _, fun y hy z hz => ?_⟩
    obtain ⟨w, hw, rfl⟩ := List.mem_map.mp hy
    rw [List.mem_singleton.mp hz]
    exact Int.le_trans (h.top w hw) a
  · rcases List.mem_append.mp hy with z | z
    · exact Int.le_trans (h.top y z) a
    · rw [List.mem_singleton.mp z]
      exact Int.le_refl _
  · rcases List.mem_append.mp hy with z | z
    · exact h.near y z
    · rw [List.mem_singleton.mp z]
      exact n
  · rcases List.mem_append.mp hy with z | z
    · exact h.vers y z
    · rw [List.mem_singleton.mp z]
      exact v
theorem SlsOk.take {m : Mt} {c st : Int} {xs : List Sl} (h : SlsOk m c st xs) (k : Nat) : SlsOk m c st (xs.take k) :=
  ⟨by rw [List.map_take]; exact h.up.sublist (List.take_sublist _ _), fun x hx => h.top x (List.mem_of_mem_take hx), fun x hx => h.near x (List.mem_of_mem_take hx), fun x hx => h.vers x (List.mem_of_mem_take hx)⟩
/-- a log of this meter -/
structure LgOk (m : Mt) (c : Int) (x : Lg) : Prop where
  name : x.name = m.name
  lo : -m.err ≤ x.off
  hi : x.off ≤ m.err
  slots : ∃ st, SlsOk m c st x.slots
  few : x.slots.length ≤ 50
/-- what keeps tuples keeps slots, logs and histories -/
def KT (H H' : Hp) : Prop := ∀ b xs, H b = some (.tup xs) → H' b = some (.tup xs)
theorem SlAt.kept {H H' : Hp} (k : KT H H') {s : Addr} {x : Sl} (h : SlAt H s x) : SlAt H' s x := let ⟨tv, a, b⟩ := h; ⟨tv, k _ _ a, k _ _ b⟩
theorem sls_kept {H H' : Hp} (k : KT H H') {us : List Addr} {xs : List Sl} (h : Paired (SlAt H) us xs) : Paired (SlAt H') us xs := L2.Paired.mapP h fun _ _ y => y.kept k
theorem LgAt.kept {H H' : Hp} (k : KT H H') {s : Addr} {x : Lg} (h : LgAt H s x) : LgAt H' s x := let ⟨ts, us, a, b, c⟩ := h; ⟨ts, us, k _ _ a, k _ _ b, sls_kept k c⟩
theorem lgs_kept {H H' : Hp} (k : KT H H') {us : List Addr} {xs : List Lg} (h : Paired (LgAt H) us xs) : Paired (LgAt H') us xs := L2.Paired.mapP h fun _ _ y => y.kept k
theorem HistAt.kept {H H' : Hp} (k : KT H H') {h : Addr} {ls : List Lg} (x : HistAt H h ls) : HistAt H' h ls := let ⟨gs, a, b⟩ := x; ⟨gs, k _ _ a, lgs_kept k b⟩
theorem Dr.kt {d : Addr} {H H' : Hp} (r : Dr d H H') (h : DrA H d) : KT H H' := fun _ _ e => r.tup h e
theorem Same.kt {H H' : Hp} (s : Same H H') : KT H H' := fun _ _ e => s _ _ e
theorem kt_lst {H : Hp} {G : Addr} {xs ys : List V} (hG : H G = some (.lst xs)) : KT H (upd H G (.lst ys)) := fun b zs e => by
  rw [upd_ne (ne_of e hG (fun z => nomatch z))]
  exact e
theorem KT.trans {H H1 H2 : Hp} (a : KT H H1) (b : KT H1 H2) : KT H H2 := fun c x e => b c x (a c x e)
def versFrom (n : Str) (j st : Int) : Nat → List (Option Int) → List Lt
  | _, [] => []
  | i, v :: r => .read n j (i : Int) st v :: versFrom n j st (i + 1) r
def slotsFrom (n : Str) : Nat → List Sl → List (List Lt)
  | _, [] => []
  | j, s :: r => versFrom n ((j : Int) + 1) s.stamp 0 s.vers :: slotsFrom n (j + 1) r
/-- the "read" letters of a history, in their order -/
def dueL (ls : List Lg) : List Lt := (ls.map fun g => (slotsFrom g.name 0 g.slots).flatten).flatten
theorem versFrom_at (n : Str) (j st : Int) : ∀ (k : Nat) (vs : List (Option Int)) (i : Nat), (versFrom n j st k vs)[i]? = vs[i]?.map fun v => .read n j (((k + i : Nat)) : Int) st v
  | _, [], i => by simp [versFrom]
  | k, v :: r, 0 => by simp [versFrom]
  | k, v :: r, i + 1 => by
    have h := versFrom_at n j st (k + 1) r i
    rw [show k + 1 + i = k + (i + 1) by omega] at h
    simpa [versFrom] using h
theorem versFrom_len (n : Str) (j st : Int) : ∀ (k : Nat) (vs : List (Option Int)), (versFrom n j st k vs).length = vs.length
  | _, [] => rfl
  | k, v :: r => congrArg (· + 1) (versFrom_len n j st (k + 1) r)
theorem slotsFrom_at (n : Str) : ∀ (k : Nat) (xs : List Sl) (i : Nat), (slotsFrom n k xs)[i]? = xs[i]?.map fun s => versFrom n (((k + i : Nat) : Int) + 1) s.stamp 0 s.vers
  | _, [], i => by simp [slotsFrom]
  | k, v :: r, 0 => by simp [slotsFrom]
  | k, v :: r, i + 1 => by
    have h := slotsFrom_at n (k + 1) r i
    rw [show k + 1 + i = k + (i + 1) by omega] at h
    simpa [slotsFrom] using h
theorem slotsFrom_len (n : Str) : ∀ (k : Nat) (xs : List Sl), (slotsFrom n k xs).length = xs.length
  | _, [] => rfl
  | k, v :: r => congrArg (· + 1) (slotsFrom_len n (k + 1) r)
theorem flat_take {α : Type} {ls : List (List α)} {i : Nat} {x : List α} (h : ls[i]? = some x) : (ls.take (i + 1)).flatten = (ls.take i).flatten ++ x := by
  rw [List.take_add_one, h, List.flatten_append]
  simp
theorem sls_at {H : Hp} : ∀ {us : List Addr} {xs : List Sl} {i : Nat} {u : Addr}, Paired (SlAt H) us xs → us[i]? = some u → ∃ x, xs[i]? = some x ∧ SlAt H u x
  | _, _, _, _, .nil, h => by simp at h
  | _, _, 0, _, .cons a _, h => by
    cases (Option.some.inj h)
    exact ⟨_, rfl, a⟩
  | _, _, i + 1, _, .cons _ r, h => sls_at (i := i) r h
theorem lgs_at {H : Hp} : ∀ {us : List Addr} {xs : List Lg} {i : Nat} {u : Addr}, Paired (LgAt H) us xs → us[i]? = some u → ∃ x, xs[i]? = some x ∧ LgAt H u x
  | _, _, _, _, .nil, h => by simp at h
  | _, _, 0, _, .cons a _, h => by
    cases (Option.some.inj h)
    exact ⟨_, rfl, a⟩
  | _, _, i + 1, _, .cons _ r, h => lgs_at (i := i) r h
/-- a history of few logs, slots, versions -/
structure HistFew (ls : List Lg) : Prop where
  logs : ls.length ≤ 20
  slots : ∀ g ∈ ls, g.slots.length ≤ 60
  vers : ∀ g ∈ ls, ∀ s ∈ g.slots, s.vers.length ≤ 24
/-- the logs of a history, meter by meter -/
def HistOk (P : Pl) (c : Int) (ls : List Lg) : Prop := Paired (fun m x => LgOk m c x) P.ms ls
theorem paired_mem {α β : Type} {R : α → β → Prop} : ∀ {xs : List α} {ys : List β}, Paired R xs ys → ∀ y ∈ ys, ∃ x ∈ xs, R x y
  | _, _, .nil, _, h => nomatch h
  | _, _, .cons a r, y, h => by
    rcases List.mem_cons.mp h with rfl | z
    · exact ⟨_, List.mem_cons_self, a⟩
    · obtain ⟨x, hx, k⟩ := paired_mem r y z
      exact ⟨x, List.mem_cons_of_mem _ hx, k⟩
theorem HistOk.few {P : Pl} {c : Int} {ls : List Lg} (h : HistOk P c ls) (n : P.ms.length ≤ 20) : HistFew ls := by
  refine ⟨by have := (show Paired (fun m x => LgOk m c x) P.ms ls from h).length; omega, fun g hg => ?_, fun g hg s hs => ?_⟩
  · obtain ⟨m, _, k⟩ := paired_mem h g hg
    have := k.few
    omega
  · obtain ⟨m, _, k⟩ := paired_mem h g hg
    obtain ⟨st, z⟩ := k.slots
    exact Nat.le_trans (z.vers s hs).few (by decide)
theorem HistOk.names {P : Pl} {c : Int} {ls : List Lg} (h : HistOk P c ls) (iw : ∀ m ∈ P.ms, IsW m.name) : ∀ g ∈ ls, IsW g.name := fun g hg => by
  obtain ⟨m, hm, k⟩ := paired_mem h g hg
  rw [k.name]
  exact iw m hm
theorem HistFew.take {ls : List Lg} (h : HistFew ls) (k : Nat) : HistFew (ls.take k) :=
  ⟨by rw [List.length_take]; have := h.logs; omega, fun g hg => h.slots g (List.mem_of_mem_take hg), fun g hg => h.vers g (List.mem_of_mem_take hg)⟩
theorem versFrom_mem {n : Str} {j st : Int} : ∀ {k : Nat} {vs : List (Option Int)} {l : Lt}, l ∈ versFrom n j st k vs → ∃ s v a x, l = .read n s v a x
  | _, [], _, h => nomatch h
  | k, v :: r, l, h => by
    rcases List.mem_cons.mp h with rfl | z
    · exact ⟨_, _, _, _, rfl⟩
    · exact versFrom_mem z
theorem slotsFrom_mem {n : Str} : ∀ {k : Nat} {xs : List Sl} {r : List Lt} {l : Lt}, r ∈ slotsFrom n k xs → l ∈ r → ∃ s v a x, l = .read n s v a x
  | _, [], _, _, h, _ => nomatch h
  | k, x :: xs, r, l, h, hl => by
    rcases List.mem_cons.mp h with rfl | z
    · exact versFrom_mem hl
    · exact slotsFrom_mem z hl
theorem due_mem {ls : List Lg} {l : Lt} (h : l ∈ dueL ls) : ∃ g ∈ ls, ∃ s v a x, l = .read g.name s v a x := by
  unfold dueL at h
  obtain ⟨r, hr, hl⟩ := List.mem_flatten.mp h
  obtain ⟨g, hg, rfl⟩ := List.mem_map.mp hr
  obtain ⟨r2, hr2, hl2⟩ := List.mem_flatten.mp hl
  exact ⟨g, hg, slotsFrom_mem hr2 hl2⟩
theorem due_empty (ls : List Lg) : dueL (ls.map fun g => ⟨g.name, g.off, []⟩) = [] := by
  unfold dueL
  rw [List.map_map]
  induction ls with
  | nil => rfl
  | cons g r ih =>
    rw [List.map_cons, List.flatten_cons, ih]
    rfl
theorem read_lay {n : Str} {s v a : Int} {x : Option Int} (w : IsW n) : (ltD (.read n s v a x)).canLay0 = true := by
  have w' : PyData.strOk n = true := isW_ok w
  have k : PyData.strOk "read" = true := by decide +kernel
  cases x <;> simp [ltD, optD, PyData.canLay0, PyData.canLayAll0, w', k]
theorem lt_shaped {l : Lt} (h : (ltD l).canLay0 = true) : SeqAt.shaped (ltD l) = true := by
  unfold SeqAt.shaped
  rw [Bool.and_eq_true]
  exact ⟨h, decide_eq_true (by rw [lt_deep]; decide)⟩
theorem dues_lay : ∀ {ds : List Lt}, (∀ l ∈ ds, (ltD l).canLay0 = true) → PyData.canLayAll0 (ds.map ltD) = true
  | [], _ => rfl
  | l :: ds, h => by
    show ((ltD l).canLay0 && PyData.canLayAll0 (ds.map ltD)) = true
    rw [h l List.mem_cons_self, dues_lay fun m hm => h m (List.mem_cons_of_mem _ hm)]
    rfl
theorem dues_shaped {ds : List Lt} (h : ∀ l ∈ ds, (ltD l).canLay0 = true) : SeqAt.shaped (.tuple (ds.map ltD)) = true := by
  unfold SeqAt.shaped
  rw [Bool.and_eq_true]
  refine ⟨dues_lay h, decide_eq_true ?_⟩
  have := lts_deep ds
  show PyData.depthAll (ds.map ltD) + 1 ≤ 64
  omega
theorem dues_same {ds : List Lt} (h : ∀ l ∈ ds, (ltD l).canLay0 = true) : PyData.eqv (.tuple (ds.map ltD)) (.tuple (ds.map ltD)) = true := SeqAt.eqv_refl _ (dues_lay h)
theorem slots_len {n : Str} : ∀ {k : Nat} {xs : List Sl}, (∀ s ∈ xs, s.vers.length ≤ 24) → (slotsFrom n k xs).flatten.length ≤ 24 * xs.length
  | _, [], _ => Nat.zero_le _
  | k, x :: xs, h => by
    have a := h x List.mem_cons_self
    have b := slots_len (n := n) (k := k + 1) fun s hs => h s (List.mem_cons_of_mem _ hs)
    show (versFrom n ((k : Int) + 1) x.stamp 0 x.vers ++ (slotsFrom n (k + 1) xs).flatten).length ≤ _
    rw [List.length_append, versFrom_len, List.length_cons]
    omega
theorem due_len : ∀ {ls : List Lg}, (∀ g ∈ ls, g.slots.length ≤ 60) → (∀ g ∈ ls, ∀ s ∈ g.slots, s.vers.length ≤ 24) → (dueL ls).length ≤ 1440 * ls.length
  | [], _, _ => Nat.zero_le _
  | g :: ls, h1, h2 => by
    have a := h1 g List.mem_cons_self
    have b := slots_len (n := g.name) (k := 0) (h2 g List.mem_cons_self)
    have c := due_len (ls := ls) (fun g' hg => h1 g' (List.mem_cons_of_mem _ hg)) fun g' hg => h2 g' (List.mem_cons_of_mem _ hg)
    show ((slotsFrom g.name 0 g.slots).flatten ++ dueL ls).length ≤ _
    rw [List.length_append, List.length_cons]
    omega
/-- len(..) of a list or a tuple -/
def rLenK (K : PySem.W.Frag) : List V → Hp → VK → Prop := fun xs H Q => ∃ p ys, xs = [V.ref p] ∧ (SqL K H p ys ∨ SqT K H p ys) ∧ Q (.int (ys.length : Nat)) H

/-! readings, aggregates and their values -/
theorem pickT {xs : List V} {k : Int} (h0 : 0 ≤ k) (h1 : k < xs.length) : ∃ v, v ∈ xs ∧ atI xs k = some v :=
  ⟨_, List.getElem_mem _, atI_pos h0 h1⟩
theorem pickI {xs : List Int} {vs : List V} {k : Int} (e : vs = xs.map V.int) (h0 : 0 ≤ k) (h1 : k < xs.length) : ∃ v, v ∈ xs ∧ atI vs k = some (.int v) := by
  rw [e]
  exact ⟨_, List.getElem_mem _, atM_pos h0 h1⟩
theorem int_at {xs : List Int} {i : Nat} {x : V} (h : (xs.map V.int)[i]? = some x) : ∃ k, xs[i]? = some k ∧ x = .int k := by
  rw [List.getElem?_map] at h
  obtain ⟨a, e1, e2⟩ := Option.map_eq_some_iff.mp h
  exact ⟨a, e1, e2.symm⟩
theorem filt_snoc {xs : List Int} {i : Nat} {k : Int} (f : Int → Bool) (h : xs[i]? = some k) : (xs.take (i + 1)).filter f = (xs.take i).filter f ++ (if f k = true then [k] else []) := by
  rw [List.take_add_one, h, List.filter_append]
  congr 1
  show List.filter _ [k] = _
  rw [List.filter_cons, List.filter_nil]
theorem Dr.tupA {d t : Addr} {H H' : Hp} {xs : List V} (r : Dr d H H') (hd : DrA H d) (h : H t = some (.tup xs)) : H' t = some (.tup xs) := by
  refine r.keep _ _ (fun z => ?_) h
  obtain ⟨ns, hn⟩ := hd
  rw [z, hn] at h
  cases h
inductive Ag where
  | count | sum | among (a b : Int) | rank (p q : Int)
def Ag.vals : Ag → List V
  | .count => [.str "count"]
  | .sum => [.str "sum"]
  | .among a b => [.str "among", .int a, .int b]
  | .rank p q => [.str "rank", .int p, .int q]
def AgAt (H : Hp) (a : Addr) (g : Ag) : Prop := H a = some (.tup g.vals)
def Ag.Ok : Ag → Prop
  | .rank p q => 0 ≤ p ∧ p ≤ q ∧ 1 ≤ q ∧ q ≤ 1000
  | _ => True
def within (a b : Int) (x : Int) : Bool := decide (a ≤ x) && decide (x ≤ b)
def idxOf (n : Nat) (p q : Int) : Int := ((n : Int) - 1) * p / q
def rankOf (p q : Int) (xs : List Int) : V := if xs = [] then .non else match atI (xs.map V.int) (idxOf xs.length p q) with
  | some v => v
  | none => .non
def valOf : Ag → List Int → V
  | .count, xs => .int (xs.length : Nat)
  | .sum, xs => .int xs.sum
  | .among a b, xs => .int ((xs.filter (within a b)).length : Nat)
  | .rank p q, xs => rankOf p q xs
theorem idx_ok {n : Nat} {p q : Int} (hn : 0 < n) (h0 : 0 ≤ p) (h1 : p ≤ q) (h2 : 1 ≤ q) : 0 ≤ idxOf n p q ∧ idxOf n p q < n := by
  unfold idxOf
  have a : 0 ≤ ((n : Int) - 1) * p := Int.mul_nonneg (by omega) h0
  have b : ((n : Int) - 1) * p ≤ ((n : Int) - 1) * q := Int.mul_le_mul_of_nonneg_left h1 (by omega)
  have c : ((n : Int) - 1) * p / q ≤ (n : Int) - 1 := by
    have e := Int.ediv_le_ediv (c := q) (by omega) b
    rw [Int.mul_ediv_cancel _ (by omega)] at e
    exact e
  have e := Int.ediv_nonneg a (b := q) (by omega)
  omega
theorem rank_at {xs : List Int} {p q : Int} (hn : xs ≠ []) (h0 : 0 ≤ p) (h1 : p ≤ q) (h2 : 1 ≤ q) : ∃ k, k ∈ xs ∧ atI (xs.map V.int) (idxOf xs.length p q) = some (.int k) ∧ valOf (.rank p q) xs = .int k := by
  have hl : 0 < xs.length := List.length_pos_iff.mpr hn
  obtain ⟨a, b⟩ := idx_ok (n := xs.length) hl h0 h1 h2
  obtain ⟨k, hk, e⟩ := pickI (xs := xs) rfl a b
  refine ⟨k, hk, e, ?_⟩
  show rankOf p q xs = _
  unfold rankOf
  rw [if_neg hn, e]
theorem rank_nil (p q : Int) : valOf (.rank p q) [] = .non := by
  show rankOf p q [] = _
  unfold rankOf
  rw [if_pos rfl]
theorem valOf_is {g : Ag} {xs : List Int} (ok : g.Ok) : valOf g xs = .non ∨ ∃ k, valOf g xs = .int k := by
  cases g with
  | count => exact .inr ⟨_, rfl⟩
  | sum => exact .inr ⟨_, rfl⟩
  | among a b => exact .inr ⟨_, rfl⟩
  | rank p q =>
    by_cases hn : xs = []
    · rw [hn]
      exact .inl (rank_nil p q)
    · obtain ⟨h0, h1, h2, _⟩ := ok
      obtain ⟨k, _, _, e⟩ := rank_at hn h0 h1 h2
      exact .inr ⟨k, e⟩
theorem sum_snoc {xs : List Int} {i : Nat} {k : Int} (h : xs[i]? = some k) : (xs.take (i + 1)).sum = (xs.take i).sum + k := by
  rw [List.take_add_one, h, List.sum_append]
  show _ + ([k] : List Int).sum = _
  rw [List.sum_cons, List.sum_nil, Int.add_zero]

/-! places in ascending rows of ints -/
theorem sorted_at {xs : List Int} (h : xs.Pairwise (· ≤ ·)) {i j : Nat} {a b : Int} (hi : xs[i]? = some a) (hj : xs[j]? = some b) (l : i ≤ j) : a ≤ b := by
  obtain ⟨p, rfl⟩ := List.getElem?_eq_some_iff.mp hi
  obtain ⟨q, rfl⟩ := List.getElem?_eq_some_iff.mp hj
  rcases Nat.lt_or_eq_of_le l with z | z
  · exact List.pairwise_iff_getElem.mp h i j p q z
  · subst z
    exact Int.le_refl _
/-- downward closed -/
def Down (f : Int → Bool) : Prop := ∀ x y, x ≤ y → f y = true → f x = true
theorem down_at {xs : List Int} (h : xs.Pairwise (· ≤ ·)) {f : Int → Bool} (df : Down f) {t : Nat} {a : Int} (ht : xs[t]? = some a) : f a = true ↔ t < (xs.filter f).length := by
  have il := (List.getElem?_eq_some_iff.mp ht).1
  have e : xs.filter f = (xs.take t).filter f ++ (xs.drop t).filter f := by
    rw [← List.filter_append, List.take_append_drop]
  constructor
  · intro fa
    have e1 : (xs.take (t + 1)).filter f = xs.take (t + 1) := List.filter_eq_self.mpr fun x hx => by
      obtain ⟨j, hj⟩ := List.getElem?_of_mem hx
      have jl : j < t + 1 := by
        have := (List.getElem?_eq_some_iff.mp hj).1
        rw [List.length_take] at this
        omega
      rw [List.getElem?_take, if_pos jl] at hj
      exact df x a (sorted_at h hj ht (by omega)) fa
    have e2 : xs.filter f = (xs.take (t + 1)).filter f ++ (xs.drop (t + 1)).filter f := by
      rw [← List.filter_append, List.take_append_drop]
    rw [e2, e1, List.length_append, List.length_take]
    omega
  · intro lt
    by_cases fa : f a = true
    · exact fa
    · have e1 : (xs.drop t).filter f = [] := List.filter_eq_nil_iff.mpr fun x hx fx => by
        obtain ⟨j, hj⟩ := List.getElem?_of_mem hx
        rw [List.getElem?_drop] at hj
        exact fa (df a x (sorted_at h ht hj (by omega)) fx)
      rw [e, e1, List.append_nil] at lt
      have l2 := List.length_filter_le f (xs.take t)
      rw [List.length_take] at l2
      omega
def ltB (v x : Int) : Bool := decide (x < v)
def leB (v x : Int) : Bool := decide (x ≤ v)
theorem down_lt (v : Int) : Down (ltB v) := fun x y a b => decide_eq_true (by have := of_decide_eq_true b; omega)
theorem down_le (v : Int) : Down (leB v) := fun x y a b => decide_eq_true (by have := of_decide_eq_true b; omega)
theorem at_lt {xs : List Int} (h : xs.Pairwise (· ≤ ·)) {t : Nat} {a v : Int} (ht : xs[t]? = some a) : a < v ↔ t < (xs.filter (ltB v)).length := by
  rw [← down_at h (down_lt v) ht]
  exact ⟨fun z => decide_eq_true z, fun z => of_decide_eq_true z⟩
theorem at_le {xs : List Int} (h : xs.Pairwise (· ≤ ·)) {t : Nat} {a v : Int} (ht : xs[t]? = some a) : a ≤ v ↔ t < (xs.filter (leB v)).length := by
  rw [← down_at h (down_le v) ht]
  exact ⟨fun z => decide_eq_true z, fun z => of_decide_eq_true z⟩
theorem perm_cnt {xs ys : List Int} (h : ys.Perm xs) (f : Int → Bool) : (ys.filter f).length = (xs.filter f).length := (h.filter f).length_eq
theorem perm_sum {xs ys : List Int} (h : ys.Perm xs) : ys.sum = xs.sum := by
  induction h with
  | nil => rfl
  | cons x _ ih => rw [List.sum_cons, List.sum_cons, ih]
  | swap x y l => rw [List.sum_cons, List.sum_cons, List.sum_cons, List.sum_cons]; omega
  | trans _ _ a b => exact a.trans b
theorem cnt_more {xs : List Int} {m : Int} (f : Int → Bool) : ((xs ++ [m]).filter f).length = (xs.filter f).length + (if f m = true then 1 else 0) := by
  rw [List.filter_append, List.length_append]
  congr 1
  rw [List.filter_cons, List.filter_nil]
  split <;> rfl
theorem ediv_le_iff {a b q : Int} (h : 0 < q) : a ≤ b / q ↔ a * q ≤ b := Int.le_ediv_iff_mul_le h
theorem idx_mono {n : Nat} {p q r s : Int} (hn : 0 < n) (hq : 0 < q) (hs : 0 < s) (h : p * s ≤ r * q) : idxOf n p q ≤ idxOf n r s := by
  unfold idxOf
  have a1 : ((n : Int) - 1) * p / q * q ≤ ((n : Int) - 1) * p := (ediv_le_iff hq).mp (Int.le_refl _)
  generalize ((n : Int) - 1) * p / q = x at a1
  refine (ediv_le_iff hs).mpr ?_
  have b1 : x * q * s ≤ ((n : Int) - 1) * p * s := Int.mul_le_mul_of_nonneg_right a1 (by omega)
  have b2 : ((n : Int) - 1) * (p * s) ≤ ((n : Int) - 1) * (r * q) := Int.mul_le_mul_of_nonneg_left h (by omega)
  have b3 : x * s * q ≤ ((n : Int) - 1) * r * q := by
    calc x * s * q = x * q * s := by rw [Int.mul_assoc, Int.mul_comm s q, ← Int.mul_assoc]
      _ ≤ ((n : Int) - 1) * p * s := b1
      _ = ((n : Int) - 1) * (p * s) := Int.mul_assoc _ _ _
      _ ≤ ((n : Int) - 1) * (r * q) := b2
      _ = ((n : Int) - 1) * r * q := (Int.mul_assoc _ _ _).symm
  exact Int.le_of_mul_le_mul_right b3 hq
/-- one reading more: the place stays, or is the next one -/
theorem idx_next {n : Nat} {p q : Int} (hn : 0 < n) (h0 : 0 ≤ p) (h1 : p ≤ q) (h2 : 1 ≤ q) : idxOf n p q ≤ idxOf (n + 1) p q ∧ idxOf (n + 1) p q ≤ idxOf n p q + 1 := by
  unfold idxOf
  have e : (((n + 1 : Nat) : Int) - 1) * p = ((n : Int) - 1) * p + p := by
    rw [show (((n + 1 : Nat) : Int) - 1) = ((n : Int) - 1) + 1 by omega, Int.add_mul, Int.one_mul]
  rw [e]
  constructor
  · exact Int.ediv_le_ediv (by omega) (by omega)
  · have a : (((n : Int) - 1) * p + p) / q ≤ (((n : Int) - 1) * p + 1 * q) / q := Int.ediv_le_ediv (by omega) (by omega)
    rw [Int.add_mul_ediv_right _ _ (by omega)] at a
    exact a
theorem idx_zero {n : Nat} {q : Int} : idxOf n 0 q = 0 := by
  unfold idxOf
  rw [Int.mul_zero, Int.zero_ediv]
theorem idx_all {n : Nat} {q : Int} (h : 1 ≤ q) : idxOf n q q = (n : Int) - 1 := by
  unfold idxOf
  exact Int.mul_ediv_cancel _ (by omega)
/-- the rank of a row that is not empty: its place -/
theorem rank_place {xs : List Int} {p q : Int} (hn : xs ≠ []) (h0 : 0 ≤ p) (h1 : p ≤ q) (h2 : 1 ≤ q) : ∃ (i : Nat) (k : Int), idxOf xs.length p q = (i : Int) ∧ i < xs.length ∧ xs[i]? = some k ∧ valOf (.rank p q) xs = .int k := by
  have hl : 0 < xs.length := List.length_pos_iff.mpr hn
  obtain ⟨a, b⟩ := idx_ok (n := xs.length) hl h0 h1 h2
  refine ⟨(idxOf xs.length p q).toNat, xs[(idxOf xs.length p q).toNat]'(by omega), by omega, by omega, List.getElem?_eq_getElem (by omega), ?_⟩
  show rankOf p q xs = _
  unfold rankOf
  rw [if_neg hn, atM_pos a b]
theorem flat_ints (ns : List Int) : (ns.map V.int).all flatV = true := by
  rw [List.all_map, List.all_eq_true]
  exact fun _ _ => rfl
theorem in_ints {x : Int} : ∀ ns : List Int, inV (.int x) (ns.map V.int) = decide (x ∈ ns)
  | [] => by simp [inV]
  | n :: ns => by
    have ih := in_ints (x := x) ns
    unfold inV at ih ⊢
    rw [List.map_cons, List.any_cons, ih]
    by_cases e : n = x
    · subst e
      simp [eqV]
    · have e1 : eqV (.int n) (.int x) = false := beq_eq_false_iff_ne.mpr e
      have e2 : ¬ x = n := fun z => e z.symm
      rw [e1, Bool.false_or, decide_eq_decide]
      simp [List.mem_cons, e2]

/-! tuples of versions as data -/
theorem opts_dp {K : PySem.W.Frag} {H : Hp} : ∀ (xs : List (Option Int)), DpAll K H (xs.map optV) (xs.map optD)
  | [] => .nil
  | x :: r => .cons (opt_dp x) (opts_dp r)
theorem opts_lay : ∀ (xs : List (Option Int)), PyData.canLayAll0 (xs.map optD) = true
  | [] => rfl
  | x :: r => by
    show ((optD x).canLay0 && PyData.canLayAll0 (r.map optD)) = true
    rw [opts_lay r, Bool.and_true]
    cases x <;> simp [optD, PyData.canLay0]
theorem opts_deep : ∀ (xs : List (Option Int)), PyData.depthAll (xs.map optD) ≤ 1
  | [] => Nat.zero_le _
  | x :: r => by
    have a := opts_deep r
    have b : (optD x).depth ≤ 1 := by cases x <;> simp [optD, PyData.depth]
    simp only [List.map_cons, PyData.depthAll]
    omega
theorem vers_shaped (xs : List (Option Int)) : SeqAt.shaped (.tuple (xs.map optD)) = true := by
  unfold SeqAt.shaped
  rw [Bool.and_eq_true]
  refine ⟨opts_lay xs, decide_eq_true ?_⟩
  have := opts_deep xs
  show PyData.depthAll (xs.map optD) + 1 ≤ 64
  omega
theorem opt_eqv (a b : Option Int) : PyData.eqv (optD a) (optD b) = decide (a = b) := by
  cases a <;> cases b <;> simp [optD, PyData.eqv]
  rfl
theorem opts_eqv : ∀ (xs ys : List (Option Int)), PyData.eqvAll (xs.map optD) (ys.map optD) = decide (xs = ys)
  | [], [] => by simp [PyData.eqvAll]
  | [], _ :: _ => by simp [PyData.eqvAll]
  | _ :: _, [] => by simp [PyData.eqvAll]
  | x :: r, y :: s => by
    show PyData.eqvAll (optD x :: r.map optD) (optD y :: s.map optD) = _
    rw [PyData.eqvAll, opt_eqv, opts_eqv r s]
    by_cases a : x = y <;> by_cases b : r = s <;> simp [a, b]
theorem vers_eqv (xs ys : List (Option Int)) : PyData.eqv (.tuple (xs.map optD)) (.tuple (ys.map optD)) = decide (xs = ys) := by
  rw [PyData.eqv, opts_eqv]

/-! the readings of a history -/
def lastO (vs : List (Option Int)) : Option Int := match vs.getLast? with
  | some (some v) => some v
  | _ => none
def slotIn (L w off : Int) (s : Sl) : Option Int := if (s.stamp + off) / L = w then lastO s.vers else none
def rdLog (L w : Int) (ns : List Str) (g : Lg) : List Int := if g.name ∈ ns then g.slots.filterMap (slotIn L w g.off) else []
def rdOf (L w : Int) (ns : List Str) (ls : List Lg) : List Int := (ls.map (rdLog L w ns)).flatten
/-- every slot has a version -/
def Vsd (ls : List Lg) : Prop := ∀ g ∈ ls, ∀ s ∈ g.slots, s.vers ≠ []
theorem HistOk.vsd {P : Pl} {c : Int} {ls : List Lg} (h : HistOk P c ls) : Vsd ls := fun g hg s hs => by
  obtain ⟨m, _, k⟩ := paired_mem h g hg
  obtain ⟨st, z⟩ := k.slots
  obtain ⟨v, r, e⟩ := (z.vers s hs).head
  rw [e]
  exact fun y => nomatch y
theorem rdOf_snoc {L w : Int} {ns : List Str} {ls : List Lg} {i : Nat} {g : Lg} (h : ls[i]? = some g) : rdOf L w ns (ls.take (i + 1)) = rdOf L w ns (ls.take i) ++ rdLog L w ns g := by
  unfold rdOf
  rw [List.map_take, List.map_take]
  exact flat_take (by rw [List.getElem?_map, h]; rfl)
theorem fmap_snoc {α : Type} {f : α → Option Int} {xs : List α} {i : Nat} {x : α} (h : xs[i]? = some x) : (xs.take (i + 1)).filterMap f = (xs.take i).filterMap f ++ (f x).toList := by
  rw [List.take_add_one, h, List.filterMap_append]
  have e1 : List.filterMap f [x] = (f x).toList := by
    cases e : f x with
    | none => rw [List.filterMap_cons_none e]; rfl
    | some v => rw [List.filterMap_cons_some e]; rfl
  exact congrArg (fun z => (xs.take i).filterMap f ++ z) e1
theorem rdLog_len {L w : Int} {ns : List Str} {g : Lg} : (rdLog L w ns g).length ≤ g.slots.length := by
  unfold rdLog
  split
  · exact List.length_filterMap_le _ _
  · exact Nat.zero_le _
theorem rdOf_len {L w : Int} {ns : List Str} : ∀ {ls : List Lg}, (∀ g ∈ ls, g.slots.length ≤ 60) → (rdOf L w ns ls).length ≤ 60 * ls.length
  | [], _ => Nat.zero_le _
  | g :: ls, h => by
    have a := h g List.mem_cons_self
    have b := rdLog_len (L := L) (w := w) (ns := ns) (g := g)
    have c := rdOf_len (L := L) (w := w) (ns := ns) (ls := ls) fun g' hg => h g' (List.mem_cons_of_mem _ hg)
    show (rdLog L w ns g ++ rdOf L w ns ls).length ≤ _
    rw [List.length_append, List.length_cons]
    omega
theorem last_at {vs : List (Option Int)} (h : vs ≠ []) : ∃ o, atI (vs.map optV) (-1) = some (optV o) ∧ lastO vs = o ∧ ∃ us, vs = us ++ [o] := by
  refine ⟨vs.getLast h, ?_, ?_, vs.dropLast, (List.dropLast_concat_getLast h).symm⟩
  · conv => lhs; rw [← List.dropLast_concat_getLast h, List.map_append]
    exact atI_last _ _
  · unfold lastO
    rw [List.getLast?_eq_getLast h]
    cases vs.getLast h <;> rfl
theorem div_is {t L w : Int} (h : 1 ≤ L) : (w * L ≤ t ∧ t < (w + 1) * L) ↔ t / L = w := by
  constructor
  · rintro ⟨a, b⟩
    have c : w ≤ t / L := (Int.le_ediv_iff_mul_le (by omega)).mpr a
    have d : t / L < w + 1 := (Int.ediv_lt_iff_lt_mul (by omega)).mpr b
    omega
  · rintro rfl
    have e := Int.mul_ediv_add_emod t L
    have e0 := Int.emod_nonneg t (b := L) (by omega)
    have e1 := Int.emod_lt_of_pos t (b := L) (by omega)
    have c : t / L * L = L * (t / L) := Int.mul_comm _ _
    rw [Int.add_mul, Int.one_mul, c]
    omega
theorem sorted_same : ∀ {xs ys : List Int}, xs.Perm ys → xs.Pairwise (· ≤ ·) → ys.Pairwise (· ≤ ·) → xs = ys := fun p a b => p.eq_of_pairwise (fun _ _ _ _ h1 h2 => Int.le_antisymm h1 h2) a b
def wsOf (L : Int) (ls : List Lg) : List Int := (ls.map fun g => g.slots.map fun s => (s.stamp + g.off) / L).flatten
theorem wsOf_snoc {L : Int} {ls : List Lg} {i : Nat} {g : Lg} (h : ls[i]? = some g) : wsOf L (ls.take (i + 1)) = wsOf L (ls.take i) ++ g.slots.map fun s => (s.stamp + g.off) / L := by
  unfold wsOf
  rw [List.map_take, List.map_take]
  exact flat_take (by rw [List.getElem?_map, h]; rfl)
theorem wsOf_len {L : Int} : ∀ {ls : List Lg}, (∀ g ∈ ls, g.slots.length ≤ 60) → (wsOf L ls).length ≤ 60 * ls.length
  | [], _ => Nat.zero_le _
  | g :: ls, h => by
    have a := h g List.mem_cons_self
    have c := wsOf_len (L := L) (ls := ls) fun g' hg => h g' (List.mem_cons_of_mem _ hg)
    show ((g.slots.map fun s => (s.stamp + g.off) / L) ++ wsOf L ls).length ≤ _
    rw [List.length_append, List.length_map, List.length_cons]
    omega
theorem wsOf_mem {L k : Int} {ls : List Lg} (h : k ∈ wsOf L ls) : ∃ g ∈ ls, ∃ s ∈ g.slots, (s.stamp + g.off) / L = k := by
  unfold wsOf at h
  obtain ⟨r, hr, hk⟩ := List.mem_flatten.mp h
  obtain ⟨g, hg, rfl⟩ := List.mem_map.mp hr
  obtain ⟨s, hs, e⟩ := List.mem_map.mp hk
  exact ⟨g, hg, s, hs, e⟩
theorem wsOf_in {L : Int} {ls : List Lg} {g : Lg} {s : Sl} (hg : g ∈ ls) (hs : s ∈ g.slots) : (s.stamp + g.off) / L ∈ wsOf L ls := by
  unfold wsOf
  exact List.mem_flatten.mpr ⟨_, List.mem_map.mpr ⟨g, hg, rfl⟩, List.mem_map.mpr ⟨s, hs, rfl⟩⟩
theorem cut_last {us : List V} {x : V} : cutV (us ++ [x]) (some (-1)) none = [x] := by
  have e : ((us ++ [x]).length : Int) = us.length + 1 := by rw [List.length_append]; rfl
  have e2 : HT.sIx (us ++ [x]).length 0 (some (-1)) = us.length := by
    show (if (-1 : Int) < 0 then (-1 + ((us ++ [x]).length : Int)).toNat else min (-1 : Int).toNat (us ++ [x]).length) = _
    rw [if_pos (by decide), e]
    omega
  unfold cutV
  rw [e2, HT.sIx_none, List.drop_left]
  have e3 : (us ++ [x]).length - us.length = 1 := by rw [List.length_append]; show us.length + 1 - us.length = 1; omega
  rw [e3]
  rfl
theorem div_near {t L : Int} (h : 1 ≤ L) : (t / L).natAbs ≤ t.natAbs := by
  rcases Int.lt_or_le t 0 with n | n
  · have a : t ≤ t / L := by
      rw [Int.le_ediv_iff_mul_le (by omega)]
      have c : t * L ≤ t * 1 := Int.mul_le_mul_of_nonpos_left (by omega) h
      omega
    have c : t / L < 0 := Int.ediv_neg_of_neg_of_pos n (by omega)
    omega
  · have a : t / L ≤ t := Int.ediv_le_self _ n
    have b : 0 ≤ t / L := Int.ediv_nonneg n (by omega)
    omega
/-- a window of a slot, or one beside it, or the cell -/
def NearW (L c w : Int) (ls : List Lg) : Prop := w = c ∨ ∃ u ∈ wsOf L ls, (w - u).natAbs ≤ 1
theorem NearW.small {P : Pl} {c w : Int} {ls : List Lg} (h : NearW P.len c w ls) (po : PlanOk c P) (ok : HistOk P c ls) : w.natAbs ≤ c.natAbs + 1061 := by
  rcases h with rfl | ⟨u, hu, d⟩
  · omega
  · obtain ⟨g, hg, s, hs, rfl⟩ := wsOf_mem hu
    obtain ⟨m, hm, k⟩ := paired_mem ok g hg
    obtain ⟨st, z⟩ := k.slots
    have a := z.near s hs
    have b := k.lo
    have b2 := k.hi
    have e := (po.each m hm).err1
    have f := div_near (t := s.stamp + g.off) po.len
    omega
theorem same_free {H H' : Hp} (s : Same H H') {l : Addr} (n : H' l = none) : H l = none := by
  cases q : H l with
  | none => rfl
  | some o =>
    rw [s _ _ q] at n
    cases n

/-! readings over many windows, names: each once -/
theorem flat_add {α β : Type} (f h : α → List β) : ∀ ls : List α, ((ls.map fun g => f g ++ h g).flatten).Perm ((ls.map f).flatten ++ (ls.map h).flatten)
  | [] => .refl _
  | g :: ls => by
    have ih := flat_add f h ls
    show (f g ++ h g ++ (ls.map fun g => f g ++ h g).flatten).Perm (f g ++ (ls.map f).flatten ++ (h g ++ (ls.map h).flatten))
    refine (List.Perm.append_left _ ih).trans ?_
    rw [List.append_assoc, List.append_assoc]
    refine List.Perm.append_left _ ?_
    rw [← List.append_assoc, ← List.append_assoc]
    exact List.Perm.append_right _ List.perm_append_comm
theorem flat_nil {α β : Type} : ∀ ls : List α, (ls.map fun _ => ([] : List β)).flatten = []
  | [] => rfl
  | _ :: ls => flat_nil ls
theorem flat_swap {α β γ : Type} (A : α → β → List γ) (ls : List β) : ∀ ns : List α, ((ns.map fun n => (ls.map (A n)).flatten).flatten).Perm ((ls.map fun g => (ns.map fun n => A n g).flatten).flatten)
  | [] => by
    show ([] : List γ).Perm (ls.map fun _ => []).flatten
    rw [flat_nil]
  | n :: ns => by
    have ih := flat_swap A ls ns
    show ((ls.map (A n)).flatten ++ (ns.map fun n => (ls.map (A n)).flatten).flatten).Perm ((ls.map fun g => A n g ++ (ns.map fun n => A n g).flatten).flatten)
    exact (List.Perm.append_left _ ih).trans (flat_add (A n) (fun g => (ns.map fun n => A n g).flatten) ls).symm
theorem one_hot0 {α β : Type} [DecidableEq α] {k : α} {F : List β} : ∀ {ks : List α}, k ∉ ks → (ks.map fun x => if k = x then F else []).flatten = []
  | [], _ => rfl
  | x :: ks, h => by
    rw [List.map_cons, List.flatten_cons, if_neg (fun z => h (by rw [z]; exact List.mem_cons_self)), one_hot0 (fun z => h (List.mem_cons_of_mem _ z))]
    rfl
theorem one_hot {α β : Type} [DecidableEq α] {k : α} {F : List β} : ∀ {ks : List α}, ks.Nodup → k ∈ ks → (ks.map fun x => if k = x then F else []).flatten = F
  | [], _, h => nomatch h
  | x :: ks, nd, h => by
    obtain ⟨nx, nd⟩ := List.nodup_cons.mp nd
    rw [List.map_cons, List.flatten_cons]
    rcases List.mem_cons.mp h with rfl | m
    · rw [if_pos rfl, one_hot0 nx, List.append_nil]
    · rw [if_neg (fun z => nx (by rw [← z]; exact m)), one_hot nd m]
      rfl
theorem fmap_flat {α : Type} (f : α → Option Int) : ∀ xs : List α, xs.filterMap f = (xs.map fun x => (f x).toList).flatten
  | [] => rfl
  | x :: xs => by
    rw [List.map_cons, List.flatten_cons, ← fmap_flat f xs]
    cases e : f x with
    | none => rw [List.filterMap_cons_none e]; rfl
    | some v => rw [List.filterMap_cons_some e]; rfl
def allOf (ls : List Lg) : List Int := (ls.map fun g => g.slots.filterMap fun s => lastO s.vers).flatten
theorem perm_flat {α : Type} {f h : α → List Int} : ∀ {ls : List α}, (∀ g ∈ ls, (f g).Perm (h g)) → ((ls.map f).flatten).Perm ((ls.map h).flatten)
  | [], _ => .refl _
  | g :: ls, k => (k g List.mem_cons_self).append (perm_flat fun x hx => k x (List.mem_cons_of_mem _ hx))
/-- over windows each once, among them those of all slots: every last version once -/
theorem all_windows {L : Int} {ns : List Str} {ls : List Lg} {ws : List Int} (nd : ws.Nodup) (hw : ∀ k ∈ wsOf L ls, k ∈ ws) (hn : ∀ g ∈ ls, g.name ∈ ns) : ((ws.map fun w => rdOf L w ns ls).flatten).Perm (allOf ls) := by
  refine (flat_swap (fun w => rdLog L w ns) ls ws).trans (perm_flat fun g hg => ?_)
  have e1 : (ws.map fun w => rdLog L w ns g) = ws.map fun w => (g.slots.map fun s => (slotIn L w g.off s).toList).flatten := List.map_congr_left fun w _ => by
    unfold rdLog
    rw [if_pos (hn g hg), fmap_flat]
  rw [e1, fmap_flat]
  refine (flat_swap (fun w s => (slotIn L w g.off s).toList) g.slots ws).trans (perm_flat fun s hs => ?_)
  have e2 : (ws.map fun w => (slotIn L w g.off s).toList) = ws.map fun w => if (s.stamp + g.off) / L = w then (lastO s.vers).toList else [] := List.map_congr_left fun w _ => by
    unfold slotIn
    split <;> rfl
  rw [e2, one_hot nd (hw _ (wsOf_in hg hs))]
/-- meter by meter: the same as together -/
theorem all_names {L w : Int} {ns : List Str} {ls : List Lg} (nd : ns.Nodup) (hn : ∀ g ∈ ls, g.name ∈ ns) : ((ns.map fun n => rdOf L w [n] ls).flatten).Perm (rdOf L w ns ls) := by
  refine (flat_swap (fun n => rdLog L w [n]) ls ns).trans (perm_flat fun g hg => ?_)
  have e2 : (ns.map fun n => rdLog L w [n] g) = ns.map fun n => if g.name = n then rdLog L w ns g else [] := List.map_congr_left fun n _ => by
    unfold rdLog
    rw [if_pos (hn g hg)]
    by_cases e : g.name = n
    · rw [if_pos e, if_pos (by rw [e]; exact List.mem_singleton.mpr rfl)]
    · rw [if_neg e, if_neg (fun z => e (List.mem_singleton.mp z))]
  rw [e2, one_hot nd (hn g hg)]
theorem no_window {L w : Int} {ns : List Str} {ls : List Lg} (h : w ∉ wsOf L ls) : rdOf L w ns ls = [] := by
  unfold rdOf
  refine List.flatten_eq_nil_iff.mpr fun r hr => ?_
  obtain ⟨g, hg, rfl⟩ := List.mem_map.mp hr
  unfold rdLog
  split
  · refine List.filterMap_eq_nil_iff.mpr fun s hs => ?_
    unfold slotIn
    rw [if_neg (fun z => h (by rw [← z]; exact wsOf_in hg hs))]
  · rfl
def preS (low : Int) (s : Sl) : Sl := ⟨s.stamp, some low :: s.vers⟩
def Pre (g o : Lg) : Prop := o.name = g.name ∧ o.off = g.off ∧ ∃ low, o.slots = g.slots.map (preS low)
theorem last_pre {low : Int} {vs : List (Option Int)} (h : vs ≠ []) : lastO (some low :: vs) = lastO vs := by
  unfold lastO
  cases vs with
  | nil => exact absurd rfl h
  | cons v r => rw [List.getLast?_cons_cons]
theorem fm_congr {α : Type} {f g : α → Option Int} : ∀ {xs : List α}, (∀ x ∈ xs, f x = g x) → xs.filterMap f = xs.filterMap g
  | [], _ => rfl
  | x :: xs, h => by
    rw [fmap_flat, fmap_flat, List.map_cons, List.map_cons, h x List.mem_cons_self, List.flatten_cons, List.flatten_cons, ← fmap_flat, ← fmap_flat, fm_congr fun y hy => h y (List.mem_cons_of_mem _ hy)]
theorem pre_log {L w : Int} {ns : List Str} {g o : Lg} (h : Pre g o) (hv : ∀ s ∈ g.slots, s.vers ≠ []) : rdLog L w ns o = rdLog L w ns g := by
  obtain ⟨e1, e2, low, e3⟩ := h
  unfold rdLog
  rw [e1, e2, e3, List.filterMap_map]
  split
  · refine fm_congr fun s hs => ?_
    show slotIn L w g.off (preS low s) = slotIn L w g.off s
    unfold slotIn preS
    rw [last_pre (hv s hs)]
  · rfl
theorem pre_rd {L w : Int} {ns : List Str} : ∀ {ls lo : List Lg}, Paired Pre ls lo → Vsd ls → rdOf L w ns lo = rdOf L w ns ls
  | _, _, .nil, _ => rfl
  | g :: ls, o :: lo, .cons a r, v => by
    have e := pre_rd (L := L) (w := w) (ns := ns) r fun g' hg => v g' (List.mem_cons_of_mem _ hg)
    show rdLog L w ns o ++ rdOf L w ns lo = rdLog L w ns g ++ rdOf L w ns ls
    rw [e, pre_log a (v g List.mem_cons_self)]
theorem ints_opt (xs : List Int) : xs.map V.int = (xs.map some).map optV := by
  rw [List.map_map]
  rfl
theorem ints_dp {K : PySem.W.Frag} {H : Hp} {t : Addr} {xs : List Int} (h : H t = some (.tup (xs.map V.int))) : Dp K H (.ref t) (.tuple ((xs.map some).map optD)) := by
  rw [ints_opt] at h
  exact .tup (.inl (.inl h)) (opts_dp _)
theorem ints_eqv {xs ys : List Int} (h : xs = ys) : PyData.eqv (.tuple ((xs.map some).map optD)) (.tuple ((ys.map some).map optD)) = true := by
  rw [vers_eqv, h]
  exact decide_eq_true rfl

/-! plain values and balances -/
def srt (xs : List Int) : List Int := xs.mergeSort fun a b => decide (a ≤ b)
theorem srt_perm (xs : List Int) : (srt xs).Perm xs := List.mergeSort_perm _ _
theorem srt_up (xs : List Int) : (srt xs).Pairwise (· ≤ ·) := by
  refine (List.pairwise_mergeSort (le := fun a b : Int => decide (a ≤ b)) (fun a b c h1 h2 => ?_) (fun a b => ?_) xs).imp fun h => of_decide_eq_true h
  · have x := of_decide_eq_true h1
    have y := of_decide_eq_true h2
    exact decide_eq_true (by omega)
  · rcases Int.le_total a b with h | h
    · rw [decide_eq_true h]; rfl
    · rw [decide_eq_true h, Bool.or_true]
theorem srt_is {xs zs : List Int} (p : zs.Perm xs) (u : zs.Pairwise (· ≤ ·)) : zs = srt xs := sorted_same (p.trans (srt_perm xs).symm) u (srt_up xs)
def valP (L w : Int) (ns : List Str) (ls : List Lg) (g : Ag) : V := valOf g (srt (rdOf L w ns ls))
def RdFew (L : Int) (ls : List Lg) : Prop := ∀ w ns, (rdOf L w ns ls).length ≤ 1000
theorem HistOk.rdFew {P : Pl} {c L : Int} {ls : List Lg} (ok : HistOk P c ls) (h : P.ms.length ≤ 6) : RdFew L ls := by
  have hl := (show Paired (fun m x => LgOk m c x) P.ms ls from ok).length
  have key : ∀ l2 : List Lg, (∀ g ∈ l2, g.slots.length ≤ 50) → ∀ w ns, (rdOf L w ns l2).length ≤ 50 * l2.length := by
    intro l2
    induction l2 with
    | nil => exact fun _ _ _ => Nat.zero_le _
    | cons g r ih =>
      intro h w ns
      have a := h g List.mem_cons_self
      have b := rdLog_len (L := L) (w := w) (ns := ns) (g := g)
      have c := ih (fun g' hg => h g' (List.mem_cons_of_mem _ hg)) w ns
      show (rdLog L w ns g ++ rdOf L w ns r).length ≤ _
      rw [List.length_append, List.length_cons]
      omega
  intro w ns
  have := key ls (fun g hg => let ⟨_, _, k⟩ := paired_mem ok g hg; k.few) w ns
  omega
structure Tm where
  f : Int
  cnt : Bool
  ns : List Str
  w : Int
def Tm.ag (t : Tm) : Ag := if t.cnt = true then .count else .sum
def TmAt (H : Hp) (a : Addr) (t : Tm) : Prop := ∃ ga na, H a = some (.tup [.int t.f, .ref ga, .ref na, .int t.w]) ∧ AgAt H ga t.ag ∧ H na = some (.tup (t.ns.map V.str))
theorem TmAt.kept {H H' : Hp} (k : KT H H') {a : Addr} {t : Tm} (h : TmAt H a t) : TmAt H' a t := let ⟨ga, na, x, y, z⟩ := h; ⟨ga, na, k _ _ x, k _ _ y, k _ _ z⟩
theorem tms_kept {H H' : Hp} (k : KT H H') {as : List Addr} {ts : List Tm} (h : Paired (TmAt H) as ts) : Paired (TmAt H') as ts := L2.Paired.mapP h fun _ _ y => y.kept k
def tmv (L : Int) (ls : List Lg) (t : Tm) : Int := if t.cnt = true then ((srt (rdOf L t.w t.ns ls)).length : Nat) else (srt (rdOf L t.w t.ns ls)).sum
theorem valP_tm {L : Int} {ls : List Lg} (t : Tm) : valP L t.w t.ns ls t.ag = .int (tmv L ls t) := by
  unfold valP tmv Tm.ag
  cases t.cnt <;> rfl
theorem Tm.agOk (t : Tm) : t.ag.Ok := by
  unfold Tm.ag
  cases t.cnt <;> trivial
theorem tms_at {H : Hp} : ∀ {as : List Addr} {ts : List Tm} {i : Nat} {a : Addr}, Paired (TmAt H) as ts → as[i]? = some a → ∃ t, ts[i]? = some t ∧ TmAt H a t
  | _, _, _, _, .nil, h => by simp at h
  | _, _, 0, _, .cons a _, h => by
    cases (Option.some.inj h)
    exact ⟨_, rfl, a⟩
  | _, _, i + 1, _, .cons _ r, h => tms_at (i := i) r h
theorem paired_of {α β : Type} {R : α → β → Prop} {G : β → Prop} : ∀ (as : List α), (∀ a ∈ as, ∃ t, R a t ∧ G t) → ∃ ts, Paired R as ts ∧ ∀ t ∈ ts, G t
  | [], _ => ⟨[], .nil, fun _ z => nomatch z⟩
  | a :: as, h => by
    obtain ⟨t, r, g⟩ := h a List.mem_cons_self
    obtain ⟨ts, p, q⟩ := paired_of as fun x hx => h x (List.mem_cons_of_mem _ hx)
    refine ⟨t :: ts, .cons r p, fun x hx => ?_⟩
    rcases List.mem_cons.mp hx with rfl | m
    · exact g
    · exact q x m
/-! a history moved in time -/
def movS (off z : Int) (s : Sl) : Sl := ⟨s.stamp + off + z, s.vers⟩
def Mov (z : Int) (g o : Lg) : Prop := o.name = g.name ∧ o.off = 0 ∧ o.slots = g.slots.map (movS g.off z)
theorem mov_log {L w k : Int} (hL : 1 ≤ L) {ns : List Str} {g o : Lg} (h : Mov (k * L) g o) : rdLog L (w + k) ns o = rdLog L w ns g := by
  obtain ⟨e1, e2, e3⟩ := h
  unfold rdLog
  rw [e1, e3, List.filterMap_map]
  split
  · refine fm_congr fun s hs => ?_
    show slotIn L (w + k) o.off (movS g.off (k * L) s) = slotIn L w g.off s
    unfold slotIn movS
    rw [e2, Int.add_zero]
    show (if (s.stamp + g.off + k * L) / L = w + k then lastO s.vers else none) = _
    rw [Int.add_mul_ediv_right _ _ (by omega)]
    by_cases c : (s.stamp + g.off) / L = w
    · rw [if_pos c, if_pos (by omega)]
    · rw [if_neg c, if_neg (by omega)]
  · rfl
theorem mov_rd {L w k : Int} (hL : 1 ≤ L) {ns : List Str} : ∀ {ls lo : List Lg}, Paired (Mov (k * L)) ls lo → rdOf L (w + k) ns lo = rdOf L w ns ls
  | _, _, .nil => rfl
  | g :: ls, o :: lo, .cons a r => by
    have e := mov_rd (w := w) hL (ns := ns) r
    show rdLog L (w + k) ns o ++ rdOf L (w + k) ns lo = rdLog L w ns g ++ rdOf L w ns ls
    rw [e, mov_log hL a]
theorem mov_rd' {L w k : Int} (hL : 1 ≤ L) {ns : List Str} {ls lo : List Lg} (h : Paired (Mov (k * L)) ls lo) : rdOf L w ns lo = rdOf L (w - k) ns ls := by
  have e := mov_rd (w := w - k) hL (ns := ns) h
  rw [Int.sub_add_cancel] at e
  exact e
/-! how great a value may be -/
theorem rd_bound {P : Pl} {c L w : Int} {ns : List Str} {ls : List Lg} (ok : HistOk P c ls) (po : PlanOk c P) : ∀ x ∈ rdOf L w ns ls, x.natAbs ≤ 2 * c.natAbs + 3 + 10 ^ 20 := by
  intro x hx
  unfold rdOf at hx
  obtain ⟨r, hr, hx⟩ := List.mem_flatten.mp hx
  obtain ⟨g, hg, rfl⟩ := List.mem_map.mp hr
  obtain ⟨m, hm, k⟩ := paired_mem ok g hg
  obtain ⟨st, z⟩ := k.slots
  have mo := po.each m hm
  unfold rdLog at hx
  split at hx
  · obtain ⟨s, hs, e⟩ := List.mem_filterMap.mp hx
    have lo : lastO s.vers = some x := by
      unfold slotIn at e
      split at e
      · exact e
      · cases e
    have mem : some x ∈ s.vers := by
      unfold lastO at lo
      split at lo
      · next v h =>
        cases lo
        exact List.mem_of_getLast? h
      · cases lo
    have b := (z.vers s hs).each x mem
    have b1 := mo.lowB
    have b2 := mo.highB
    omega
  · cases hx
theorem sum_bound {M : Nat} : ∀ {xs : List Int}, (∀ x ∈ xs, x.natAbs ≤ M) → xs.sum.natAbs ≤ xs.length * M
  | [], _ => Nat.zero_le _
  | x :: xs, h => by
    have a := h x List.mem_cons_self
    have b := sum_bound fun y hy => h y (List.mem_cons_of_mem _ hy)
    rw [List.sum_cons, List.length_cons, Nat.add_mul, Nat.one_mul]
    omega
theorem tmv_bound {L : Int} {ls : List Lg} {M : Nat} (fw : RdFew L ls) (hb : ∀ w ns, ∀ x ∈ rdOf L w ns ls, x.natAbs ≤ M) (h1 : 1 ≤ M) (t : Tm) : (tmv L ls t).natAbs ≤ 1000 * M := by
  have l := fw t.w t.ns
  have e := (srt_perm (rdOf L t.w t.ns ls)).length_eq
  unfold tmv
  split
  · have : (((srt (rdOf L t.w t.ns ls)).length : Nat) : Int).natAbs = (srt (rdOf L t.w t.ns ls)).length := Int.natAbs_natCast _
    rw [this]
    have k : 1000 * 1 ≤ 1000 * M := Nat.mul_le_mul_left _ h1
    omega
  · have b := sum_bound (M := M) (xs := srt (rdOf L t.w t.ns ls)) fun x hx => hb _ _ x ((srt_perm _).mem_iff.mp hx)
    have k : (srt (rdOf L t.w t.ns ls)).length * M ≤ 1000 * M := Nat.mul_le_mul_right _ (by omega)
    omega
theorem sumf_snoc {α : Type} {f : α → Int} {xs : List α} {i : Nat} {x : α} (h : xs[i]? = some x) : (xs.take (i + 1)).map f = (xs.take i).map f ++ [f x] := by
  rw [List.take_add_one, h, List.map_append]
  rfl

theorem paired_at {α β : Type} {R : α → β → Prop} : ∀ {xs : List α} {ys : List β} {i : Nat} {x : α}, Paired R xs ys → xs[i]? = some x → ∃ y, ys[i]? = some y ∧ R x y
  | _, _, _, _, .nil, h => by simp at h
  | _, _, 0, _, .cons a _, h => by
    cases (Option.some.inj h)
    exact ⟨_, rfl, a⟩
  | _, _, i + 1, _, .cons _ r, h => paired_at (i := i) r h
/-- what a law's script gives: the end of each law -/
theorem new_at {H : Hp} {p : Addr} {o : HO} (n : H p = none) : ∃ H', H' = upd H p o ∧ Same H H' ∧ H' p = some o := ⟨_, rfl, same_new n, upd_same⟩

def topS (i : Nat) : Stmt := PySem.Challenge.pw_toldwhensure_k85_ringing_in_a_history.main.body.getD i (.Pass ⟨0, 0, 0, 0⟩)
abbrev s_window_of : Stmt := topS 1
theorem sc_window_of : FnScope ["plan", "time"] ["plan", "time"] (defScope s_window_of) := ⟨rfl, rfl, rfl, by decide +kernel, rfl, by decide +kernel, by decide +kernel⟩
abbrev s_readings : Stmt := topS 3
theorem sc_readings : FnScope ["plan", "history", "meters", "window", "name", "offset", "slots", "stamp", "versions"] ["plan", "history", "meters", "window"] (defScope s_readings) := ⟨rfl, rfl, rfl, by decide +kernel, rfl, by decide +kernel, by decide +kernel⟩
abbrev s_value_of : Stmt := topS 4
theorem sc_value_of : FnScope ["aggregate", "values", "kind", "numbers", "low", "high", "part", "whole", "value"] ["aggregate", "values"] (defScope s_value_of) := ⟨rfl, rfl, rfl, by decide +kernel, rfl, by decide +kernel, by decide +kernel⟩
abbrev s_plain_value : Stmt := topS 5
theorem sc_plain_value : FnScope ["plan", "history", "aggregate", "meters", "window"] ["plan", "history", "aggregate", "meters", "window"] (defScope s_plain_value) := ⟨rfl, rfl, rfl, by decide +kernel, rfl, by decide +kernel, by decide +kernel⟩
abbrev s_rings_in : Stmt := topS 7
theorem sc_rings_in : FnScope ["plan", "history", "alarm", "window", "name", "aggregate", "meters", "relation", "limit", "first", "last", "value"] ["plan", "history", "alarm", "window"] (defScope s_rings_in) := ⟨rfl, rfl, rfl, by decide +kernel, rfl, by decide +kernel, by decide +kernel⟩
abbrev s_l_draws : Stmt := topS 9
theorem sc_l_draws : FnScope ["script", "many", "cells", "rest", "draws", "k", "at", "once", "cell"] ["script", "many"] (defScope s_l_draws) := ⟨rfl, rfl, rfl, by decide +kernel, rfl, by decide +kernel, by decide +kernel⟩
abbrev s_l_take : Stmt := topS 10
theorem sc_l_take : FnScope ["draws", "many"] ["draws", "many"] (defScope s_l_take) := ⟨rfl, rfl, rfl, by decide +kernel, rfl, by decide +kernel, by decide +kernel⟩
abbrev s_l_word : Stmt := topS 11
theorem sc_l_word : FnScope ["number", "word", "k"] ["number"] (defScope s_l_word) := ⟨rfl, rfl, rfl, by decide +kernel, rfl, by decide +kernel, by decide +kernel⟩
abbrev s_l_plan : Stmt := topS 12
theorem sc_l_plan : FnScope ["script", "draws", "most", "first", "step", "nested", "meters", "k", "low", "wide", "name"] ["script", "draws", "most"] (defScope s_l_plan) := ⟨rfl, rfl, rfl, by decide +kernel, rfl, by decide +kernel, by decide +kernel⟩
abbrev s_l_slots : Stmt := topS 13
theorem sc_l_slots : FnScope ["script", "draws", "meter", "most", "stamp", "slots", "k", "versions", "many", "j", "value"] ["script", "draws", "meter", "most"] (defScope s_l_slots) := ⟨rfl, rfl, rfl, by decide +kernel, rfl, by decide +kernel, by decide +kernel⟩
abbrev s_l_history : Stmt := topS 14
theorem sc_l_history : FnScope ["script", "draws", "plan", "most", "logs", "meter", "offset"] ["script", "draws", "plan", "most"] (defScope s_l_history) := ⟨rfl, rfl, rfl, by decide +kernel, rfl, by decide +kernel, by decide +kernel⟩
abbrev s_l_question : Stmt := topS 15
theorem sc_l_question : FnScope ["draws", "plan", "history", "kind", "q", "p", "mask", "names", "a", "b", "window", "log", "at", "beside", "k"] ["draws", "plan", "history"] (defScope s_l_question) := ⟨rfl, rfl, rfl, by decide +kernel, rfl, by decide +kernel, by decide +kernel⟩
abbrev s_l_readings : Stmt := topS 16
theorem sc_l_readings : FnScope ["plan", "history", "names", "window", "found", "log", "slot"] ["plan", "history", "names", "window"] (defScope s_l_readings) := ⟨rfl, rfl, rfl, by decide +kernel, rfl, by decide +kernel, by decide +kernel⟩
abbrev s_l_value : Stmt := topS 17
theorem sc_l_value : FnScope ["aggregate", "values", "value"] ["aggregate", "values"] (defScope s_l_value) := ⟨rfl, rfl, rfl, by decide +kernel, rfl, by decide +kernel, by decide +kernel⟩
abbrev s_l_alarm : Stmt := topS 18
theorem sc_l_alarm : FnScope ["draws", "plan", "history", "name", "asked", "value", "limit", "relation", "early", "late"] ["draws", "plan", "history", "name"] (defScope s_l_alarm) := ⟨rfl, rfl, rfl, by decide +kernel, rfl, by decide +kernel, by decide +kernel⟩
abbrev s_l_alarms : Stmt := topS 19
theorem sc_l_alarms : FnScope ["draws", "plan", "history", "many", "first", "k"] ["draws", "plan", "history", "many"] (defScope s_l_alarms) := ⟨rfl, rfl, rfl, by decide +kernel, rfl, by decide +kernel, by decide +kernel⟩
abbrev s_l_is_truth : Stmt := topS 20
theorem sc_l_is_truth : FnScope ["actual", "due"] ["actual", "due"] (defScope s_l_is_truth) := ⟨rfl, rfl, rfl, by decide +kernel, rfl, by decide +kernel, by decide +kernel⟩
abbrev s_l_rings : Stmt := topS 21
theorem sc_l_rings : FnScope ["plan", "history", "alarm", "window", "value"] ["plan", "history", "alarm", "window"] (defScope s_l_rings) := ⟨rfl, rfl, rfl, by decide +kernel, rfl, by decide +kernel, by decide +kernel⟩
abbrev s_law : Stmt := topS 22
theorem sc_law : FnScope ["script", "draws", "plan", "history", "alarm", "relation", "more", "other", "window", "due"] ["script"] (defScope s_law) := ⟨rfl, rfl, rfl, by decide +kernel, rfl, by decide +kernel, by decide +kernel⟩
/-- what the top has left: where each def stands; the built-ins' names are not taken -/
structure Ctx (K : PySem.W.Frag) (mg : Str → Option Value) where
  f_window_of : Addr
  fd_window_of : FuncData
  F_window_of : Fun K "window_of" "window_of" s_window_of f_window_of fd_window_of
  b_window_of : Binds K fd_window_of ["plan", "time"] []
  g_window_of : mg "window_of" = some (.ref f_window_of)
  f_readings : Addr
  fd_readings : FuncData
  F_readings : Fun K "readings" "readings" s_readings f_readings fd_readings
  b_readings : Binds K fd_readings ["plan", "history", "meters", "window"] []
  g_readings : mg "readings" = some (.ref f_readings)
  f_value_of : Addr
  fd_value_of : FuncData
  F_value_of : Fun K "value_of" "value_of" s_value_of f_value_of fd_value_of
  b_value_of : Binds K fd_value_of ["aggregate", "values"] []
  g_value_of : mg "value_of" = some (.ref f_value_of)
  f_plain_value : Addr
  fd_plain_value : FuncData
  F_plain_value : Fun K "plain_value" "plain_value" s_plain_value f_plain_value fd_plain_value
  b_plain_value : Binds K fd_plain_value ["plan", "history", "aggregate", "meters", "window"] []
  g_plain_value : mg "plain_value" = some (.ref f_plain_value)
  f_rings_in : Addr
  fd_rings_in : FuncData
  F_rings_in : Fun K "rings_in" "rings_in" s_rings_in f_rings_in fd_rings_in
  b_rings_in : Binds K fd_rings_in ["plan", "history", "alarm", "window"] []
  g_rings_in : mg "rings_in" = some (.ref f_rings_in)
  f_l_draws : Addr
  fd_l_draws : FuncData
  F_l_draws : Fun K "_law_draws" "_law_draws" s_l_draws f_l_draws fd_l_draws
  b_l_draws : Binds K fd_l_draws ["script", "many"] []
  g_l_draws : mg "_law_draws" = some (.ref f_l_draws)
  f_l_take : Addr
  fd_l_take : FuncData
  F_l_take : Fun K "_law_take" "_law_take" s_l_take f_l_take fd_l_take
  b_l_take : Binds K fd_l_take ["draws", "many"] []
  g_l_take : mg "_law_take" = some (.ref f_l_take)
  f_l_word : Addr
  fd_l_word : FuncData
  F_l_word : Fun K "_law_word" "_law_word" s_l_word f_l_word fd_l_word
  b_l_word : Binds K fd_l_word ["number"] []
  g_l_word : mg "_law_word" = some (.ref f_l_word)
  f_l_plan : Addr
  fd_l_plan : FuncData
  F_l_plan : Fun K "_law_plan" "_law_plan" s_l_plan f_l_plan fd_l_plan
  b_l_plan : Binds K fd_l_plan ["script", "draws", "most"] []
  g_l_plan : mg "_law_plan" = some (.ref f_l_plan)
  f_l_slots : Addr
  fd_l_slots : FuncData
  F_l_slots : Fun K "_law_slots" "_law_slots" s_l_slots f_l_slots fd_l_slots
  b_l_slots : Binds K fd_l_slots ["script", "draws", "meter", "most"] []
  g_l_slots : mg "_law_slots" = some (.ref f_l_slots)
  f_l_history : Addr
  fd_l_history : FuncData
  F_l_history : Fun K "_law_history" "_law_history" s_l_history f_l_history fd_l_history
  b_l_history : Binds K fd_l_history ["script", "draws", "plan", "most"] []
  g_l_history : mg "_law_history" = some (.ref f_l_history)
  f_l_question : Addr
  fd_l_question : FuncData
  F_l_question : Fun K "_law_question" "_law_question" s_l_question f_l_question fd_l_question
  b_l_question : Binds K fd_l_question ["draws", "plan", "history"] []
  g_l_question : mg "_law_question" = some (.ref f_l_question)
  f_l_readings : Addr
  fd_l_readings : FuncData
  F_l_readings : Fun K "_law_readings" "_law_readings" s_l_readings f_l_readings fd_l_readings
  b_l_readings : Binds K fd_l_readings ["plan", "history", "names", "window"] []
  g_l_readings : mg "_law_readings" = some (.ref f_l_readings)
  f_l_value : Addr
  fd_l_value : FuncData
  F_l_value : Fun K "_law_value" "_law_value" s_l_value f_l_value fd_l_value
  b_l_value : Binds K fd_l_value ["aggregate", "values"] []
  g_l_value : mg "_law_value" = some (.ref f_l_value)
  f_l_alarm : Addr
  fd_l_alarm : FuncData
  F_l_alarm : Fun K "_law_alarm" "_law_alarm" s_l_alarm f_l_alarm fd_l_alarm
  b_l_alarm : Binds K fd_l_alarm ["draws", "plan", "history", "name"] []
  g_l_alarm : mg "_law_alarm" = some (.ref f_l_alarm)
  f_l_alarms : Addr
  fd_l_alarms : FuncData
  F_l_alarms : Fun K "_law_alarms" "_law_alarms" s_l_alarms f_l_alarms fd_l_alarms
  b_l_alarms : Binds K fd_l_alarms ["draws", "plan", "history", "many"] []
  g_l_alarms : mg "_law_alarms" = some (.ref f_l_alarms)
  f_l_is_truth : Addr
  fd_l_is_truth : FuncData
  F_l_is_truth : Fun K "_law_is_truth" "_law_is_truth" s_l_is_truth f_l_is_truth fd_l_is_truth
  b_l_is_truth : Binds K fd_l_is_truth ["actual", "due"] []
  g_l_is_truth : mg "_law_is_truth" = some (.ref f_l_is_truth)
  f_l_rings : Addr
  fd_l_rings : FuncData
  F_l_rings : Fun K "_law_rings" "_law_rings" s_l_rings f_l_rings fd_l_rings
  b_l_rings : Binds K fd_l_rings ["plan", "history", "alarm", "window"] []
  g_l_rings : mg "_law_rings" = some (.ref f_l_rings)
  f_law : Addr
  fd_law : FuncData
  F_law : Fun K "law" "law" s_law f_law fd_law
  b_law : Binds K fd_law ["script"] []
  g_law : mg "law" = some (.ref f_law)
  m_bool : mg "bool" = none
  m_int : mg "int" = none
  m_isinstance : mg "isinstance" = none
  m_len : mg "len" = none
  m_list : mg "list" = none
  m_max : mg "max" = none
  m_range : mg "range" = none
  m_sorted : mg "sorted" = none
  m_sum : mg "sum" = none
  m_tuple : mg "tuple" = none
def sp_window_of (K : PySem.W.Frag) : Sp := fun vs H Q _ => ∃ (p : Addr) (L t : Int) (xs : List V), vs = [.ref p, .int t] ∧ H p = some (.tup (.int L :: xs)) ∧ 1 ≤ L ∧ Q (.int (t / L)) H
section
variable {P : Program} {w : World} {K : PySem.W.Frag} {mg : Str → Option Value} {base : Heap}
theorem ok_window_of (T : Ctx K mg) (hN : base.NoSeer) (ht : P.given.tree = none) : FnOk P w K mg base CX0 34 T.f_window_of T.fd_window_of ["plan", "time"] (sp_window_of K) := by
  refine T.F_window_of.ok sc_window_of (fun vs H Q E h => ?_) (fun cdv A outer s H vs Q E hr h => ?_)
  · obtain ⟨p, L, t, xs, rfl, _⟩ := h
    rfl
  · obtain ⟨p, L, t, xs, rfl, hp, hL, q⟩ := h
    have hd0 := hr.dp
    have hd : (A.deeper (envOfC "window_of" (defScope s_window_of) s.heap.objs.size T.f_window_of cdv)).depth + 100 < recursionLimit := by omega
    refine ⟨_, (pss_one (ps_ret (pe_op (Big.op_fdivP hN ht rfl rfl rfl hd) (pv 1) (pe_ix ix_tup (pv 0) pe_int (fun _ _ => rfl))))), ?_⟩
    exact ⟨.int t, rfl, .ref p, rfl, p, _, 0, _, rfl, rfl, .inl (.inl hp), atI_nat (j := 0) rfl, _, _, rfl, rfl, (show (0 : Int) < L by omega), q⟩
end
def sp_readings (K : PySem.W.Frag) : Sp := fun vs H Q _ => ∃ (p h t : Addr) (L w : Int) (xs : List V) (ls : List Lg) (ns : List Str), vs = [.ref p, .ref h, .ref t, .int w] ∧ H p = some (.tup (.int L :: xs)) ∧ 1 ≤ L ∧ HistAt H h ls ∧ HistFew ls ∧ Vsd ls ∧ H t = some (.tup (ns.map V.str)) ∧
  ∀ (H' : Hp) (b : Addr) (zs : List Int), Same H H' → H' b = some (.tup (zs.map V.int)) → zs.Perm (rdOf L w ns ls) → zs.Pairwise (· ≤ ·) → Q (.ref b) H'
section
variable {P : Program} {w : World} {K : PySem.W.Frag} {mg : Str → Option Value} {base : Heap}
set_option pp.maxSteps 300 in
set_option maxHeartbeats 600000 in
theorem ok_readings (T : Ctx K mg) (hN : base.NoSeer) (ht : P.given.tree = none) : FnOk P w K mg base CX0 35 T.f_readings T.fd_readings ["plan", "history", "meters", "window"] (sp_readings K) := by
  refine T.F_readings.ok sc_readings (fun vs H Q E h => ?_) (fun cdv A outer s H vs Q E hr h => ?_)
  · obtain ⟨p, h', t, L, w, xs, ls, ns, rfl, _⟩ := h
    rfl
  · obtain ⟨p, h0, t, L, w, xs, ls, ns, rfl, hp, hL, ⟨gs, hh, hgs⟩, few, vsd, hns, q⟩ := h
    refine ⟨_, (pss_one (ps_ret (pe_callTy call_tuple_of (by rfl) T.m_tuple (by decide +kernel) (pa_cons (pe_callB cr_sortedI (by rfl) T.m_sorted (by decide +kernel) (pa_cons (pe_lc2 (own := [("name", 4), ("offset", 5), ("slots", 6), ("stamp", 7), ("versions", 8)]) (vs1 := [7, 8]) (g := gTup K 3 (gCons (gName 4) (gCons (gName 5) (gCons (gName 6) gNil)))) (g1 := gTup K 2 (gCons (gName 7) (gCons (gName 8) gNil))) (by rfl) sc_readings.nd (pi_tup (pv 1)) (blkOk_by (own := [("name", 4), ("offset", 5), ("slots", 6), ("stamp", 7), ("versions", 8)]) (N := ["plan", "history", "meters", "window", "name", "offset", "slots", "stamp", "versions"]) (sc := defScope s_readings) (by decide +kernel)) (by decide) (fun _ _ _ _ _ => pg_tup rfl (pgs_cons (pg_name (i := 4) sc_readings.nd rfl (Or.inl rfl)) (pgs_cons (pg_name (i := 5) sc_readings.nd rfl (Or.inl rfl)) (pgs_cons (pg_name (i := 6) sc_readings.nd rfl (Or.inl rfl)) pgs_nil)))) (fun _ _ _ _ _ => (pts_one (pt_cmpR (show OpR _ (compareOp .In) (rIn K false) from op_in_seq) (pv 4) (pv 2) rfl))) (fun _ _ _ _ _ => (show PI _ _ _ (iTup K _) from (pi_tup (pv 6)))) (fun _ _ _ _ _ => pg_tup rfl (pgs_cons (pg_name (i := 7) sc_readings.nd rfl (Or.inl rfl)) (pgs_cons (pg_name (i := 8) sc_readings.nd rfl (Or.inl rfl)) pgs_nil))) (fun _ _ _ _ _ => (pts_one (PW.pt (pw_and (pt_cmpR op_notN (pe_ix (show IxR _ (rIxT K) from ix_tup) (pv 8) (pe_un un_neg pe_int) (fun _ _ => rfl)) pe_non (nomark _)) (pw_and1 (pt_cmpR op_eq (pe_call (ok_window_of T hN ht) (hr.mono (by decide)) (by rfl) T.g_window_of T.F_window_of.kp T.b_window_of .nil pass0 (pa_cons (pv 0) (pa_cons (pe_op op_add (pv 7) (pv 5)) pa_nil))) (pv 3) (nomark _))))))) (fun _ _ _ _ _ => (pe_ix (show IxR _ (rIxT K) from ix_tup) (pv 8) (pe_un un_neg pe_int) (fun _ _ => rfl)))) pa_nil)) pa_nil)))), ?_⟩
    have big : (40000 : Nat) < sizeLine := by decide
    have gl : gs.length = ls.length := hgs.length
    have f1 := few.logs
    refine ⟨.ref h0, rfl, h0, rfl, ⟨_, .inl (.inl hh)⟩, fun D nD => EnumT.walk_threeT (K := K) (a := h0) (xs := gs.map V.ref) (by decide) (by decide) (by decide) (by decide) (by decide) (by decide) (show 4 < 9 by decide) (show 5 < 9 by decide) (show 6 < 9 by decide) (fun i H' => Same H H' ∧ H' D = some (.lst ((rdOf L w ns (ls.take i)).map V.int))) ⟨same_new nD, by rw [upd_same, List.take_zero]; rfl⟩ (fun i H' z => .inl (.inl (z.1 _ _ hh))) (fun i x H1 hx z => ?_) (fun H1 z => ?_)⟩
    · obtain ⟨s1, hD1⟩ := z
      rw [List.getElem?_map] at hx
      obtain ⟨ga, hga, rfl⟩ := Option.map_eq_some_iff.mp hx
      have il := (List.getElem?_eq_some_iff.mp hga).1
      obtain ⟨g, hg, tt, ss, hat, htt, hss⟩ := lgs_at hgs hga
      have gm := List.mem_of_getElem? hg
      have sl := few.slots g gm
      have ed := rdOf_snoc (L := L) (w := w) (ns := ns) hg
      have lacc := rdOf_len (L := L) (w := w) (ns := ns) (few.take i).slots
      rw [List.length_take] at lacc
      refine ⟨ga, _, _, _, rfl, .inl (.inl (s1 _ _ hat)), fun σ1 n1 o1 a1 a2 a3 => ?_⟩
      have n1' : σ1.length = 9 := n1
      refine ⟨.str g.name, a1, .ref t, o1 2 (by decide), t, _, rfl, .inr (.inl (.inl (s1 _ _ hns))), rfl, flat_names _, _, rfl, ?_⟩
      show if inV (.str g.name) (ns.map V.str) = true then _ else _
      rw [in_names]
      refine ite2 (fun e => ?_) (fun e => ?_)
      · have hin : g.name ∈ ns := of_decide_eq_true e
        refine ⟨.ref tt, a3, tt, rfl, ⟨_, .inl (.inl (s1 _ _ htt))⟩, EnumT.walk_twoT (K := K) (a := tt) (xs := ss.map V.ref) (by decide) (by decide) (by decide) (by omega) (by omega) (fun j H' => Same H H' ∧ H' D = some (.lst ((rdOf L w ns (ls.take i) ++ (g.slots.take j).filterMap (slotIn L w g.off)).map V.int)))
          ⟨s1, by rw [List.take_zero, List.filterMap_nil, List.append_nil]; exact hD1⟩ (fun j H' z => .inl (.inl (z.1 _ _ htt))) (fun j x H2 hx z => ?_) (fun H2 z => ?_)⟩
        · obtain ⟨s2, hD2⟩ := z
          rw [List.getElem?_map] at hx
          obtain ⟨sa, hsa0, rfl⟩ := Option.map_eq_some_iff.mp hx
          have hj := (List.getElem?_eq_some_iff.mp hsa0).1
          obtain ⟨s, hs, tv, hsa, htv⟩ := sls_at hss hsa0
          have sm := List.mem_of_getElem? hs
          obtain ⟨o, ho, hlo, _⟩ := last_at (vsd g gm s sm)
          have es := fmap_snoc (f := slotIn L w g.off) hs
          have hacc : (rdOf L w ns (ls.take i) ++ (g.slots.take j).filterMap (slotIn L w g.off)).length ≤ 4000 := by
            have := List.length_filterMap_le (slotIn L w g.off) (g.slots.take j)
            rw [List.length_take] at this
            rw [List.length_append]
            omega
          refine ⟨sa, _, _, rfl, .inl (.inl (s2 _ _ hsa)), fun σ2 n2 o2 b1 b2 => ?_⟩
          have hV : SqT K H2 tv (s.vers.map optV) := .inl (.inl (s2 _ _ htv))
          refine ⟨.ref tv, b2, _, rfl, tv, _, -1, _, rfl, rfl, hV, ho, rfl, _, rfl, ?_⟩
          cases o with
          | none =>
            refine iteF ⟨s2, ?_⟩
            have e2 : slotIn L w g.off s = none := by
              unfold slotIn
              rw [hlo]
              split <;> rfl
            rw [es, e2]
            show H2 D = some (.lst ((rdOf L w ns (ls.take i) ++ ((g.slots.take j).filterMap (slotIn L w g.off) ++ [])).map V.int))
            rw [List.append_nil]
            exact hD2
          | some v =>
            refine iteT ⟨.ref p, (o2 0 (by decide)).trans (o1 0 (by decide)), .int s.stamp, b1, .int g.off, (o2 5 (by decide)).trans a2, _, _, rfl, rfl, p, L, s.stamp + g.off, xs, rfl, s2 _ _ hp, hL, .int w, (o2 3 (by decide)).trans (o1 3 (by decide)), rfl, _, rfl, ite2 (fun e2 => ?_) (fun e2 => ?_)⟩
            · have ew : (s.stamp + g.off) / L = w := V.int.inj (of_decide_eq_true e2)
              refine ⟨.ref tv, b2, _, rfl, tv, _, -1, _, rfl, rfl, hV, ho, _, hD2, by rw [List.length_map]; omega, same_keep s2 nD, ?_⟩
              have e3 : slotIn L w g.off s = some v := by
                unfold slotIn
                rw [if_pos ew, hlo]
              rw [upd_same, es, e3, ← List.append_assoc, List.map_append (l₂ := (some v).toList)]
              rfl
            · have nw : ¬ (s.stamp + g.off) / L = w := fun z => e2 (decide_eq_true (congrArg V.int z))
              have e3 : slotIn L w g.off s = none := by
                unfold slotIn
                rw [if_neg nw]
              refine ⟨s2, ?_⟩
              rw [es, e3]
              show H2 D = some (.lst ((rdOf L w ns (ls.take i) ++ ((g.slots.take j).filterMap (slotIn L w g.off) ++ [])).map V.int))
              rw [List.append_nil]
              exact hD2
        · obtain ⟨s2, hD2⟩ := z
          rw [List.length_map, hss.length, List.take_length] at hD2
          refine ⟨s2, ?_⟩
          rw [ed]
          unfold rdLog
          rw [if_pos hin]
          exact hD2
      · have hin : ¬ g.name ∈ ns := fun z => e (decide_eq_true z)
        refine ⟨s1, ?_⟩
        rw [ed]
        unfold rdLog
        rw [if_neg hin, List.append_nil]
        exact hD1
    · obtain ⟨s1, hD1⟩ := z
      rw [List.length_map, gl, List.take_length] at hD1
      exact ⟨D, _, rfl, .inl (.inl hD1), fun ws L' pm up nL => ⟨L', _, rfl, .inl ⟨.inl (.inl upd_same), fun b nb => q _ b ws ((s1.trans (same_new nL)).trans (same_new nb)) upd_same pm up⟩⟩⟩
end
def sp_value_of (K : PySem.W.Frag) : Sp := fun vs H Q _ => ∃ (a v : Addr) (g : Ag) (xs : List Int), vs = [.ref a, .ref v] ∧ AgAt H a g ∧ H v = some (.tup (xs.map V.int)) ∧ xs.length ≤ 1000 ∧ g.Ok ∧ ∀ H', Same H H' → Q (valOf g xs) H'
section
variable {P : Program} {w : World} {K : PySem.W.Frag} {mg : Str → Option Value} {base : Heap}
theorem ok_value_of (T : Ctx K mg) : FnOk P w K mg base CX0 1 T.f_value_of T.fd_value_of ["aggregate", "values"] (sp_value_of K) := by
  refine T.F_value_of.ok sc_value_of (fun vs H Q E h => ?_) (fun cdv A outer s H vs Q E hr h => ?_)
  · obtain ⟨a, v, g, xs, rfl, _⟩ := h
    rfl
  · obtain ⟨a, v, g, xs, rfl, ha, hv, few, ok, q⟩ := h
    refine ⟨_, (pss_cons (ps_asg (pv 0) (Star2.pg_star (i := 1) rfl (pgs_cons (pg_name (i := 2) sc_value_of.nd rfl (Or.inl rfl)) (Star2.pgs_star (pg_name (i := 3) sc_value_of.nd rfl (Or.inl rfl))))))
      (pss_cons (ps_if (pt_cmpR op_eq (pv 2) pe_str (nomark _))
        (pss_one (ps_ret (pe_callB call_len_seq (by rfl) T.m_len (by decide +kernel) (pa_cons (pv 1) pa_nil))))
        pss_nil)
      (pss_cons (ps_if (pt_cmpR op_eq (pv 2) pe_str (nomark _))
        (pss_cons (ps_asg (pv 3) (pg_lst (by rfl) (pgs_cons (pg_name (i := 4) sc_value_of.nd rfl (Or.inr rfl)) (pgs_cons (pg_name (i := 5) sc_value_of.nd rfl (Or.inr rfl)) pgs_nil))))
      (pss_one (ps_ret (pe_callB call_len_seq (by rfl) T.m_len (by decide +kernel) (pa_cons (pe_lc (own := [("value", 8)]) (g := gName 8) (by rfl) sc_value_of.nd (pi_tup (pv 1)) (blkOk_by (own := [("value", 8)]) (N := ["aggregate", "values", "kind", "numbers", "low", "high", "part", "whole", "value"]) (sc := defScope s_value_of) (by decide +kernel)) (fun _ _ _ _ _ => pg_name (i := 8) sc_value_of.nd rfl (Or.inl rfl)) (fun _ _ _ _ _ => (pts_one (pt_chain op_le op_le (pv 4) (pv 8) (pv 5)))) (fun _ _ _ _ _ => (pv 8))) pa_nil)))))
        pss_nil)
      (pss_cons (ps_if (pt_cmpR op_eq (pv 2) pe_str (nomark _))
        (pss_one (ps_ret (pe_callB (SumT.cr_sumT rfl) (by rfl) T.m_sum (by decide +kernel) (pa_cons (pv 1) pa_nil))))
        pss_nil)
      (pss_cons (ps_if (pt_cmpR op_eq (pe_callB call_len_seq (by rfl) T.m_len (by decide +kernel) (pa_cons (pv 1) pa_nil)) pe_int (nomark _))
        (pss_one (ps_ret pe_non))
        pss_nil)
      (pss_cons (ps_asg (pv 3) (pg_lst (by rfl) (pgs_cons (pg_name (i := 6) sc_value_of.nd rfl (Or.inl rfl)) (pgs_cons (pg_name (i := 7) sc_value_of.nd rfl (Or.inl rfl)) pgs_nil))))
      (pss_one (ps_ret (pe_ix ix_tup (pv 1) (pe_op op_fdiv (pe_op op_mul (pe_op op_sub (pe_callB call_len_seq (by rfl) T.m_len (by decide +kernel) (pa_cons (pv 1) pa_nil)) pe_int) (pv 6)) (pv 7)) (fun _ _ => rfl)))))))))), ?_⟩
    cases g with
    | count =>
      refine ⟨.ref a, rfl, a, _, rfl, .inl (.inl ha), by decide, fun N nN => ⟨_, _, rfl, _, _, rfl, rfl, .str "count", rfl, rfl, _, rfl, ite2 (fun _ => ?_) (fun e => absurd (decide_eq_true rfl) e)⟩⟩
      have s1 := same_new (o := .lst (List.drop 1 (Ag.vals .count))) nN
      have qq := q _ s1
      refine ⟨.ref v, rfl, v, _, rfl, .inr (.inl (.inl (s1 _ _ hv))), ?_⟩
      rw [List.length_map]
      exact qq
    | among lo hi =>
      refine ⟨.ref a, rfl, a, _, rfl, .inl (.inl ha), by show 1 ≤ 3; omega, fun N nN => ⟨_, _, rfl, _, _, rfl, rfl, .str "among", rfl, rfl, _, rfl, ite2 (fun e => absurd e (by decide +kernel)) (fun _ => ?_)⟩⟩
      have s1 := same_new (o := .lst (List.drop 1 (Ag.vals (.among lo hi)))) nN
      have hN : upd H N (.lst (List.drop 1 (Ag.vals (.among lo hi)))) N = some (.lst [.int lo, .int hi]) := upd_same
      generalize upd H N (.lst (List.drop 1 (Ag.vals (.among lo hi)))) = H1 at s1 hN ⊢
      refine ⟨.str "among", rfl, rfl, _, rfl, ite2 (fun _ => ?_) (fun e => absurd (decide_eq_true rfl) e)⟩
      refine ⟨.ref N, rfl, N, _, rfl, .inl (.inl hN), rfl, _, _, rfl, _, _, rfl, rfl, ?_⟩
      have hv1 := s1 _ _ hv
      refine ⟨.ref v, rfl, v, rfl, ⟨_, .inl (.inl hv1)⟩, fun C nC => lc_tup (K := K) (a := v) (xs := xs.map V.int) (fun i H' => Same H1 H' ∧ H' C = some (.lst (((xs.take i).filter (within lo hi)).map V.int))) ⟨same_new nC, upd_same⟩ (fun i H' _ z => .inl (.inl (z.1 _ _ hv1))) (fun i x H' hx z => ?_) (fun H' z => ?_)⟩
      · obtain ⟨s2, hC⟩ := z
        obtain ⟨k, hk, rfl⟩ := int_at hx
        have il := (List.getElem?_eq_some_iff.mp hk).1
        have fl := filt_snoc (within lo hi) hk
        have l1 : ((xs.take i).filter (within lo hi)).length ≤ i := Nat.le_trans (List.length_filter_le _ _) (by rw [List.length_take]; omega)
        refine ⟨rfl, .int lo, rfl, .int k, rfl, _, _, rfl, rfl, _, rfl, ite2 (fun e1 => ?_) (fun e1 => ?_)⟩
        · have c1 : lo ≤ k := of_decide_eq_true e1
          refine ⟨.int hi, rfl, _, _, rfl, rfl, _, rfl, ite2 (fun e2 => ?_) (fun e2 => ?_)⟩
          · have c2 : k ≤ hi := of_decide_eq_true e2
            have w : within lo hi k = true := by
              show (decide (lo ≤ k) && decide (k ≤ hi)) = true
              rw [e1, e2]; rfl
            rw [if_pos w] at fl
            refine ⟨.int k, rfl, _, hC, by rw [List.length_map]; exact small (by omega), same_keep s2 nC, ?_⟩
            rw [upd_same, fl, List.map_append]
            rfl
          · have w : ¬ within lo hi k = true := fun z => e2 (Bool.and_eq_true_iff.mp z).2
            rw [if_neg w, List.append_nil] at fl
            exact ⟨s2, by rw [fl]; exact hC⟩
        · have w : ¬ within lo hi k = true := fun z => e1 (Bool.and_eq_true_iff.mp z).1
          rw [if_neg w, List.append_nil] at fl
          exact ⟨_, rfl, iteF ⟨s2, by rw [fl]; exact hC⟩⟩
      · obtain ⟨s2, hC⟩ := z
        rw [List.length_map, List.take_length] at hC
        refine ⟨C, _, rfl, .inl (.inl (.inl hC)), ?_⟩
        rw [List.length_map]
        exact q _ (s1.trans s2)
    | sum =>
      refine ⟨.ref a, rfl, a, _, rfl, .inl (.inl ha), by decide, fun N nN => ⟨_, _, rfl, _, _, rfl, rfl, .str "sum", rfl, rfl, _, rfl, ite2 (fun e => absurd e (by decide +kernel)) (fun _ => ?_)⟩⟩
      have s1 := same_new (o := .lst (List.drop 1 (Ag.vals .sum))) nN
      have qq := q _ s1
      refine ⟨.str "sum", rfl, rfl, _, rfl, ite2 (fun e => absurd e (by decide +kernel)) (fun _ => ?_)⟩
      refine ⟨.str "sum", rfl, rfl, _, rfl, ite2 (fun _ => ?_) (fun e => absurd (decide_eq_true rfl) e)⟩
      exact ⟨.ref v, rfl, v, xs, rfl, .inl (.inl (s1 _ _ hv)), qq⟩
    | rank pp qq =>
      refine ⟨.ref a, rfl, a, _, rfl, .inl (.inl ha), by show 1 ≤ 3; omega, fun N nN => ⟨_, _, rfl, _, _, rfl, rfl, .str "rank", rfl, rfl, _, rfl, ite2 (fun e => absurd e (by decide +kernel)) (fun _ => ?_)⟩⟩
      have s1 := same_new (o := .lst (List.drop 1 (Ag.vals (.rank pp qq)))) nN
      have hN : upd H N (.lst (List.drop 1 (Ag.vals (.rank pp qq)))) N = some (.lst [.int pp, .int qq]) := upd_same
      generalize upd H N (.lst (List.drop 1 (Ag.vals (.rank pp qq)))) = H1 at s1 hN ⊢
      have q1 := q _ s1
      have hT : SqT K H1 v (xs.map V.int) := .inl (.inl (s1 _ _ hv))
      refine ⟨.str "rank", rfl, rfl, _, rfl, ite2 (fun e => absurd e (by decide +kernel)) (fun _ => ?_)⟩
      refine ⟨.str "rank", rfl, rfl, _, rfl, ite2 (fun e => absurd e (by decide +kernel)) (fun _ => ?_)⟩
      refine ⟨.ref v, rfl, v, _, rfl, .inr hT, rfl, _, rfl, ite2 (fun e => ?_) (fun e => ?_)⟩
      · have e0 : xs = [] := by
          have z : ((xs.map V.int).length : Int) = 0 := V.int.inj (of_decide_eq_true e)
          rw [List.length_map] at z
          exact List.length_eq_zero_iff.mp (by omega)
        rw [e0, rank_nil] at q1
        exact q1
      · have hn : xs ≠ [] := fun z => by
          subst z
          exact e (decide_eq_true rfl)
        obtain ⟨h0, h1, h2, h3⟩ := ok
        obtain ⟨k, hk, ea, ev⟩ := rank_at hn h0 h1 h2
        rw [ev] at q1
        refine ⟨.ref N, rfl, N, _, rfl, .inl (.inl hN), rfl, _, _, rfl, _, _, rfl, rfl, ?_⟩
        refine ⟨.ref v, rfl, .ref v, rfl, v, _, rfl, .inr hT, _, _, rfl, rfl, .int pp, rfl, _, _, rfl, rfl, .inl ⟨?_, ?_⟩, .int qq, rfl, _, _, rfl, rfl, ?_, v, _, _, _, rfl, rfl, hT, ?_, q1⟩
        · rw [List.length_map]; omega
        · rw [List.length_map]; omega
        · exact ⟨by omega, by omega⟩
        · rw [List.length_map]
          exact ea
end
def sp_plain_value (K : PySem.W.Frag) : Sp := fun vs H Q _ => ∃ (p h a t : Addr) (L w : Int) (xs : List V) (ls : List Lg) (ns : List Str) (g : Ag), vs = [.ref p, .ref h, .ref a, .ref t, .int w] ∧ H p = some (.tup (.int L :: xs)) ∧ 1 ≤ L ∧ HistAt H h ls ∧ HistFew ls ∧ Vsd ls ∧ RdFew L ls ∧ AgAt H a g ∧ g.Ok ∧ H t = some (.tup (ns.map V.str)) ∧
  ∀ (H' : Hp), Same H H' → Q (valP L w ns ls g) H'
section
variable {P : Program} {w : World} {K : PySem.W.Frag} {mg : Str → Option Value} {base : Heap}
set_option pp.maxSteps 300 in
theorem ok_plain_value (T : Ctx K mg) (hN : base.NoSeer) (ht : P.given.tree = none) : FnOk P w K mg base CX0 36 T.f_plain_value T.fd_plain_value ["plan", "history", "aggregate", "meters", "window"] (sp_plain_value K) := by
  refine T.F_plain_value.ok sc_plain_value (fun vs H Q E h => ?_) (fun cdv A outer s H vs Q E hr h => ?_)
  · obtain ⟨p, h', a, t, L, w, xs, ls, ns, g, rfl, _⟩ := h
    rfl
  · obtain ⟨p, h0, a, t, L, w, xs, ls, ns, g, rfl, hp, hL, hh, few, vsd, fw, ha, ok, hns, q⟩ := h
    refine ⟨_, (pss_one (ps_ret (pe_call (ok_value_of T) (hr.mono (by decide)) (by rfl) T.g_value_of T.F_value_of.kp T.b_value_of .nil pass0 (pa_cons (pv 2) (pa_cons (pe_call (ok_readings T hN ht) (hr.mono (by decide)) (by rfl) T.g_readings T.F_readings.kp T.b_readings .nil pass0 (pa_cons (pv 0) (pa_cons (pv 1) (pa_cons (pv 3) (pa_cons (pv 4) pa_nil))))) pa_nil))))), ?_⟩
    refine ⟨.ref a, rfl, .ref p, rfl, .ref h0, rfl, .ref t, rfl, .int w, rfl, p, h0, t, L, w, xs, ls, ns, rfl, hp, hL, hh, few, vsd, hns, fun H1 b zs s1 hb pm up => ?_⟩
    obtain rfl := srt_is pm up
    have lz := pm.length_eq
    have l2 := fw w ns
    exact ⟨a, b, g, _, rfl, s1 _ _ ha, hb, by omega, ok, fun H2 s2 => q H2 (s1.trans s2)⟩
end
structure Al where
  name : Str
  g : Ag
  ns : List Str
  over : Bool
  limit : Int
  first : Int
  last : Int
def relS (b : Bool) : Str := if b = true then "over" else "under"
def AlAt (H : Hp) (t : Addr) (x : Al) : Prop := ∃ ga na, H t = some (.tup [.str x.name, .ref ga, .ref na, .str (relS x.over), .int x.limit, .int x.first, .int x.last]) ∧ AgAt H ga x.g ∧ H na = some (.tup (x.ns.map V.str))
def ringB (v : V) (x : Al) : Bool := match v with
  | .int i => if x.over = true then decide (i > x.limit) else decide (i < x.limit)
  | _ => false
def sp_rings_in (K : PySem.W.Frag) : Sp := fun vs H Q _ => ∃ (p h t : Addr) (L w : Int) (xs : List V) (ls : List Lg) (x : Al), vs = [.ref p, .ref h, .ref t, .int w] ∧ H p = some (.tup (.int L :: xs)) ∧ 1 ≤ L ∧ HistAt H h ls ∧ HistFew ls ∧ Vsd ls ∧ RdFew L ls ∧ AlAt H t x ∧ x.g.Ok ∧
  ∀ (H' : Hp), Same H H' → Q (.bl (ringB (valP L w x.ns ls x.g) x)) H'
theorem valOf_kind (g : Ag) (xs : List Int) : valOf g xs = .non ∨ ∃ i, valOf g xs = .int i := by
  cases g with
  | count => exact .inr ⟨_, rfl⟩
  | among => exact .inr ⟨_, rfl⟩
  | sum => exact .inr ⟨_, rfl⟩
  | rank p q =>
    show rankOf p q xs = .non ∨ ∃ i, rankOf p q xs = .int i
    unfold rankOf
    split
    · exact .inl rfl
    · split
      · rename_i v e
        unfold atI at e
        have m : ∃ j : Nat, (xs.map V.int)[j]? = some v := by
          obtain ⟨j, _, z⟩ := Option.bind_eq_some_iff.mp e
          exact ⟨j, z⟩
        obtain ⟨j, m⟩ := m
        obtain ⟨i, _, rfl⟩ := List.mem_map.mp (List.mem_of_getElem? m)
        exact .inr ⟨i, rfl⟩
      · exact .inl rfl
section
variable {P : Program} {w : World} {K : PySem.W.Frag} {mg : Str → Option Value} {base : Heap}
set_option pp.maxSteps 400 in
theorem ok_rings_in (T : Ctx K mg) (hN : base.NoSeer) (ht : P.given.tree = none) : FnOk P w K mg base CX0 37 T.f_rings_in T.fd_rings_in ["plan", "history", "alarm", "window"] (sp_rings_in K) := by
  refine T.F_rings_in.ok sc_rings_in (fun vs H Q E h => ?_) (fun cdv A outer s H vs Q E hr h => ?_)
  · obtain ⟨p, h', t, L, w, xs, ls, x, rfl, _⟩ := h
    rfl
  · obtain ⟨p, h0, t, L, w, xs, ls, x, rfl, hp, hL, hh, few, vsd, fw, ⟨ga, na, hat, hga, hna⟩, ok, q⟩ := h
    refine ⟨_, (pss_cons (ps_asg (pv 2) (pg_tup (by rfl) (pgs_cons (pg_name (i := 4) sc_rings_in.nd rfl (Or.inl rfl)) (pgs_cons (pg_name (i := 5) sc_rings_in.nd rfl (Or.inl rfl)) (pgs_cons (pg_name (i := 6) sc_rings_in.nd rfl (Or.inl rfl)) (pgs_cons (pg_name (i := 7) sc_rings_in.nd rfl (Or.inl rfl)) (pgs_cons (pg_name (i := 8) sc_rings_in.nd rfl (Or.inl rfl)) (pgs_cons (pg_name (i := 9) sc_rings_in.nd rfl (Or.inl rfl)) (pgs_cons (pg_name (i := 10) sc_rings_in.nd rfl (Or.inl rfl)) pgs_nil)))))))))
      (pss_cons (ps_set (i := 11) sc_rings_in.nd rfl (.inl rfl) (pe_call (ok_plain_value T hN ht) (hr.mono (by decide)) (by rfl) T.g_plain_value T.F_plain_value.kp T.b_plain_value .nil pass0 (pa_cons (pv 0) (pa_cons (pv 1) (pa_cons (pv 5) (pa_cons (pv 6) (pa_cons (pv 3) pa_nil)))))))
      (pss_cons (ps_if (pt_cmpR op_isN (pv 11) pe_non (nomark _))
        (pss_one (ps_ret pe_bl))
        pss_nil)
      (pss_one (ps_ret (pe_ifExp (pt_cmpR op_eq (pv 7) pe_str (nomark _)) (pe_cmpR op_gt (pv 11) (pv 8) (nomark _)) (pe_cmpR op_lt (pv 11) (pv 8) (nomark _)))))))), ?_⟩
    refine ⟨.ref t, rfl, t, _, rfl, .inl (.inl hat), rfl, _, _, rfl, _, _, rfl, _, _, rfl, _, _, rfl, _, _, rfl, _, _, rfl, _, _, rfl, rfl, ?_⟩
    refine ⟨.ref p, rfl, .ref h0, rfl, .ref ga, rfl, .ref na, rfl, .int w, rfl, p, h0, ga, na, L, w, xs, ls, x.ns, x.g, rfl, hp, hL, hh, few, vsd, fw, hga, ok, hna, fun H1 s1 => ?_⟩
    have q1 := q _ s1
    unfold valP at q1 ⊢
    rcases valOf_kind x.g (srt (rdOf L w x.ns ls)) with e | ⟨i, e⟩
    · rw [e] at q1 ⊢
      exact ⟨.non, rfl, rfl, _, rfl, iteT q1⟩
    rw [e] at q1 ⊢
    refine ⟨.int i, rfl, rfl, _, rfl, iteF ?_⟩
    cases eo : x.over with
    | true =>
      rw [show ringB (.int i) x = decide (i > x.limit) from if_pos eo] at q1
      refine ⟨.str (relS true), rfl, rfl, _, rfl, ite2 (fun _ => ?_) (fun z => absurd (by decide +kernel) z)⟩
      exact ⟨.int i, rfl, .int x.limit, rfl, _, _, rfl, rfl, q1⟩
    | false =>
      rw [show ringB (.int i) x = decide (i < x.limit) from if_neg (by rw [eo]; exact Bool.false_ne_true)] at q1
      refine ⟨.str (relS false), rfl, rfl, _, rfl, ite2 (fun z => absurd z (by decide +kernel)) (fun _ => ?_)⟩
      exact ⟨.int i, rfl, .int x.limit, rfl, _, _, rfl, rfl, q1⟩
end
def sp_l_draws (K : PySem.W.Frag) : Sp := fun vs H Q _ => ∃ (a : Addr) (ns : List Int) (m : Nat), vs = [.ref a, .int (m : Int)] ∧ SqL K H a (ns.map V.int) ∧ ns.length ≤ 1000 ∧ m ≤ 1000 ∧
  ∀ H' d, Same H H' → H d = none → DrA H' d → Q (.ref d) H'
section
variable {P : Program} {w : World} {K : PySem.W.Frag} {mg : Str → Option Value} {base : Heap}
theorem ok_l_draws (T : Ctx K mg) : FnOk P w K mg base CX0 1 T.f_l_draws T.fd_l_draws ["script", "many"] (sp_l_draws K) := by
  refine T.F_l_draws.ok sc_l_draws (fun vs H Q E h => ?_) (fun cdv A outer s H vs Q E hr h => ?_)
  · obtain ⟨a, ns, m, rfl, _⟩ := h
    rfl
  · obtain ⟨a, ns, m, rfl, hS, hlen, hm, q⟩ := h
    refine ⟨_, (pss_cons (ps_setLc (i := 2) (own := [("cell", 8)]) (g := gName 8) (by rfl) sc_l_draws.nd rfl rfl (sw_true rfl rfl rfl (by decide +kernel)) (pi_list (pv 0)) (blkOk_by (own := [("cell", 8)]) (N := ["script", "many", "cells", "rest", "draws", "k", "at", "once", "cell"]) (sc := defScope s_l_draws) (by decide +kernel)) (fun _ _ _ _ _ => pg_name (i := 8) sc_l_draws.nd rfl (Or.inl rfl)) (fun _ _ _ _ _ => pts_nil) (fun _ _ _ _ _ => (pe_callTy call_int1 (by rfl) T.m_int (by decide +kernel) (pa_cons (pv 8) pa_nil))))
      (pss_cons (ps_if (pt_cmpR op_eq (pe_callB call_len_seq (by rfl) T.m_len (by decide +kernel) (pa_cons (pv 2) pa_nil)) pe_int (nomark _))
        (pss_one (ps_expr (pe_bm PySem.F.plainAttrs_list PySem.F.slot_list_append PySem.F.type_list_append mt_append (pv 2) (pa_cons pe_int pa_nil))))
        pss_nil)
      (pss_cons (ps_set (i := 3) sc_l_draws.nd rfl (.inl rfl) (pe_callTy call_list_of (by rfl) T.m_list (by decide +kernel) (pa_cons (pv 2) pa_nil)))
      (pss_cons (ps_set (i := 4) sc_l_draws.nd rfl (.inl rfl) (pe_lst pa_nil))
      (pss_cons (ps_for PassesOwn.never rfl (pi_range1 (by rfl) T.m_range (pa_cons (pv 1) pa_nil)) (pg_name (i := 5) sc_l_draws.nd rfl (.inl rfl))
        (pss_cons (ps_set (i := 6) sc_l_draws.nd rfl (.inl rfl) (pe_op op_mod (pv 5) (pe_callB call_len_seq (by rfl) T.m_len (by decide +kernel) (pa_cons (pv 2) pa_nil))))
      (pss_one (ps_if (pt_cmpR op_ge (pe_ix ix_list (pv 2) (pv 6) (fun _ _ => rfl)) (pe_op op_pow pe_int pe_int) (nomark _))
        (pss_cons (ps_expr (pe_bm PySem.F.plainAttrs_list PySem.F.slot_list_append PySem.F.type_list_append mt_append (pv 4) (pa_cons (pe_op op_mod (pe_callTy call_int1 (by rfl) T.m_int (by decide +kernel) (pa_cons (pe_ix ix_list (pv 3) (pv 6) (fun _ _ => rfl)) pa_nil)) pe_int) pa_nil)))
      (pss_one (ps_asg (pe_op op_fdiv (pe_ix ix_list (pv 3) (pv 6) (fun _ _ => rfl)) pe_int) (pg_sub (pv 3) (pv 6) set_list))))
        (pss_cons (ps_set (i := 7) sc_l_draws.nd rfl (.inl rfl) (pe_op op_mod (pe_callTy call_int1 (by rfl) T.m_int (by decide +kernel) (pa_cons (pe_op op_add (pe_op op_add (pe_op op_mul (pe_ix ix_list (pv 2) (pv 6) (fun _ _ => rfl)) pe_int) (pe_op op_mul (pv 5) pe_int)) pe_int) pa_nil)) pe_int))
      (pss_one (ps_expr (pe_bm PySem.F.plainAttrs_list PySem.F.slot_list_append PySem.F.type_list_append mt_append (pv 4) (pa_cons (pe_op op_mod (pe_callTy call_int1 (by rfl) T.m_int (by decide +kernel) (pa_cons (pe_op op_add (pe_op op_add (pe_op op_mul (pv 7) (pv 7)) (pe_op op_mul pe_int (pv 7))) (pv 5)) pa_nil)) pe_int) pa_nil)))))))))
      (pss_cons (ps_expr (pe_bm0 PySem.F.plainAttrs_list PySem.F.slot_list_reverse PySem.F.type_list_reverse mt_reverse (pv 4)))
      (pss_one (ps_ret (pv 4))))))))), ?_⟩
    -- cells = [int(cell) for cell in script]
    refine ⟨.ref a, rfl, a, rfl, ⟨_, hS⟩, fun C hC => lc_list (K := K) (a := a) (xs := ns.map V.int) (fun i H1 => Same H H1 ∧ H1 C = some (.lst ((ns.take i).map V.int))) ⟨same_new hC, upd_same⟩ (fun i H1 _ p => p.1.seq hS) (fun i x H1 hx p => ?_) (fun H1 p => ?_)⟩
    · obtain ⟨hlt, hx'⟩ := List.getElem?_eq_some_iff.mp hx
      rw [List.length_map] at hlt
      have ex : x = .int ns[i] := by
        rw [← hx', List.getElem_map]
      subst ex
      refine ⟨rfl, _, rfl, .inl ⟨_, rfl, _, p.2, ?_, ?_, ?_⟩⟩
      · rw [List.length_map, List.length_take]
        exact small (by omega)
      · exact fun b o e => by
          rw [upd_ne (ne_of_none e hC)]
          exact p.1 b o e
      · rw [upd_same, List.take_add_one, List.getElem?_eq_getElem hlt, List.map_append]
        rfl
    · rw [List.length_map, List.take_length] at p
      obtain ⟨s1, hc⟩ := p
      refine ⟨.ref C, rfl, C, _, rfl, .inl (.inl (.inl hc)), rfl, _, rfl, ite2 (fun e => ?c1) (fun e => ?c2)⟩
      case' c1 =>
        have e0 : ns = [] := by
          have z : ((ns.map V.int).length : Int) = 0 := V.int.inj (of_decide_eq_true e)
          rw [List.length_map] at z
          exact List.length_eq_zero_iff.mp (by omega)
        subst e0
        refine ⟨.ref C, rfl, .inl ⟨rfl, _, .inl (.inl hc)⟩, C, _, _, rfl, rfl, hc, small (by decide), ?_⟩
        obtain ⟨H2, cs, hH, hcs, hcl, s2, hc2⟩ : ∃ (H2 : Hp) (cs : List Int), H2 = upd H1 C (.lst (List.map V.int [] ++ [.int 0])) ∧ cs ≠ [] ∧ cs.length ≤ 1000 ∧ Same H H2 ∧ H2 C = some (.lst (cs.map V.int)) :=
          ⟨_, [0], rfl, by simp, by decide, fun b o e => by rw [upd_ne (ne_of_none e hC)]; exact s1 b o e, upd_same⟩
        rw [← hH]
      case' c2 =>
        obtain ⟨H2, cs, hH, hcs, hcl, s2, hc2⟩ : ∃ (H2 : Hp) (cs : List Int), H2 = H1 ∧ cs ≠ [] ∧ cs.length ≤ 1000 ∧ Same H H2 ∧ H2 C = some (.lst (cs.map V.int)) :=
          ⟨H1, ns, rfl, fun z => by subst z; exact e (decide_eq_true rfl), hlen, s1, hc⟩
        rw [← hH]
      all_goals (
        have hcl0 : 0 < cs.length := by cases cs with | nil => exact absurd rfl hcs | cons x r => exact Nat.succ_pos _
        refine ⟨.ref C, rfl, C, _, rfl, .inl (.inl (.inl hc2)), fun r nr => ⟨Nat.zero_le _, fun D nD => ⟨.int m, rfl, m, rfl, by omega, by omega, ?_⟩⟩⟩
        have nrC : C ≠ r := ne_of_none hc2 nr
        have nDr : D ≠ r := fun e => by rw [e, upd_same] at nD; cases nD
        have nDC : C ≠ D := fun e => by rw [← e, upd_ne nrC, hc2] at nD; cases nD
        have nHD : H D = none := s2.free (by rw [upd_ne nDr] at nD; exact nD)
        have nHr : H r = none := s2.free nr
        refine for_range (lo := 0) (n := m) (fun i σ H3 => ∃ (y5 y6 y7 y8 : Option V) (rs ds : List Int), σ = [some (.ref a), some (.int m), some (.ref C), some (.ref r), some (.ref D), y5, y6, y7, y8] ∧
          Same H H3 ∧ H3 C = some (.lst (cs.map V.int)) ∧ H3 r = some (.lst (rs.map V.int)) ∧ rs.length = cs.length ∧ H3 D = some (.lst (ds.map V.int)) ∧ ds.length = i) ?_ (fun i σ H3 hi hp => ?_) (fun σ H3 hp => ?_)
        · refine ⟨none, none, none, none, cs, [], rfl, (s2.trans (same_new nr)).trans (same_new nD), ?_, ?_, rfl, upd_same, rfl⟩
          · rw [upd_ne nDC, upd_ne nrC]; exact hc2
          · rw [upd_ne nDr.symm, upd_same]
        · obtain ⟨y5, y6, y7, y8, rs, ds, rfl, s3, hC3, hr3, hrl, hD3, hdl⟩ := hp
          have e0 : (0 : Int) + (i : Int) = (i : Int) := by omega
          have hk0 : 0 ≤ ((0 : Int) + (i : Int)) % (cs.length : Int) := Int.emod_nonneg _ (by omega)
          have hk1 : ((0 : Int) + (i : Int)) % (cs.length : Int) < (cs.length : Int) := Int.emod_lt_of_pos _ (by omega)
          have hlenC : ((cs.map V.int).length : Int) = (cs.length : Int) := by rw [List.length_map]
          have hSC : SqL K H3 C (cs.map V.int) := .inl (.inl hC3)
          have hSr : SqL K H3 r (rs.map V.int) := .inl (.inl hr3)
          have more : ∀ (z : Int) (H4 : Hp), (∀ b o, H3 b = some o → b ≠ D → b ≠ r → H4 b = some o) → ∀ rs' : List Int, rs'.length = cs.length → H4 r = some (.lst (rs'.map V.int)) → H4 D = some (.lst (ds.map V.int ++ [.int z])) → ∀ y6 y7 : Option V,
              ∃ (z5 z6 z7 z8 : Option V) (rs ds : List Int), [some (.ref a), some (.int m), some (.ref C), some (.ref r), some (.ref D), some (.int ((0 : Int) + (i : Int))), y6, y7, y8] = [some (.ref a), some (.int m), some (.ref C), some (.ref r), some (.ref D), z5, z6, z7, z8] ∧
              Same H H4 ∧ H4 C = some (.lst (cs.map V.int)) ∧ H4 r = some (.lst (rs.map V.int)) ∧ rs.length = cs.length ∧ H4 D = some (.lst (ds.map V.int)) ∧ ds.length = i + 1 := fun z H4 k rs' hl' hr' hd' y6 y7 => by
            refine ⟨_, _, _, _, rs', ds ++ [z], rfl, fun b o e => k b o (s3 b o e) (ne_of_none e nHD) (ne_of_none e nHr), k C _ hC3 nDC nrC, hr', hl', ?_, ?_⟩
            · rw [hd', List.map_append]; rfl
            · rw [List.length_append, hdl]; rfl
          refine ⟨.int (0 + (i : Int)), rfl, .ref C, rfl, C, _, rfl, .inl hSC, _, _, rfl, rfl, by rw [hlenC]; omega, ?_⟩
          rw [hlenC]
          dsimp only
          generalize hkk : ((0 : Int) + (i : Int)) % (cs.length : Int) = kk at hk0 hk1 ⊢
          have hat : atI (cs.map V.int) kk = some (.int (cs[kk.toNat]'(by omega))) := atM_pos hk0 hk1
          have har : atI (rs.map V.int) kk = some (.int (rs[kk.toNat]'(by omega))) := atM_pos hk0 (by omega)
          generalize cs[kk.toNat]'(by omega) = cv at hat
          generalize rs[kk.toNat]'(by omega) = rv at har
          refine ⟨.ref C, rfl, .int kk, rfl, C, _, kk, _, rfl, rfl, hSC, hat, 10, 18, rfl, rfl, ⟨by decide, by decide, by decide⟩, _, _, rfl, rfl, _, rfl, ite2 (fun e => ?_) (fun e => ?_)⟩
          · have hge : (10 : Int) ^ (18 : Int).toNat ≤ cv := of_decide_eq_true e
            refine ⟨.ref D, rfl, .inl ⟨rfl, _, .inl (.inl hD3)⟩, .ref r, rfl, .int kk, rfl, r, _, kk, _, rfl, rfl, hSr, har, .inl ⟨_, rfl, _, _, rfl, rfl, (show (0 : Int) < 1000 by decide), D, _, _, rfl, rfl, hD3, ?_, ?_⟩⟩
            · rw [List.length_map]; exact small (by omega)
            · have nrD : r ≠ D := nDr.symm
              have hr4 : upd H3 D (.lst (ds.map V.int ++ [.int (rv % 1000)])) r = some (.lst (rs.map V.int)) := by rw [upd_ne nrD]; exact hr3
              have hj : ixN (rs.map V.int).length kk = some kk.toNat := by
                unfold ixN
                rw [if_pos hk0, if_pos (by rw [List.length_map]; omega)]
              refine ⟨.ref r, rfl, .int kk, rfl, r, _, kk, _, rfl, rfl, .inl (.inl hr4), har, _, _, rfl, rfl, ⟨by decide, by decide⟩, .ref r, rfl, .int kk, rfl, r, _, kk, _, rfl, rfl, hr4, hj, ?_⟩
              refine more (rv % 1000) _ (fun b o e n1 n2 => ?_) (rs.set kk.toNat (rv / 1000)) (by rw [List.length_set]; exact hrl) ?_ ?_ _ _
              · rw [upd_ne n2, upd_ne n1]; exact e
              · rw [upd_same, List.map_set]
              · rw [upd_ne nDr, upd_same]
          · refine ⟨.ref C, rfl, .int kk, rfl, C, _, kk, _, rfl, rfl, hSC, hat, _, _, rfl, rfl, .inr ⟨by decide, by decide⟩, .int (0 + (i : Int)), rfl, _, _, rfl, rfl, .inr ⟨by decide, by decide⟩, _, _, rfl, rfl, _, _, rfl, rfl, .inl ⟨_, rfl, _, _, rfl, rfl, (show (0 : Int) < 2147483647 by decide), ?_⟩⟩
            have o0 : 0 ≤ (cv * 48271 + (0 + (i : Int)) * 69621 + 11) % 2147483647 := Int.emod_nonneg _ (by decide)
            have o1 : (cv * 48271 + (0 + (i : Int)) * 69621 + 11) % 2147483647 < 2147483647 := Int.emod_lt_of_pos _ (by decide)
            dsimp only
            generalize (cv * 48271 + (0 + (i : Int)) * 69621 + 11) % 2147483647 = on at o0 o1 ⊢
            refine ⟨.ref D, rfl, .inl ⟨rfl, _, .inl (.inl hD3)⟩, .int on, rfl, .int on, rfl, _, _, rfl, rfl, .inl ⟨by omega, by omega⟩, .int on, rfl, _, _, rfl, rfl, .inl ⟨by decide, by decide⟩, _, _, rfl, rfl, .int (0 + (i : Int)), rfl, _, _, rfl, rfl, .inl ⟨_, rfl, _, _, rfl, rfl, (show (0 : Int) < 1000003 by decide), D, _, _, rfl, rfl, hD3, ?_, ?_⟩⟩
            · rw [List.length_map]; exact small (by omega)
            · exact more _ _ (fun b o e n1 n2 => by rw [upd_ne n1]; exact e) rs hrl (by rw [upd_ne nDr.symm]; exact hr3) upd_same _ _
        · obtain ⟨y5, y6, y7, y8, rs, ds, rfl, s3, hC3, hr3, hrl, hD3, hdl⟩ := hp
          refine ⟨.ref D, rfl, .inl ⟨rfl, _, .inl (.inl hD3)⟩, D, _, rfl, rfl, hD3, .ref D, rfl, ?_⟩
          refine q _ D (fun b o e => ?_) nHD ⟨ds.reverse, ?_⟩
          · rw [upd_ne (ne_of_none e nHD)]; exact s3 b o e
          · rw [upd_same, List.map_reverse])
end
def sp_l_take (K : PySem.W.Frag) : Sp := fun vs H Q _ => ∃ (d : Addr) (m : Int), vs = [.ref d, .int m] ∧ DrA H d ∧ 0 < m ∧ ∀ H' r, Dr d H H' → 0 ≤ r → r < m → Q (.int r) H'
section
variable {P : Program} {w : World} {K : PySem.W.Frag} {mg : Str → Option Value} {base : Heap}
theorem ok_l_take (T : Ctx K mg) : FnOk P w K mg base CX0 1 T.f_l_take T.fd_l_take ["draws", "many"] (sp_l_take K) := by
  refine T.F_l_take.ok sc_l_take (fun vs H Q E h => ?_) (fun cdv A outer s H vs Q E hr h => ?_)
  · obtain ⟨d, m, rfl, _⟩ := h
    rfl
  · obtain ⟨d, m, rfl, ⟨ns, hd⟩, hm, q⟩ := h
    refine ⟨_, (pss_cons (ps_if (pt_cmpR op_eq (pe_callB call_len_seq (by rfl) T.m_len (by decide +kernel) (pa_cons (pv 0) pa_nil)) pe_int (nomark _))
        (pss_one (ps_ret pe_int))
        pss_nil)
      (pss_one (ps_ret (pe_op op_mod (pe_callTy call_int1 (by rfl) T.m_int (by decide +kernel) (pa_cons (pe_bm0 PySem.F.plainAttrs_list PySem.F.slot_list_pop PySem.F.type_list_pop mt_pop (pv 0)) pa_nil)) (pv 1))))), ?_⟩
    have hS : SqL K H d (ns.map V.int) := .inl (.inl hd)
    refine ⟨.ref d, rfl, d, _, rfl, .inl hS, rfl, _, rfl, ite2 (fun e => ?_) (fun e => ?_)⟩
    · exact q H 0 ⟨fun _ _ _ h => h, ns, hd⟩ (Int.le_refl 0) hm
    · have hne : ns ≠ [] := fun z => by
        subst z
        exact e (decide_eq_true rfl)
      have hl : (ns.map V.int)[(ns.map V.int).length - 1]? = some (.int (ns.getLast hne)) := by
        rw [List.getElem?_map, List.length_map, at_last hne]
        rfl
      refine ⟨.ref d, rfl, .inl ⟨rfl, _, hS⟩, d, _, _, rfl, rfl, hd, hl, .inl ⟨_, rfl, .int m, rfl, _, _, rfl, rfl, hm, ?_⟩⟩
      rw [← List.map_dropLast]
      exact q _ _ (dr_upd _) (Int.emod_nonneg _ (by omega)) (Int.emod_lt_of_pos _ hm)
end
/-- the word of a number, sign by sign -/
def wcps : Nat → Int → List Nat → List Nat
  | 0, _, acc => acc
  | f + 1, n, acc => if n < 1 then acc else wcps f ((n - 1) / 26) ((97 + ((n - 1) % 26).toNat) :: acc)
def wordS (n : Int) : Str := ⟨(wcps 60 n []).toArray⟩
theorem wcps_stop : ∀ (f : Nat) (n : Int) (acc : List Nat), n < 1 → wcps f n acc = acc
  | 0, _, _, _ => rfl
  | f + 1, n, acc, h => by
    show (if n < 1 then acc else _) = acc
    rw [if_pos h]
def abc : Str := "abcdefghijklmnopqrstuvwxyz"
theorem abc_at : ∀ j : Nat, j < 26 → abc.cps.toList[j]? = some (97 + j) := by decide +kernel
theorem abc_len : abc.cps.toList.length = 26 := by decide +kernel
theorem wcps_isW : ∀ (f : Nat) (n : Int) (acc : List Nat), (∀ c ∈ acc, 97 ≤ c ∧ c ≤ 122) → (∀ c ∈ wcps f n acc, 97 ≤ c ∧ c ≤ 122) ∧ (wcps f n acc).length ≤ f + acc.length ∧ (acc ≠ [] → wcps f n acc ≠ [])
  | 0, n, acc, h => ⟨h, by show acc.length ≤ _; omega, fun z => z⟩
  | f + 1, n, acc, h => by
    by_cases c : n < 1
    · rw [wcps_stop _ _ _ c]
      exact ⟨h, by omega, fun z => z⟩
    · have e : wcps (f + 1) n acc = wcps f ((n - 1) / 26) ((97 + ((n - 1) % 26).toNat) :: acc) := if_neg c
      have h0 : 0 ≤ (n - 1) % 26 := Int.emod_nonneg _ (by decide)
      have h1 : (n - 1) % 26 < 26 := Int.emod_lt_of_pos _ (by decide)
      obtain ⟨a, b, d⟩ := wcps_isW f ((n - 1) / 26) ((97 + ((n - 1) % 26).toNat) :: acc) (fun x hx => by
        rcases List.mem_cons.mp hx with z | z
        · omega
        · exact h x z)
      rw [e]
      exact ⟨a, by simp only [List.length_cons] at b; omega, fun _ => d (List.cons_ne_nil _ _)⟩
theorem wordS_isW {n : Int} (h : 1 ≤ n) : IsW (wordS n) := by
  have e : wcps 60 n [] = wcps 59 ((n - 1) / 26) [97 + ((n - 1) % 26).toNat] := if_neg (by omega)
  have h0 : 0 ≤ (n - 1) % 26 := Int.emod_nonneg _ (by decide)
  have h1 : (n - 1) % 26 < 26 := Int.emod_lt_of_pos _ (by decide)
  obtain ⟨a, b, d⟩ := wcps_isW 59 ((n - 1) / 26) [97 + ((n - 1) % 26).toNat] (fun x hx => by
    rw [List.mem_singleton.mp hx]
    omega)
  rw [← e] at a b d
  refine ⟨by simpa [wordS] using d (by simp), by simpa [wordS] using a, ?_⟩
  show (wcps 60 n []).toArray.size ≤ 200
  simp only [List.size_toArray]
  simp only [List.length_cons, List.length_nil] at b
  omega
def sp_l_word (K : PySem.W.Frag) : Sp := fun vs H Q _ => ∃ n : Int, vs = [.int n] ∧ Q (.str (wordS n)) H
section
variable {P : Program} {w : World} {K : PySem.W.Frag} {mg : Str → Option Value} {base : Heap}
theorem ok_l_word (T : Ctx K mg) : FnOk P w K mg base CX0 1 T.f_l_word T.fd_l_word ["number"] (sp_l_word K) := by
  refine T.F_l_word.ok sc_l_word (fun vs H Q E h => ?_) (fun cdv A outer s H vs Q E hr h => ?_)
  · obtain ⟨n, rfl, _⟩ := h
    rfl
  · obtain ⟨n, rfl, q⟩ := h
    refine ⟨_, (pss_cons (ps_set (i := 1) sc_l_word.nd rfl (.inl rfl) pe_str)
      (pss_cons (ps_for PassesOwn.never rfl (pi_range1 (by rfl) T.m_range (pa_cons pe_int pa_nil)) (pg_name (i := 2) sc_l_word.nd rfl (.inl rfl))
        (pss_cons (ps_if (pt_cmpR op_lt (pv 0) pe_int (nomark _))
        (pss_one ps_break)
        pss_nil)
      (pss_cons (ps_set (i := 1) sc_l_word.nd rfl (.inl rfl) (pe_op op_add_str (pe_ix ix_str pe_str (pe_op op_mod (pe_callTy call_int1 (by rfl) T.m_int (by decide +kernel) (pa_cons (pe_op op_sub (pv 0) pe_int) pa_nil)) pe_int) (fun _ _ => rfl)) (pv 1)))
      (pss_one (ps_set (i := 0) sc_l_word.nd rfl (.inl rfl) (pe_op op_fdiv (pe_op op_sub (pv 0) pe_int) pe_int))))))
      (pss_one (ps_ret (pv 1))))), ?_⟩
    refine ⟨60, rfl, by decide, by decide, ?_⟩
    refine for_range (lo := 0) (n := 60) (fun i σ H3 => ∃ (m : Int) (acc : List Nat) (y2 : Option V), σ = [some (.int m), some (.str ⟨acc.toArray⟩), y2] ∧ H3 = H ∧ wcps 60 n [] = wcps (60 - i) m acc ∧ acc.length ≤ i) ⟨n, [], none, rfl, rfl, rfl, Nat.le_refl 0⟩ (fun i σ H3 hi hp => ?_) (fun σ H3 hp => ?_)
    · obtain ⟨m, acc, y2, rfl, rfl, hw, hl⟩ := hp
      refine ⟨.int m, rfl, _, _, rfl, rfl, _, rfl, ite2 (fun e => ?_) (fun e => ?_)⟩
      · have hm : m < 1 := of_decide_eq_true e
        rw [wcps_stop _ _ _ hm] at hw
        refine ⟨.str ⟨acc.toArray⟩, rfl, ?_⟩
        rw [← hw]
        exact q
      · have hm : ¬ m < 1 := fun z => e (decide_eq_true z)
        have h0 : 0 ≤ (m - 1) % 26 := Int.emod_nonneg _ (by decide)
        have h1 : (m - 1) % 26 < 26 := Int.emod_lt_of_pos _ (by decide)
        have hat : atI abc.cps.toList ((m - 1) % 26) = some (97 + ((m - 1) % 26).toNat) := by
          have ez : (m - 1) % 26 = (((m - 1) % 26).toNat : Int) := by omega
          have q := abc_at ((m - 1) % 26).toNat (by omega)
          rw [ez]
          exact atI_nat q
        refine ⟨.int m, rfl, _, _, rfl, rfl, .inl ⟨_, rfl, _, _, rfl, rfl, (show (0 : Int) < 26 by decide), abc, _, _, rfl, rfl, by decide +kernel, hat, .str ⟨acc.toArray⟩, rfl, _, _, rfl, rfl, ?_, .int m, rfl, _, _, rfl, rfl, _, _, rfl, rfl, ⟨by decide, by decide⟩, ?_⟩⟩
        · show 1 + acc.toArray.size ≤ sizeLine
          have : acc.toArray.size = acc.length := by simp
          rw [this]
          exact small' (by omega)
        · refine ⟨(m - 1) / 26, (97 + ((m - 1) % 26).toNat) :: acc, some (.int (0 + (i : Int))), ?_, rfl, ?_, by simp only [List.length_cons]; omega⟩
          · have ea : (⟨#[97 + ((m - 1) % 26).toNat]⟩ : Str) ++ ⟨acc.toArray⟩ = ⟨((97 + ((m - 1) % 26).toNat) :: acc).toArray⟩ := by
              show Str.mk (#[97 + ((m - 1) % 26).toNat] ++ acc.toArray) = _
              congr 1
              simp
            rw [ea]
            rfl
          · rw [hw]
            have ef : 60 - i = (60 - (i + 1)) + 1 := by omega
            rw [ef]
            show (if m < 1 then acc else _) = _
            rw [if_neg hm]
    · obtain ⟨m, acc, y2, rfl, rfl, hw, hl⟩ := hp
      refine ⟨.str ⟨acc.toArray⟩, rfl, ?_⟩
      have e : wordS n = ⟨acc.toArray⟩ := by
        unfold wordS
        rw [hw]
        rfl
      rw [← e]
      exact q
end
/-- a meter of a plan of this law -/
def Mt85 (m : Mt) : Prop := m.low ≤ m.high ∧ 0 ≤ m.err ∧ m.err ≤ 60
theorem wordS_len (n : Int) : (wordS n).length ≤ 60 := by
  show (wcps 60 n []).toArray.size ≤ 60
  simp only [List.size_toArray]
  have h := (wcps_isW 60 n [] (fun _ z => nomatch z)).2.1
  simpa using h
theorem cut_len3 (z : Str) (lo hi : Option Int) : (cutS z lo hi).length ≤ z.length := by
  show (((z.cps.toList.drop _).take _).toArray).size ≤ z.cps.size
  rw [List.size_toArray, List.length_take, List.length_drop, Array.length_toList]
  omega
theorem mts_lst {H : Hp} {M : Addr} {xs ys : List V} (hM : H M = some (.lst xs)) {ts : List Addr} {ms : List Mt} (hp : Paired (MtAt H) ts ms) : Paired (MtAt (upd H M (.lst ys))) ts ms := L2.Paired.mapP hp fun b m y => by
  show upd H M (.lst ys) b = _
  rw [upd_ne (ne_of y hM (fun z => nomatch z))]
  exact y
def sp_l_plan (K : PySem.W.Frag) : Sp := fun vs H Q _ => ∃ (a d : Addr) (sc : List Int) (m : Int), vs = [.ref a, .ref d, .int m] ∧ (∀ H', Dr d H H' → SqL K H' a (sc.map V.int)) ∧ DrA H d ∧ 1 ≤ m ∧ m ≤ 2 ∧
  ∀ H' p tm ts P, Dr d H H' → PlanAt H' p tm ts P → 1 ≤ P.len → P.len ≤ 60 → P.ms ≠ [] → P.ms.length ≤ 2 → (∀ m ∈ P.ms, Mt85 m) → Q (.ref p) H'
section
variable {P : Program} {w : World} {K : PySem.W.Frag} {mg : Str → Option Value} {base : Heap}
set_option pp.maxSteps 400 in
set_option maxHeartbeats 2000000 in
theorem ok_l_plan (T : Ctx K mg) : FnOk P w K mg base CX0 2 T.f_l_plan T.fd_l_plan ["script", "draws", "most"] (sp_l_plan K) := by
  refine T.F_l_plan.ok sc_l_plan (fun vs H Q E h => ?_) (fun cdv A outer s H vs Q E hr h => ?_)
  · obtain ⟨a, d, sc, m, rfl, _⟩ := h
    rfl
  · obtain ⟨a, d, sc, m, rfl, hS, hd, m1, m2, q⟩ := h
    refine ⟨_, (pss_cons (ps_set (i := 3) sc_l_plan.nd rfl (.inl rfl) (pe_op op_add pe_int (pe_call (ok_l_take T) (hr.mono (by decide)) (by rfl) T.g_l_take T.F_l_take.kp T.b_l_take .nil pass0 (pa_cons (pv 1) (pa_cons pe_int pa_nil)))))
      (pss_cons (ps_set (i := 4) sc_l_plan.nd rfl (.inl rfl) (pe_op op_add pe_int (pe_call (ok_l_take T) (hr.mono (by decide)) (by rfl) T.g_l_take T.F_l_take.kp T.b_l_take .nil pass0 (pa_cons (pv 1) (pa_cons pe_int pa_nil)))))
      (pss_cons (ps_set (i := 5) sc_l_plan.nd rfl (.inl rfl) (pe_call (ok_l_take T) (hr.mono (by decide)) (by rfl) T.g_l_take T.F_l_take.kp T.b_l_take .nil pass0 (pa_cons (pv 1) (pa_cons pe_int pa_nil))))
      (pss_cons (ps_set (i := 6) sc_l_plan.nd rfl (.inl rfl) (pe_lst pa_nil))
      (pss_cons (ps_for PassesOwn.never rfl (pi_range1 (by rfl) T.m_range (pa_cons (pe_op op_add pe_int (pe_call (ok_l_take T) (hr.mono (by decide)) (by rfl) T.g_l_take T.F_l_take.kp T.b_l_take .nil pass0 (pa_cons (pv 1) (pa_cons (pv 2) pa_nil)))) pa_nil)) (pg_name (i := 7) sc_l_plan.nd rfl (.inl rfl))
        (pss_cons (ps_set (i := 8) sc_l_plan.nd rfl (.inl rfl) (pe_op op_sub (pe_call (ok_l_take T) (hr.mono (by decide)) (by rfl) T.g_l_take T.F_l_take.kp T.b_l_take .nil pass0 (pa_cons (pv 1) (pa_cons pe_int pa_nil))) pe_int))
      (pss_cons (ps_if (PW.pt (pw_and (pt_cmpR op_eq (pe_call (ok_l_take T) (hr.mono (by decide)) (by rfl) T.g_l_take T.F_l_take.kp T.b_l_take .nil pass0 (pa_cons (pv 1) (pa_cons pe_int pa_nil))) pe_int (nomark _)) (pw_and1 (pt_cmpR op_gt (pe_callB call_len_seq (by rfl) T.m_len (by decide +kernel) (pa_cons (pv 0) pa_nil)) pe_int (nomark _)))))
        (pss_one (ps_set (i := 8) sc_l_plan.nd rfl (.inl rfl) (pe_callTy call_int1 (by rfl) T.m_int (by decide +kernel) (pa_cons (pe_ix ix_list (pv 0) (pe_op op_mod (pe_callTy call_int1 (by rfl) T.m_int (by decide +kernel) (pa_cons (pv 8) pa_nil)) (pe_callB call_len_seq (by rfl) T.m_len (by decide +kernel) (pa_cons (pv 0) pa_nil))) (fun _ _ => rfl)) pa_nil))))
        pss_nil)
      (pss_cons (ps_set (i := 9) sc_l_plan.nd rfl (.inl rfl) (pe_ix ix_list (pe_lst (pa_cons pe_int (pa_cons pe_int (pa_cons pe_int (pa_cons pe_int (pa_cons pe_int (pa_cons pe_int pa_nil))))))) (pe_call (ok_l_take T) (hr.mono (by decide)) (by rfl) T.g_l_take T.F_l_take.kp T.b_l_take .nil pass0 (pa_cons (pv 1) (pa_cons pe_int pa_nil))) (fun _ _ => rfl)))
      (pss_cons (ps_set (i := 10) sc_l_plan.nd rfl (.inl rfl) (pe_call (ok_l_word T) (hr.mono (by decide)) (by rfl) T.g_l_word T.F_l_word.kp T.b_l_word .nil pass0 (pa_cons (pe_op op_add (pv 3) (pe_op op_mul (pv 4) (pv 7))) pa_nil)))
      (pss_cons (ps_if (pt_cmpR op_eq (pv 5) pe_int (nomark _))
        (pss_one (ps_set (i := 10) sc_l_plan.nd rfl (.inl rfl) (pe_op op_add_str (pe_call (ok_l_word T) (hr.mono (by decide)) (by rfl) T.g_l_word T.F_l_word.kp T.b_l_word .nil pass0 (pa_cons (pv 3) pa_nil)) (pe_slice sl_str pe_str po_none (po_some (pv 7))))))
        pss_nil)
      (pss_one (ps_expr (pe_bm PySem.F.plainAttrs_list PySem.F.slot_list_append PySem.F.type_list_append mt_append (pv 6) (pa_cons (pe_tup (pa_cons (pv 10) (pa_cons (pv 8) (pa_cons (pe_op op_add (pv 8) (pv 9)) (pa_cons (pe_ix ix_list (pe_lst (pa_cons pe_int (pa_cons pe_int (pa_cons pe_int (pa_cons pe_int (pa_cons pe_int pa_nil)))))) (pe_call (ok_l_take T) (hr.mono (by decide)) (by rfl) T.g_l_take T.F_l_take.kp T.b_l_take .nil pass0 (pa_cons (pv 1) (pa_cons pe_int pa_nil))) (fun _ _ => rfl)) pa_nil))))) pa_nil))))))))))
      (pss_one (ps_ret (pe_tup (pa_cons (pe_ix ix_list (pe_lst (pa_cons pe_int (pa_cons pe_int (pa_cons pe_int (pa_cons pe_int (pa_cons pe_int pa_nil)))))) (pe_call (ok_l_take T) (hr.mono (by decide)) (by rfl) T.g_l_take T.F_l_take.kp T.b_l_take .nil pass0 (pa_cons (pv 1) (pa_cons pe_int pa_nil))) (fun _ _ => rfl)) (pa_cons (pe_callTy call_tuple_of (by rfl) T.m_tuple (by decide +kernel) (pa_cons (pe_callB Row4.cr_sortRows (by rfl) T.m_sorted (by decide +kernel) (pa_cons (pv 6) pa_nil)) pa_nil)) pa_nil)))))))))), ?_⟩
    refine ⟨.ref d, rfl, d, _, rfl, hd, by decide, fun H1 f r1 f0 f1 => ⟨_, _, rfl, rfl, ?_⟩⟩
    refine ⟨.ref d, rfl, d, _, rfl, r1.at_, by decide, fun H2 st r2 st0 st1 => ⟨_, _, rfl, rfl, ?_⟩⟩
    refine ⟨.ref d, rfl, d, _, rfl, r2.at_, by decide, fun H3 ne r3 ne0 ne1 => ⟨small' (n := 0) (by decide), fun M nM => ?_⟩⟩
    dsimp only
    have r03 := (r1.trans r2).trans r3
    have nMd := r03.ne nM
    have nHM : H M = none := r03.free hd nM
    have q4 := r03.then (same_new (o := .lst []) nM)
    refine ⟨.ref d, rfl, .int m, rfl, d, _, rfl, q4.at_, by omega, fun H4 kk r4 k0 k1 => ⟨_, _, rfl, rfl, _, rfl, by omega, by omega, ?_⟩⟩
    have q5 := q4.trans r4
    refine for_range (lo := 0) (n := (1 + kk).toNat) (fun i σ H' => ∃ (y7 y8 y9 y10 : Option V) (us : List Addr) (ms : List Mt), σ = [some (.ref a), some (.ref d), some (.int m), some (.int (1 + f)), some (.int (1 + st)), some (.int ne), some (.ref M), y7, y8, y9, y10] ∧ Dr d H H' ∧ H' M = some (.lst (us.map V.ref)) ∧ Paired (MtAt H') us ms ∧ (∀ x ∈ ms, Mt85 x) ∧ us.length = i)
      ⟨none, none, none, none, [], [], rfl, q5, r4.keep _ _ nMd upd_same, .nil, (fun _ z => nomatch z), rfl⟩ (fun i σ H' hi hp => ?_) (fun σ H' hp => ?_)
    · obtain ⟨y7, y8, y9, y10, us, ms, rfl, r5, hM5, hp5, ok5, ul⟩ := hp
      have i2 : i < 2 := by omega
      refine ⟨.ref d, rfl, d, _, rfl, r5.at_, by decide, fun H6 x r6 x0 x1 => ⟨_, _, rfl, rfl, ?_⟩⟩
      refine ⟨.ref d, rfl, d, _, rfl, r6.at_, by decide, fun H7 y r7 y0 y1 => ?_⟩
      have r57 := r6.trans r7
      have sq7 := hS _ (r5.trans r57)
      refine ⟨rfl, _, rfl, ite2 (fun e => ⟨.ref a, rfl, a, _, rfl, .inl sq7, _, _, rfl, rfl, _, rfl, ite2 (fun e2 => ?c1) (fun e2 => ?c2)⟩) (fun e => ?c3)⟩
      case' c1 =>
        have pos : (0 : Int) < ((sc.map V.int).length : Int) := of_decide_eq_true e2
        have hz0 : 0 ≤ (x - 3) % ((sc.map V.int).length : Int) := Int.emod_nonneg _ (by omega)
        have hz1 : (x - 3) % ((sc.map V.int).length : Int) < (sc.length : Int) := by
          have := Int.emod_lt_of_pos (x - 3) pos
          rw [List.length_map] at this ⊢
          exact this
        refine ⟨.ref a, rfl, .int (x - 3), rfl, .inl ⟨_, rfl, .ref a, rfl, a, _, rfl, .inl sq7, _, _, rfl, rfl, pos, a, _, _, _, rfl, rfl, sq7, atM_pos hz0 hz1, .inl ⟨_, rfl, ?_⟩⟩⟩
        obtain ⟨lw, el⟩ : ∃ lw : Int, lw = sc[((x - 3) % ((sc.map V.int).length : Int)).toNat]'(by omega) := ⟨_, rfl⟩
        rw [← el]
      case' c2 =>
        obtain ⟨lw, el⟩ : ∃ lw : Int, lw = x - 3 := ⟨_, rfl⟩
        dsimp only
        rw [← el]
      case' c3 =>
        obtain ⟨lw, el⟩ : ∃ lw : Int, lw = x - 3 := ⟨_, rfl⟩
        dsimp only
        rw [← el]
      all_goals (
        clear el
        have r07 := r5.trans r57
        have hM7 := r7.keep _ _ nMd (r6.keep _ _ nMd hM5)
        have hp7 := r7.mts r6.at_ (r6.mts r5.at_ hp5)
        refine ⟨small' (n := 6) (by decide), fun pw npw => ?_⟩
        have npwd := r07.ne npw
        have kw := same_new (o := .lst [.int 0, .int 1, .int 1, .int 2, .int 5, .int 40]) npw
        have q8 := r07.then kw
        refine ⟨.ref d, rfl, d, _, rfl, q8.at_, by decide, fun H9 z r9 z0 z1 => ?_⟩
        have h9 : H9 pw = some (.lst [.int 0, .int 1, .int 1, .int 2, .int 5, .int 40]) := r9.keep _ _ npwd upd_same
        obtain ⟨wd, wm, wa⟩ := pick (xs := [0, 1, 1, 2, 5, 40]) (vs := [.int 0, .int 1, .int 1, .int 2, .int 5, .int 40]) (k := z) rfl z0 (by show z < 6; omega)
        have w0 : 0 ≤ wd := by
          simp only [List.mem_cons, List.not_mem_nil, or_false] at wm
          omega
        refine ⟨pw, _, z, _, rfl, rfl, .inl (.inl h9), wa, ?_⟩
        have q9 := q8.trans r9
        have hM9 := r9.keep _ _ nMd (kw _ _ hM7)
        have hp9 := r9.mts q8.at_ (same_mts kw hp7)
        refine ⟨.int (1 + f), rfl, .int (1 + st), rfl, .int (0 + (i : Int)), rfl, _, _, rfl, rfl, .inl ⟨by omega, by omega⟩, _, _, rfl, rfl, _, rfl, ?_⟩
        have l1 := wordS_len (1 + f)
        have l2 := cut_len3 "bab" none (some (0 + (i : Int)))
        have l3 : (("bab" : Str)).length ≤ 10 := by decide +kernel
        have l4 : (("bab" : Str)).length ≤ sizeLine := by decide +kernel
        refine ⟨.int ne, rfl, rfl, _, rfl, ite2 (fun e3 => ⟨.int (1 + f), rfl, _, rfl, .int (0 + (i : Int)), rfl, _, rfl, "bab", rfl, l4, _, _, rfl, rfl, small' (by omega), ?_⟩) (fun e3 => ?_)⟩
        all_goals first
          | (obtain ⟨nm, en⟩ : ∃ nm : Str, nm = wordS (1 + f) ++ cutS "bab" none (some (0 + (i : Int))) := ⟨_, rfl⟩
             rw [← en])
          | (obtain ⟨nm, en⟩ : ∃ nm : Str, nm = wordS (1 + f + (1 + st) * (0 + (i : Int))) := ⟨_, rfl⟩
             dsimp only
             rw [← en])
          | (obtain ⟨nm, en⟩ : ∃ nm : Str, nm = wordS (1 + f + (1 + st) * (0 + (i : Int))) := ⟨_, rfl⟩
             rw [← en])
        all_goals (
          clear en
          refine ⟨.ref M, rfl, .inl ⟨rfl, _, .inl (.inl hM9)⟩, .str nm, rfl, .int lw, rfl, .int lw, rfl, .int wd, rfl, _, _, rfl, rfl, small' (n := 5) (by decide), fun pe npe => ?_⟩
          have nped := q9.ne npe
          have ke := same_new (o := .lst [.int 0, .int 0, .int 1, .int 2, .int 7]) npe
          have q10 := q9.then ke
          refine ⟨.ref d, rfl, d, _, rfl, q10.at_, by decide, fun H11 u r11 u0 u1 => ?_⟩
          have h11 : H11 pe = some (.lst [.int 0, .int 0, .int 1, .int 2, .int 7]) := r11.keep _ _ nped upd_same
          obtain ⟨ev, em, ea⟩ := pick (xs := [0, 0, 1, 2, 7]) (vs := [.int 0, .int 0, .int 1, .int 2, .int 7]) (k := u) rfl u0 (by show u < 5; omega)
          have evB : 0 ≤ ev ∧ ev ≤ 60 := by
            simp only [List.mem_cons, List.not_mem_nil, or_false] at em
            omega
          refine ⟨pe, _, u, _, rfl, rfl, .inl (.inl h11), ea, small' (n := 4) (by decide), fun t nt => ?_⟩
          have kt := same_new (o := .tup [.str nm, .int lw, .int (lw + wd), .int ev]) nt
          have hM12 := kt _ _ (r11.keep _ _ nMd (ke _ _ hM9))
          have hp12 := same_mts kt (r11.mts q10.at_ (same_mts ke hp9))
          refine ⟨M, _, _, rfl, rfl, hM12, by rw [List.length_map]; exact small (by omega), _, _, _, _, us ++ [t], ms ++ [⟨nm, lw, lw + wd, ev⟩], rfl, ((q10.trans r11).then kt).keepNew nMd nHM, by rw [upd_same, map_snoc], (mts_lst hM12 hp12).snoc ?_, fun y hy => ?_, by rw [List.length_append, ul]; rfl⟩
          · show upd _ M _ t = _
            rw [upd_ne (fun z => by rw [z, upd_same] at hM12; cases hM12)]
            exact upd_same
          · rcases List.mem_append.mp hy with z | z
            · exact ok5 y z
            · rw [List.mem_singleton.mp z]
              exact ⟨by show lw ≤ lw + wd; omega, evB.1, evB.2⟩))
    · obtain ⟨y7, y8, y9, y10, us, ms, rfl, r5, hM5, hp5, ok5, ul⟩ := hp
      refine ⟨small' (n := 5) (by decide), fun pl npl => ?_⟩
      have npld := r5.ne npl
      have kl := same_new (o := .lst [.int 1, .int 2, .int 5, .int 10, .int 60]) npl
      have q6 := r5.then kl
      refine ⟨.ref d, rfl, d, _, rfl, q6.at_, by decide, fun H7 u r7 u0 u1 => ?_⟩
      have h7 : H7 pl = some (.lst [.int 1, .int 2, .int 5, .int 10, .int 60]) := r7.keep _ _ npld upd_same
      obtain ⟨lv, lm, la⟩ := pick (xs := [1, 2, 5, 10, 60]) (vs := [.int 1, .int 2, .int 5, .int 10, .int 60]) (k := u) rfl u0 (by show u < 5; omega)
      have lvB : 1 ≤ lv ∧ lv ≤ 60 := by
        simp only [List.mem_cons, List.not_mem_nil, or_false] at lm
        omega
      have hM7 := r7.keep _ _ nMd (kl _ _ hM5)
      have hp7 := r7.mts q6.at_ (same_mts kl hp5)
      refine ⟨pl, _, u, _, rfl, rfl, .inl (.inl h7), la, .ref M, rfl, M, _, rfl, .inl (.inl hM7), fun v hv => ?_, fun ys S pm nS => ?_⟩
      · obtain ⟨x, hx, rfl⟩ := List.mem_map.mp hv
        exact ⟨x, _, [_, _, _], rfl, .inl (.inl ((mts_map hp7).2 x hx))⟩
      obtain ⟨vs, rfl, pv⟩ := refs_perm pm
      have r57 := q6.trans r7
      refine ⟨S, _, rfl, .inl ⟨.inl (.inl upd_same), fun tq ntq => ⟨small' (n := 2) (by decide), fun p2 n2 => ?_⟩⟩⟩
      have k1 := same_new (o := .lst (vs.map V.ref)) nS
      have k2 := same_new (o := .tup (vs.map V.ref)) ntq
      have k3 := same_new (o := .tup [.int lv, .ref tq]) n2
      have hp8 := same_mts ((k1.trans k2).trans k3) hp7
      have sub : ∀ x ∈ vs, x ∈ us := fun x hx => pv.mem_iff.mp hx
      have vl : vs.length = us.length := pv.length_eq
      refine q _ p2 tq vs ⟨lv, vs.map (mtOf _)⟩ ((r57.then (k1.trans k2)).then k3) ⟨upd_same, k3 _ _ upd_same, mts_of vs fun x hx => (mts_map hp8).2 x (sub x hx)⟩ lvB.1 lvB.2 (fun z => ?_) ?_ fun x hx => ?_
      · have z' := congrArg List.length (List.map_eq_nil_iff.mp z)
        rw [vl, ul] at z'
        have z'' : (1 + kk).toNat = 0 := z'
        omega
      · show (vs.map _).length ≤ 2
        rw [List.length_map, vl, ul]
        omega
      · obtain ⟨y, hy, rfl⟩ := List.mem_map.mp hx
        refine ok5 _ ?_
        rw [(mts_map hp8).1]
        exact List.mem_map_of_mem (sub y hy)
end
/-- a slot of this law -/
def Sl85 (x : Sl) : Prop := x.vers ≠ [] ∧ x.vers.length ≤ 24
def sp_l_slots (K : PySem.W.Frag) : Sp := fun vs H Q _ => ∃ (a d t : Addr) (sc : List Int) (m : Mt) (most : Int), vs = [.ref a, .ref d, .ref t, .int most] ∧ (∀ H', Dr d H H' → SqL K H' a (sc.map V.int)) ∧ DrA H d ∧ MtAt H t m ∧ m.low ≤ m.high ∧ 0 ≤ most ∧ most ≤ 5 ∧
  ∀ H' tt us xs, Dr d H H' → H' tt = some (.tup (us.map V.ref)) → Paired (SlAt H') us xs → (∀ x ∈ xs, Sl85 x) → us.length ≤ 5 → Q (.ref tt) H'
section
variable {P : Program} {w : World} {K : PySem.W.Frag} {mg : Str → Option Value} {base : Heap}
set_option pp.maxSteps 400 in
set_option maxHeartbeats 2000000 in
theorem ok_l_slots (T : Ctx K mg) : FnOk P w K mg base CX0 2 T.f_l_slots T.fd_l_slots ["script", "draws", "meter", "most"] (sp_l_slots K) := by
  refine T.F_l_slots.ok sc_l_slots (fun vs H Q E h => ?_) (fun cdv A outer s H vs Q E hr h => ?_)
  · obtain ⟨a, d, t, sc, m, most, rfl, _⟩ := h
    rfl
  · obtain ⟨a, d, t, sc, m, most, rfl, hS, hd, hm, mo, m0, m5, q⟩ := h
    refine ⟨_, (pss_cons (ps_set (i := 4) sc_l_slots.nd rfl (.inl rfl) (pe_op op_sub (pe_call (ok_l_take T) (hr.mono (by decide)) (by rfl) T.g_l_take T.F_l_take.kp T.b_l_take .nil pass0 (pa_cons (pv 1) (pa_cons pe_int pa_nil))) pe_int))
      (pss_cons (ps_if (PW.pt (pw_and (pt_cmpR op_eq (pe_call (ok_l_take T) (hr.mono (by decide)) (by rfl) T.g_l_take T.F_l_take.kp T.b_l_take .nil pass0 (pa_cons (pv 1) (pa_cons pe_int pa_nil))) pe_int (nomark _)) (pw_and1 (pt_cmpR op_gt (pe_callB call_len_seq (by rfl) T.m_len (by decide +kernel) (pa_cons (pv 0) pa_nil)) pe_int (nomark _)))))
        (pss_one (ps_set (i := 4) sc_l_slots.nd rfl (.inl rfl) (pe_callTy call_int1 (by rfl) T.m_int (by decide +kernel) (pa_cons (pe_ix ix_list (pv 0) (pe_op op_mod (pe_callTy call_int1 (by rfl) T.m_int (by decide +kernel) (pa_cons (pv 4) pa_nil)) (pe_callB call_len_seq (by rfl) T.m_len (by decide +kernel) (pa_cons (pv 0) pa_nil))) (fun _ _ => rfl)) pa_nil))))
        pss_nil)
      (pss_cons (ps_set (i := 5) sc_l_slots.nd rfl (.inl rfl) (pe_lst pa_nil))
      (pss_cons (ps_for PassesOwn.never rfl (pi_range1 (by rfl) T.m_range (pa_cons (pe_call (ok_l_take T) (hr.mono (by decide)) (by rfl) T.g_l_take T.F_l_take.kp T.b_l_take .nil pass0 (pa_cons (pv 1) (pa_cons (pe_op op_add (pv 3) pe_int) pa_nil))) pa_nil)) (pg_name (i := 6) sc_l_slots.nd rfl (.inl rfl))
        (pss_cons (ps_set (i := 4) sc_l_slots.nd rfl (.inl rfl) (pe_op op_add (pv 4) (pe_ix ix_list (pe_lst (pa_cons pe_int (pa_cons pe_int (pa_cons pe_int (pa_cons pe_int pa_nil))))) (pe_call (ok_l_take T) (hr.mono (by decide)) (by rfl) T.g_l_take T.F_l_take.kp T.b_l_take .nil pass0 (pa_cons (pv 1) (pa_cons pe_int pa_nil))) (fun _ _ => rfl))))
      (pss_cons (ps_set (i := 7) sc_l_slots.nd rfl (.inl rfl) (pe_lst (pa_cons (pe_op op_add (pe_ix ix_tup (pv 2) pe_int (fun _ _ => rfl)) (pe_call (ok_l_take T) (hr.mono (by decide)) (by rfl) T.g_l_take T.F_l_take.kp T.b_l_take .nil pass0 (pa_cons (pv 1) (pa_cons (pe_op op_add (pe_op op_sub (pe_ix ix_tup (pv 2) pe_int (fun _ _ => rfl)) (pe_ix ix_tup (pv 2) pe_int (fun _ _ => rfl))) pe_int) pa_nil)))) pa_nil)))
      (pss_cons (ps_set (i := 8) sc_l_slots.nd rfl (.inl rfl) (pe_ix ix_list (pe_lst (pa_cons pe_int (pa_cons pe_int (pa_cons pe_int (pa_cons pe_int (pa_cons pe_int (pa_cons pe_int (pa_cons pe_int (pa_cons pe_int pa_nil))))))))) (pe_call (ok_l_take T) (hr.mono (by decide)) (by rfl) T.g_l_take T.F_l_take.kp T.b_l_take .nil pass0 (pa_cons (pv 1) (pa_cons pe_int pa_nil))) (fun _ _ => rfl)))
      (pss_cons (ps_if (pt_cmpR op_eq (pv 8) pe_int (nomark _))
        (pss_cons (ps_set (i := 7) sc_l_slots.nd rfl (.inl rfl) (pe_op op_cat (pv 7) (pe_lst (pa_cons pe_non (pa_cons (pe_ix ix_tup (pv 2) pe_int (fun _ _ => rfl)) (pa_cons (pe_ix ix_tup (pv 2) pe_int (fun _ _ => rfl)) (pa_cons pe_non (pa_cons (pe_ix ix_tup (pv 2) pe_int (fun _ _ => rfl)) (pa_cons (pe_ix ix_tup (pv 2) pe_int (fun _ _ => rfl)) pa_nil)))))))))
      (pss_one (ps_set (i := 8) sc_l_slots.nd rfl (.inl rfl) pe_int)))
        pss_nil)
      (pss_cons (ps_for PassesOwn.never rfl (pi_range1 (by rfl) T.m_range (pa_cons (pv 8) pa_nil)) (pg_name (i := 9) sc_l_slots.nd rfl (.inl rfl))
        (pss_cons (ps_set (i := 10) sc_l_slots.nd rfl (.inl rfl) (pe_op op_add (pe_ix ix_tup (pv 2) pe_int (fun _ _ => rfl)) (pe_call (ok_l_take T) (hr.mono (by decide)) (by rfl) T.g_l_take T.F_l_take.kp T.b_l_take .nil pass0 (pa_cons (pv 1) (pa_cons (pe_op op_add (pe_op op_sub (pe_ix ix_tup (pv 2) pe_int (fun _ _ => rfl)) (pe_ix ix_tup (pv 2) pe_int (fun _ _ => rfl))) pe_int) pa_nil)))))
      (pss_one (ps_expr (pe_bm PySem.F.plainAttrs_list PySem.F.slot_list_append PySem.F.type_list_append mt_append (pv 7) (pa_cons (pe_ix ix_list (pe_lst (pa_cons (pv 10) (pa_cons pe_non pa_nil))) (pe_call (ok_l_take T) (hr.mono (by decide)) (by rfl) T.g_l_take T.F_l_take.kp T.b_l_take .nil pass0 (pa_cons (pv 1) (pa_cons pe_int pa_nil))) (fun _ _ => rfl)) pa_nil))))))
      (pss_one (ps_expr (pe_bm PySem.F.plainAttrs_list PySem.F.slot_list_append PySem.F.type_list_append mt_append (pv 5) (pa_cons (pe_tup (pa_cons (pv 4) (pa_cons (pe_callTy call_tuple_of (by rfl) T.m_tuple (by decide +kernel) (pa_cons (pv 7) pa_nil)) pa_nil))) pa_nil))))))))))
      (pss_one (ps_ret (pe_callTy call_tuple_of (by rfl) T.m_tuple (by decide +kernel) (pa_cons (pv 5) pa_nil)))))))), ?_⟩
    refine ⟨.ref d, rfl, d, _, rfl, hd, by decide, fun H1 x r1 x0 x1 => ⟨_, _, rfl, rfl, ?_⟩⟩
    refine ⟨.ref d, rfl, d, _, rfl, r1.at_, by decide, fun H2 y r2 y0 y1 => ?_⟩
    have r02 := r1.trans r2
    have sq2 := hS _ r02
    refine ⟨rfl, _, rfl, ite2 (fun e => ⟨.ref a, rfl, a, _, rfl, .inl sq2, _, _, rfl, rfl, _, rfl, ite2 (fun e2 => ?c1) (fun e2 => ?c2)⟩) (fun e => ?c3)⟩
    case' c1 =>
      have pos : (0 : Int) < ((sc.map V.int).length : Int) := of_decide_eq_true e2
      have hz0 : 0 ≤ (x - 12) % ((sc.map V.int).length : Int) := Int.emod_nonneg _ (by omega)
      have hz1 : (x - 12) % ((sc.map V.int).length : Int) < (sc.length : Int) := by
        have := Int.emod_lt_of_pos (x - 12) pos
        rw [List.length_map] at this ⊢
        exact this
      refine ⟨.ref a, rfl, .int (x - 12), rfl, .inl ⟨_, rfl, .ref a, rfl, a, _, rfl, .inl sq2, _, _, rfl, rfl, pos, a, _, _, _, rfl, rfl, sq2, atM_pos hz0 hz1, .inl ⟨_, rfl, ?_⟩⟩⟩
      obtain ⟨s0, el⟩ : ∃ s0 : Int, s0 = sc[((x - 12) % ((sc.map V.int).length : Int)).toNat]'(by omega) := ⟨_, rfl⟩
      rw [← el]
    case' c2 =>
      obtain ⟨s0, el⟩ : ∃ s0 : Int, s0 = x - 12 := ⟨_, rfl⟩
      dsimp only
      rw [← el]
    case' c3 =>
      obtain ⟨s0, el⟩ : ∃ s0 : Int, s0 = x - 12 := ⟨_, rfl⟩
      dsimp only
      rw [← el]
    all_goals (
      clear el
      refine ⟨small' (n := 0) (by decide), fun S nS => ?_⟩
      have nSd := r02.ne nS
      have nHS : H S = none := r02.free hd nS
      have q3 := r02.then (same_new (o := .lst []) nS)
      refine ⟨.ref d, rfl, .int most, rfl, _, _, rfl, rfl, d, _, rfl, q3.at_, by omega, fun H4 kk r4 k0 k1 => ⟨_, rfl, by omega, by omega, ?_⟩⟩
      have q4 := q3.trans r4
      refine for_range (lo := 0) (n := kk.toNat) (fun i σ H' => ∃ (y6 y7 y8 y9 y10 : Option V) (st : Int) (us : List Addr) (xs : List Sl), σ = [some (.ref a), some (.ref d), some (.ref t), some (.int most), some (.int st), some (.ref S), y6, y7, y8, y9, y10] ∧ Dr d H H' ∧ H' S = some (.lst (us.map V.ref)) ∧ Paired (SlAt H') us xs ∧ (∀ x ∈ xs, Sl85 x) ∧ us.length ≤ i)
        ⟨none, none, none, none, none, s0, [], [], rfl, q4, r4.keep _ _ nSd upd_same, .nil, (fun _ z => nomatch z), Nat.zero_le _⟩ (fun i σ H' hi hp => ?_) (fun σ H' hp => ?_)
      · obtain ⟨y6, y7, y8, y9, y10, st, us, xs, rfl, r5, hS5, hp5, ok5, ul⟩ := hp
        refine ⟨.int st, rfl, small' (n := 4) (by decide), fun p6 n6 => ?_⟩
        have n6d := r5.ne n6
        have k6 := same_new (o := .lst [.int 0, .int 1, .int 2, .int 7]) n6
        have q6 := r5.then k6
        refine ⟨.ref d, rfl, d, _, rfl, q6.at_, by decide, fun H7 u r7 u0 u1 => ?_⟩
        have h7 : H7 p6 = some (.lst [.int 0, .int 1, .int 2, .int 7]) := r7.keep _ _ n6d upd_same
        obtain ⟨ev, evm, eva⟩ := pick (xs := [0, 1, 2, 7]) (vs := [.int 0, .int 1, .int 2, .int 7]) (k := u) rfl u0 (by show u < 4; omega)
        refine ⟨p6, _, _, _, rfl, rfl, .inl (.inl h7), eva, _, _, rfl, rfl, ?_⟩
        have q7 := q6.trans r7
        have hS7 := r7.keep _ _ nSd (k6 _ _ hS5)
        have hp7 := sls_kept (r7.kt q6.at_) (sls_kept (Same.kt k6) hp5)
        have hm7 : MtAt H7 t m := q7.tup hd hm
        have hT7 : SqT K H7 t [.str m.name, .int m.low, .int m.high, .int m.err] := .inl (.inl hm7)
        refine ⟨.ref t, rfl, t, _, 1, _, rfl, rfl, hT7, atI_nat (j := 1) rfl, .ref d, rfl, .ref t, rfl, t, _, 2, _, rfl, rfl, hT7, atI_nat (j := 2) rfl, .ref t, rfl, t, _, 1, _, rfl, rfl, hT7, atI_nat (j := 1) rfl, _, _, rfl, rfl, _, _, rfl, rfl, d, _, rfl, q7.at_, by omega, fun H8 v r8 v0 v1 => ⟨_, _, rfl, rfl, small' (n := 1) (by decide), fun W nW => ?_⟩⟩
        have q8 := q7.trans r8
        have nWd := q8.ne nW
        have k8 := same_new (o := .lst [.int (m.low + v)]) nW
        have q9 := q8.then k8
        have nHW : H W = none := q8.free hd nW
        have hS8 := k8 _ _ (r8.keep _ _ nSd hS7)
        have hp8 := sls_kept (KT.trans (r8.kt q7.at_) (Same.kt k8)) hp7
        have hW9 : upd H8 W (.lst [.int (m.low + v)]) W = some (.lst (([some (m.low + v)] : List (Option Int)).map optV)) := upd_same
        generalize upd H8 W (.lst [.int (m.low + v)]) = H9 at k8 q9 hS8 hp8 hW9 ⊢
        refine ⟨small' (n := 8) (by decide), fun p8 n8 => ?_⟩
        have n8d := q9.ne n8
        have k9 := same_new (o := .lst [.int 0, .int 0, .int 0, .int 0, .int 1, .int 1, .int 2, .int 6]) n8
        have q10 := q9.then k9
        refine ⟨.ref d, rfl, d, _, rfl, q10.at_, by decide, fun HA z rA z0 z1 => ?_⟩
        have hA : HA p8 = some (.lst [.int 0, .int 0, .int 0, .int 0, .int 1, .int 1, .int 2, .int 6]) := rA.keep _ _ n8d upd_same
        obtain ⟨mv, mm, ma⟩ := pick (xs := [0, 0, 0, 0, 1, 1, 2, 6]) (vs := [.int 0, .int 0, .int 0, .int 0, .int 1, .int 1, .int 2, .int 6]) (k := z) rfl z0 (by show z < 8; omega)
        refine ⟨p8, _, _, _, rfl, rfl, .inl (.inl hA), ma, ?_⟩
        have qA := q10.trans rA
        have hSA := rA.keep _ _ nSd (k9 _ _ hS8)
        have hWA := rA.keep _ _ nWd (k9 _ _ hW9)
        have hpA := sls_kept (KT.trans (Same.kt k9) (rA.kt q10.at_)) hp8
        have hmA : MtAt HA t m := qA.tup hd hm
        have hTA : SqT K HA t [.str m.name, .int m.low, .int m.high, .int m.err] := .inl (.inl hmA)
        have mvB : mv = 6 ∨ (0 ≤ mv ∧ mv ≤ 2) := by
          simp only [List.mem_cons, List.not_mem_nil, or_false] at mm
          omega
        refine ⟨.int mv, rfl, rfl, _, rfl, ite2 (fun e6 => ⟨.ref W, rfl, .ref t, rfl, t, _, 2, _, rfl, rfl, hTA, atI_nat (j := 2) rfl, .ref t, rfl, t, _, 1, _, rfl, rfl, hTA, atI_nat (j := 1) rfl, .ref t, rfl, t, _, 1, _, rfl, rfl, hTA, atI_nat (j := 1) rfl, .ref t, rfl, t, _, 2, _, rfl, rfl, hTA, atI_nat (j := 2) rfl, small' (n := 6) (by decide), fun L nL => ⟨W, L, _, _, rfl, rfl, same_new nL _ _ hWA, upd_same, small' (n := 7) (by decide), fun W2 nW2 => ?_⟩⟩) (fun e6 => ?_)⟩
        all_goals first
          | (have kL := same_new (o := .lst [.non, .int m.high, .int m.low, .non, .int m.low, .int m.high]) nL
             have kW := same_new (o := .lst ((([some (m.low + v)] : List (Option Int)).map optV) ++ [.non, .int m.high, .int m.low, .non, .int m.low, .int m.high])) nW2
             have kk2 := kL.trans kW
             have qX := qA.then kk2
             have nWx := (qA.then kL).ne nW2
             have nHx : H W2 = none := (qA.then kL).free hd nW2
             have hSx := kk2 _ _ hSA
             have hpx := sls_kept (Same.kt kk2) hpA
             obtain ⟨Wx, eW⟩ : ∃ Wx, Wx = W2 := ⟨_, rfl⟩
             have hWx : upd (upd HA L (.lst [.non, .int m.high, .int m.low, .non, .int m.low, .int m.high])) W2 (.lst ((([some (m.low + v)] : List (Option Int)).map optV) ++ [.non, .int m.high, .int m.low, .non, .int m.low, .int m.high])) Wx = some (.lst (([some (m.low + v), none, some m.high, some m.low, none, some m.low, some m.high] : List (Option Int)).map optV)) := by
               rw [eW]
               exact upd_same
             have nWxd : Wx ≠ d := by rw [eW]; exact nWx
             have nHWx : H Wx = none := by rw [eW]; exact nHx
             obtain ⟨os, eo, olen, one⟩ : ∃ os : List (Option Int), os = [some (m.low + v), none, some m.high, some m.low, none, some m.low, some m.high] ∧ os.length ≤ 7 ∧ os ≠ [] := ⟨_, rfl, by show 7 ≤ 7; decide, by simp⟩
             have nSW : S ≠ Wx := by rw [eW]; exact ne_of_none (kL _ _ hSA) nW2
             rw [← eo] at hWx
             obtain ⟨HX, eH⟩ : ∃ HX, HX = upd (upd HA L (.lst [.non, .int m.high, .int m.low, .non, .int m.low, .int m.high])) W2 (.lst ((([some (m.low + v)] : List (Option Int)).map optV) ++ [.non, .int m.high, .int m.low, .non, .int m.low, .int m.high])) := ⟨_, rfl⟩
             rw [← eH] at qX hSx hpx hWx
             refine ⟨_, rfl, _, rfl, by decide, by decide, ?_⟩
             have n2le : (0 : Int).toNat ≤ 2 := by decide
             generalize (0 : Int).toNat = n2 at n2le ⊢)
          | (obtain ⟨HX, eH⟩ : ∃ HX, HX = HA := ⟨_, rfl⟩
             obtain ⟨Wx, eW⟩ : ∃ Wx, Wx = W := ⟨_, rfl⟩
             obtain ⟨os, eo, olen, one⟩ : ∃ os : List (Option Int), os = [some (m.low + v)] ∧ os.length ≤ 7 ∧ os ≠ [] := ⟨_, rfl, by show 1 ≤ 7; decide, by simp⟩
             have nSW : S ≠ Wx := by rw [eW]; exact ne_of_none (r8.keep _ _ nSd hS7) nW
             have hWx : HX Wx = some (.lst (os.map optV)) := by rw [eH, eW, eo]; exact hWA
             have nWxd : Wx ≠ d := by rw [eW]; exact nWd
             have nHWx : H Wx = none := by rw [eW]; exact nHW
             have qX : Dr d H HX := by rw [eH]; exact qA
             have hSx : HX S = some (.lst (us.map V.ref)) := by rw [eH]; exact hSA
             have hpx : Paired (SlAt HX) us xs := by rw [eH]; exact hpA
             have mv2 : 0 ≤ mv ∧ mv ≤ 2 := by
               rcases mvB with z | z
               · exact absurd (by rw [z]; exact decide_eq_true rfl) e6
               · exact z
             refine ⟨_, rfl, _, rfl, by omega, by omega, ?_⟩
             have n2le : mv.toNat ≤ 2 := by omega
             generalize mv.toNat = n2 at n2le ⊢)
        all_goals (
          refine for_range (lo := 0) (n := n2) (fun k σ H' => ∃ (y8 y9 y10 : Option V) (os' : List (Option Int)), σ = [some (.ref a), some (.ref d), some (.ref t), some (.int most), some (.int (st + ev)), some (.ref S), some (.int (0 + (i : Int))), some (.ref Wx), y8, y9, y10] ∧ Dr d H H' ∧ H' S = some (.lst (us.map V.ref)) ∧ H' Wx = some (.lst (os'.map optV)) ∧ Paired (SlAt H') us xs ∧ os' ≠ [] ∧ os'.length ≤ 7 + k) ⟨_, _, _, os, by first | rfl | (rw [eW]; rfl), by first | exact qX | (rw [← eH]; exact qX), by first | exact hSx | (rw [← eH]; exact hSx), by first | exact hWx | (rw [← eH]; exact hWx), by first | exact hpx | (rw [← eH]; exact hpx), one, by omega⟩ (fun k σ H' hk hq => ?_) (fun σ H' hq => ?_)
          · obtain ⟨y8, y9, y10, os', rfl, rB, hSB, hWB, hpB, neB, lB⟩ := hq
            have hmB : MtAt H' t m := rB.tup hd hm
            have hTB : SqT K H' t [.str m.name, .int m.low, .int m.high, .int m.err] := .inl (.inl hmB)
            refine ⟨.ref t, rfl, t, _, 1, _, rfl, rfl, hTB, atI_nat (j := 1) rfl, .ref d, rfl, .ref t, rfl, t, _, 2, _, rfl, rfl, hTB, atI_nat (j := 2) rfl, .ref t, rfl, t, _, 1, _, rfl, rfl, hTB, atI_nat (j := 1) rfl, _, _, rfl, rfl, _, _, rfl, rfl, d, _, rfl, rB.at_, by omega, fun HC v2 rC v20 v21 => ⟨_, _, rfl, rfl, ?_⟩⟩
            have hWC := rC.keep _ _ nWxd hWB
            have hSC := rC.keep _ _ nSd hSB
            have rBC := rB.trans rC
            refine ⟨.ref Wx, rfl, .inl ⟨rfl, _, .inl (.inl hWC)⟩, .int (m.low + v2), rfl, small' (n := 2) (by decide), fun pp npp => ?_⟩
            have nppd := rBC.ne npp
            have kp := same_new (o := .lst [.int (m.low + v2), .non]) npp
            have qp := rBC.then kp
            refine ⟨.ref d, rfl, d, _, rfl, qp.at_, by decide, fun HD u2 rD u20 u21 => ?_⟩
            have hpD : HD pp = some (.lst [.int (m.low + v2), .non]) := rD.keep _ _ nppd upd_same
            obtain ⟨o, oa⟩ : ∃ o : Option Int, atI [V.int (m.low + v2), .non] u2 = some (optV o) := by
              have : u2 = 0 ∨ u2 = 1 := by omega
              rcases this with rfl | rfl
              · exact ⟨some (m.low + v2), atI_nat (j := 0) rfl⟩
              · exact ⟨none, atI_nat (j := 1) rfl⟩
            have hWD := rD.keep _ _ nWxd (kp _ _ hWC)
            have hSD := rD.keep _ _ nSd (kp _ _ hSC)
            have hsD := sls_kept (KT.trans (KT.trans (rC.kt rB.at_) (Same.kt kp)) (rD.kt qp.at_)) hpB
            refine ⟨pp, _, u2, _, rfl, rfl, .inl (.inl hpD), oa, Wx, _, _, rfl, rfl, hWD, by rw [List.length_map]; exact small (by omega), _, _, _, os' ++ [o], rfl, (qp.trans rD).keepNew nWxd nHWx, by rw [upd_ne nSW]; exact hSD, by rw [upd_same, List.map_append]; rfl, sls_kept (kt_lst hWD) hsD, by simp, by rw [List.length_append]; show _ + 1 ≤ _; omega⟩
          · obtain ⟨y8, y9, y10, os', rfl, rB, hSB, hWB, hpB, neB, lB⟩ := hq
            refine ⟨.ref S, rfl, .inl ⟨rfl, _, .inl (.inl hSB)⟩, .int (st + ev), rfl, .ref Wx, rfl, Wx, _, rfl, .inl ⟨.inl (.inl hWB), fun tv ntv => ⟨small' (n := 2) (by decide), fun s ns => ?_⟩⟩⟩
            have k1 := same_new (o := .tup (os'.map optV)) ntv
            have k2 := same_new (o := .tup [.int (st + ev), .ref tv]) ns
            have k12 := k1.trans k2
            have hS9 := k12 _ _ hSB
            refine ⟨S, _, _, rfl, rfl, hS9, by rw [List.length_map]; exact small (by omega), _, _, _, _, _, st + ev, us ++ [s], xs ++ [⟨st + ev, os'⟩], rfl, (rB.then k12).keepNew nSd nHS, by rw [upd_same, map_snoc], ?_, fun x hx => ?_, by rw [List.length_append]; show _ + 1 ≤ _; omega⟩
            · refine (sls_kept (KT.trans (Same.kt k12) (kt_lst hS9)) hpB).snoc ?_
              exact SlAt.kept (kt_lst hS9) ⟨tv, upd_same, k2 _ _ upd_same⟩
            · rcases List.mem_append.mp hx with z | z
              · exact ok5 x z
              · rw [List.mem_singleton.mp z]
                exact ⟨neB, by show os'.length ≤ 24; omega⟩)
      · obtain ⟨y6, y7, y8, y9, y10, st, us, xs, rfl, r5, hS5, hp5, ok5, ul⟩ := hp
        exact ⟨.ref S, rfl, S, _, rfl, .inl ⟨.inl (.inl hS5), fun tt ntt => q _ tt us xs (r5.then (same_new ntt)) upd_same (sls_kept (Same.kt (same_new ntt)) hp5) ok5 (by omega)⟩⟩)
end
/-- a log of this law -/
def Lg85 (g : Lg) : Prop := g.slots.length ≤ 5 ∧ ∀ s ∈ g.slots, Sl85 s
def sp_l_history (K : PySem.W.Frag) : Sp := fun vs H Q _ => ∃ (a d p tm : Addr) (sc : List Int) (ts : List Addr) (P : Pl) (most : Int), vs = [.ref a, .ref d, .ref p, .int most] ∧ (∀ H', Dr d H H' → SqL K H' a (sc.map V.int)) ∧ DrA H d ∧ PlanAt H p tm ts P ∧ P.ms.length ≤ 2 ∧ (∀ m ∈ P.ms, Mt85 m) ∧ 0 ≤ most ∧ most ≤ 5 ∧
  ∀ H' h ls, Dr d H H' → HistAt H' h ls → ls.length = P.ms.length → (∀ g ∈ ls, Lg85 g) → Q (.ref h) H'
section
variable {P : Program} {w : World} {K : PySem.W.Frag} {mg : Str → Option Value} {base : Heap}
set_option pp.maxSteps 400 in
set_option maxHeartbeats 1000000 in
theorem ok_l_history (T : Ctx K mg) : FnOk P w K mg base CX0 3 T.f_l_history T.fd_l_history ["script", "draws", "plan", "most"] (sp_l_history K) := by
  refine T.F_l_history.ok sc_l_history (fun vs H Q E h => ?_) (fun cdv A outer s H vs Q E hr h => ?_)
  · obtain ⟨a, d, p, tm, sc, ts, P, most, rfl, _⟩ := h
    rfl
  · obtain ⟨a, d, p, tm, sc, ts, P, most, rfl, hS, hd, pa, few, mok, m0, m5, q⟩ := h
    refine ⟨_, (pss_cons (ps_set (i := 4) sc_l_history.nd rfl (.inl rfl) (pe_lst pa_nil))
      (pss_cons (ps_for PassesOwn.never rfl (pi_tup (pe_ix ix_tup (pv 2) pe_int (fun _ _ => rfl))) (pg_name (i := 5) sc_l_history.nd rfl (.inl rfl))
        (pss_cons (ps_set (i := 6) sc_l_history.nd rfl (.inl rfl) (pe_op op_sub (pe_call (ok_l_take T) (hr.mono (by decide)) (by rfl) T.g_l_take T.F_l_take.kp T.b_l_take .nil pass0 (pa_cons (pv 1) (pa_cons (pe_op op_add (pe_op op_mul pe_int (pe_ix ix_tup (pv 5) pe_int (fun _ _ => rfl))) pe_int) pa_nil))) (pe_ix ix_tup (pv 5) pe_int (fun _ _ => rfl))))
      (pss_one (ps_expr (pe_bm PySem.F.plainAttrs_list PySem.F.slot_list_append PySem.F.type_list_append mt_append (pv 4) (pa_cons (pe_tup (pa_cons (pe_ix ix_tup (pv 5) pe_int (fun _ _ => rfl)) (pa_cons (pv 6) (pa_cons (pe_call (ok_l_slots T) (hr.mono (by decide)) (by rfl) T.g_l_slots T.F_l_slots.kp T.b_l_slots .nil pass0 (pa_cons (pv 0) (pa_cons (pv 1) (pa_cons (pv 5) (pa_cons (pv 3) pa_nil))))) pa_nil)))) pa_nil))))))
      (pss_one (ps_ret (pe_callTy call_tuple_of (by rfl) T.m_tuple (by decide +kernel) (pa_cons (pv 4) pa_nil)))))), ?_⟩
    have tl : ts.length = P.ms.length := pa.low.length
    refine ⟨small' (n := 0) (by decide), fun G nG => ?_⟩
    have nGd : G ≠ d := (Dr.refl hd).ne nG
    have r0 : Dr d H (upd H G (.lst [])) := (Dr.refl hd).then (same_new nG)
    have pa0 := pa.same (same_new (o := .lst []) nG)
    refine ⟨.ref p, rfl, p, _, 1, _, rfl, rfl, .inl (.inl pa0.top), atI_nat (j := 1) rfl, tm, rfl, ⟨_, .inl (.inl pa0.mid)⟩, for_tup (K := K) (a := tm) (xs := ts.map V.ref) (fun i σ H' => ∃ (y5 y6 : Option V) (gs : List Addr) (ls : List Lg), σ = [some (.ref a), some (.ref d), some (.ref p), some (.int most), some (.ref G), y5, y6] ∧ Dr d H H' ∧ H' G = some (.lst (gs.map V.ref)) ∧ Paired (LgAt H') gs ls ∧ (∀ g ∈ ls, Lg85 g) ∧ gs.length = i)
      ⟨none, none, [], [], rfl, r0, upd_same, .nil, (fun _ z => nomatch z), rfl⟩ (fun i σ H' _ hp => ?_) (fun i x σ H' hx hp => ?_) (fun σ H' hp => ?_)⟩
    · obtain ⟨_, _, _, _, _, r1, _⟩ := hp
      exact .inl (.inl (r1.plan hd pa).mid)
    · obtain ⟨y5, y6, gs, ls, rfl, r1, hG1, hp1, ok1, gl⟩ := hp
      rw [List.getElem?_map] at hx
      obtain ⟨t, ht, rfl⟩ := Option.map_eq_some_iff.mp hx
      have il := (List.getElem?_eq_some_iff.mp ht).1
      have pa1 := r1.plan hd pa
      obtain ⟨m, hm, hat⟩ := mts_at pa1.low ht
      obtain ⟨mo, e0, e1⟩ := mok m (List.mem_of_getElem? hm)
      refine ⟨.ref d, rfl, .ref t, rfl, t, _, 3, _, rfl, rfl, .inl (.inl hat), atI_nat (j := 3) rfl, _, _, rfl, rfl, .inl ⟨by decide, by decide⟩, _, _, rfl, rfl, d, _, rfl, r1.at_, by omega, fun H2 u r2 u0 u1 => ?_⟩
      have hat2 : MtAt H2 t m := r2.tup r1.at_ hat
      have hT2 : SqT K H2 t [.str m.name, .int m.low, .int m.high, .int m.err] := .inl (.inl hat2)
      have hG2 := r2.keep _ _ nGd hG1
      refine ⟨.ref t, rfl, t, _, 3, _, rfl, rfl, hT2, atI_nat (j := 3) rfl, _, _, rfl, rfl, ?_⟩
      refine ⟨.ref G, rfl, .inl ⟨rfl, _, .inl (.inl hG2)⟩, .ref t, rfl, t, _, 0, _, rfl, rfl, hT2, atI_nat (j := 0) rfl, _, rfl, .ref a, rfl, .ref d, rfl, .ref t, rfl, .int most, rfl, a, d, t, sc, m, most, rfl, (fun H9 r9 => hS H9 ((r1.trans r2).trans r9)), r2.at_, hat2, mo, m0, m5, fun H6 tt us xs r6 htt hus okx ul => ⟨small' (n := 3) (by decide), fun g ng => ?_⟩⟩
      have r06 := (r1.trans r2).trans r6
      have k1 := same_new (o := .tup [.str m.name, .int (u - m.err), .ref tt]) ng
      have hG7 := k1 _ _ (r6.keep _ _ nGd hG2)
      have kk := KT.trans (KT.trans (KT.trans (r2.kt r1.at_) (r6.kt r2.at_)) (Same.kt k1)) (kt_lst (ys := gs.map V.ref ++ [.ref g]) hG7)
      refine ⟨G, _, _, rfl, rfl, hG7, by rw [List.length_map]; exact small (by omega), _, _, gs ++ [g], ls ++ [⟨m.name, u - m.err, xs⟩], rfl, (r06.then k1).keepNew nGd nG, by rw [upd_same, map_snoc], (lgs_kept kk hp1).snoc ?_, fun x hx => ?_, by rw [List.length_append, gl]; rfl⟩
      · exact LgAt.kept (kt_lst hG7) ⟨tt, us, upd_same, k1 _ _ htt, sls_kept (Same.kt k1) hus⟩
      · rcases List.mem_append.mp hx with z | z
        · exact ok1 x z
        · rw [List.mem_singleton.mp z]
          exact ⟨by have := hus.length; show xs.length ≤ 5; omega, okx⟩
    · obtain ⟨y5, y6, gs, ls, rfl, r1, hG1, hp1, ok1, gl⟩ := hp
      rw [List.length_map, tl] at gl
      exact ⟨.ref G, rfl, G, _, rfl, .inl ⟨.inl (.inl hG1), fun h nh => q _ h ls (r1.then (same_new nh)) ⟨gs, upd_same, lgs_kept (Same.kt (same_new nh)) hp1⟩ (by rw [← hp1.length, gl]) ok1⟩⟩
end
def sp_l_question (K : PySem.W.Frag) : Sp := fun vs H Q _ => ∃ (d p tm h : Addr) (ts : List Addr) (P : Pl) (ls : List Lg), vs = [.ref d, .ref p, .ref h] ∧ DrA H d ∧ PlanAt H p tm ts P ∧ 1 ≤ P.len ∧ P.len ≤ 60 ∧ P.ms ≠ [] ∧ P.ms.length ≤ 2 ∧ HistAt H h ls ∧ ls.length = P.ms.length ∧ (∀ g ∈ ls, Lg85 g) ∧
  ∀ (H' : Hp) (t ga na : Addr) (g : Ag) (ns : List Str) (w : Int), Dr d H H' → H' t = some (.tup [.ref ga, .ref na, .int w]) → AgAt H' ga g → g.Ok → H' na = some (.tup (ns.map V.str)) → Q (.ref t) H'
section
variable {P : Program} {w : World} {K : PySem.W.Frag} {mg : Str → Option Value} {base : Heap}
set_option pp.maxSteps 400 in
set_option maxHeartbeats 4000000 in
theorem ok_l_question (T : Ctx K mg) : FnOk P w K mg base CX0 2 T.f_l_question T.fd_l_question ["draws", "plan", "history"] (sp_l_question K) := by
  refine T.F_l_question.ok sc_l_question (fun vs H Q E h => ?_) (fun cdv A outer s H vs Q E hr h => ?_)
  · obtain ⟨d, p, tm, h', ts, P, ls, rfl, _⟩ := h
    rfl
  · obtain ⟨d, p, tm, h0, ts, P, ls, rfl, hd, pa, L1, L60, ne, few, hh, hl, lok, q⟩ := h
    refine ⟨_, (pss_cons (ps_set (i := 3) sc_l_question.nd rfl (.inl rfl) (pe_call (ok_l_take T) (hr.mono (by decide)) (by rfl) T.g_l_take T.F_l_take.kp T.b_l_take .nil pass0 (pa_cons (pv 0) (pa_cons pe_int pa_nil))))
      (pss_cons (ps_set (i := 4) sc_l_question.nd rfl (.inl rfl) (pe_op op_add pe_int (pe_call (ok_l_take T) (hr.mono (by decide)) (by rfl) T.g_l_take T.F_l_take.kp T.b_l_take .nil pass0 (pa_cons (pv 0) (pa_cons pe_int pa_nil)))))
      (pss_cons (ps_set (i := 5) sc_l_question.nd rfl (.inl rfl) (pe_call (ok_l_take T) (hr.mono (by decide)) (by rfl) T.g_l_take T.F_l_take.kp T.b_l_take .nil pass0 (pa_cons (pv 0) (pa_cons (pe_op op_add (pv 4) pe_int) pa_nil))))
      (pss_cons (ps_set (i := 6) sc_l_question.nd rfl (.inr rfl) (pe_op op_add pe_int (pe_call (ok_l_take T) (hr.mono (by decide)) (by rfl) T.g_l_take T.F_l_take.kp T.b_l_take .nil pass0 (pa_cons (pv 0) (pa_cons pe_int pa_nil)))))
      (pss_cons (ps_setLc (i := 7) (own := [("k", 14)]) (g := gName 14) (by rfl) sc_l_question.nd rfl rfl (sw_true rfl rfl rfl (by decide +kernel)) (pi_range1 (by rfl) T.m_range (pa_cons (pe_callB call_len_seq (by rfl) T.m_len (by decide +kernel) (pa_cons (pe_ix ix_tup (pv 1) pe_int (fun _ _ => rfl)) pa_nil)) pa_nil)) (blkOk_by (own := [("k", 14)]) (N := ["draws", "plan", "history", "kind", "q", "p", "mask", "names", "a", "b", "window", "log", "at", "beside", "k"]) (sc := defScope s_l_question) (by decide +kernel)) (fun _ _ _ _ _ => pg_name (i := 14) sc_l_question.nd rfl (Or.inl rfl)) (fun _ _ _ _ _ => (pts_one (pt_cmpR op_eq (pe_op op_mod (pe_callTy call_int1 (by rfl) T.m_int (by decide +kernel) (pa_cons (pe_op op_fdiv (pv 6) (pe_ix (show IxR _ (rIxL K) from ix_list) (pe_lst (pa_cons pe_int (pa_cons pe_int (pa_cons pe_int pa_nil)))) (pe_op op_mod (pe_callTy call_int1 (by rfl) T.m_int (by decide +kernel) (pa_cons (pv 14) pa_nil)) pe_int) (fun _ _ => rfl))) pa_nil)) pe_int) pe_int (nomark _)))) (fun _ _ _ _ _ => (pe_ix (show IxR _ (rIxT K) from ix_tup) (pe_ix (show IxR _ (rIxT K) from ix_tup) (pe_ix (show IxR _ (rIxT K) from ix_tup) (pv 1) pe_int (fun _ _ => rfl)) (pv 14) (fun _ _ => rfl)) pe_int (fun _ _ => rfl))))
      (C8.pss_cut (ps_if (pt_cmpR op_eq (pe_callB call_len_seq (by rfl) T.m_len (by decide +kernel) (pa_cons (pv 7) pa_nil)) pe_int (nomark _))
        (pss_one (ps_set (i := 7) sc_l_question.nd rfl (.inl rfl) (pe_lst (pa_cons (pe_ix ix_tup (pe_ix ix_tup (pe_ix ix_tup (pv 1) pe_int (fun _ _ => rfl)) pe_int (fun _ _ => rfl)) pe_int (fun _ _ => rfl)) pa_nil))))
        pss_nil)
      (pss_cons (ps_set (i := 8) sc_l_question.nd rfl (.inl rfl) (pe_op op_sub (pe_op op_add (pe_ix ix_tup (pe_ix ix_tup (pe_ix ix_tup (pv 1) pe_int (fun _ _ => rfl)) (pe_un un_neg pe_int) (fun _ _ => rfl)) pe_int (fun _ _ => rfl)) (pe_call (ok_l_take T) (hr.mono (by decide)) (by rfl) T.g_l_take T.F_l_take.kp T.b_l_take .nil pass0 (pa_cons (pv 0) (pa_cons pe_int pa_nil)))) pe_int))
      (pss_cons (ps_set (i := 9) sc_l_question.nd rfl (.inl rfl) (pe_op op_add (pv 8) (pe_call (ok_l_take T) (hr.mono (by decide)) (by rfl) T.g_l_take T.F_l_take.kp T.b_l_take .nil pass0 (pa_cons (pv 0) (pa_cons pe_int pa_nil)))))
      (pss_cons (ps_set (i := 10) sc_l_question.nd rfl (.inl rfl) (pe_op op_sub (pe_call (ok_l_take T) (hr.mono (by decide)) (by rfl) T.g_l_take T.F_l_take.kp T.b_l_take .nil pass0 (pa_cons (pv 0) (pa_cons pe_int pa_nil))) pe_int))
      (C8.pss_cut (ps_set (i := 11) sc_l_question.nd rfl (.inl rfl) (pe_ix ix_tup (pv 2) (pe_call (ok_l_take T) (hr.mono (by decide)) (by rfl) T.g_l_take T.F_l_take.kp T.b_l_take .nil pass0 (pa_cons (pv 0) (pa_cons (pe_callB call_len_seq (by rfl) T.m_len (by decide +kernel) (pa_cons (pv 2) pa_nil)) pa_nil))) (fun _ _ => rfl)))
      (pss_cons (ps_set (i := 12) sc_l_question.nd rfl (.inl rfl) (pe_call (ok_l_take T) (hr.mono (by decide)) (by rfl) T.g_l_take T.F_l_take.kp T.b_l_take .nil pass0 (pa_cons (pv 0) (pa_cons (pe_callB (call_max2 rfl) (by rfl) T.m_max (by decide +kernel) (pa_cons pe_int (pa_cons (pe_callB call_len_seq (by rfl) T.m_len (by decide +kernel) (pa_cons (pe_ix ix_tup (pv 11) pe_int (fun _ _ => rfl)) pa_nil)) pa_nil))) pa_nil))))
      (pss_cons (ps_set (i := 13) sc_l_question.nd rfl (.inl rfl) (pe_ix ix_list (pe_lst (pa_cons pe_int (pa_cons pe_int (pa_cons pe_int (pa_cons pe_int (pa_cons (pe_un un_neg pe_int) pa_nil)))))) (pe_call (ok_l_take T) (hr.mono (by decide)) (by rfl) T.g_l_take T.F_l_take.kp T.b_l_take .nil pass0 (pa_cons (pv 0) (pa_cons pe_int pa_nil))) (fun _ _ => rfl)))
      (C8.pss_cut (ps_if (pt_cmpR op_gt (pe_callB call_len_seq (by rfl) T.m_len (by decide +kernel) (pa_cons (pe_ix ix_tup (pv 11) pe_int (fun _ _ => rfl)) pa_nil)) pe_int (nomark _))
        (pss_one (ps_set (i := 10) sc_l_question.nd rfl (.inl rfl) (pe_op op_add (pe_op op_fdiv (pe_op op_add (pe_ix ix_tup (pe_ix ix_tup (pe_ix ix_tup (pv 11) pe_int (fun _ _ => rfl)) (pv 12) (fun _ _ => rfl)) pe_int (fun _ _ => rfl)) (pe_ix ix_tup (pv 11) pe_int (fun _ _ => rfl))) (pe_ix ix_tup (pv 1) pe_int (fun _ _ => rfl))) (pv 13))))
        pss_nil)
      (pss_one (ps_ret (pe_tup (pa_cons (pe_ix ix_list (pe_lst (pa_cons (pe_tup (pa_cons pe_str pa_nil)) (pa_cons (pe_tup (pa_cons pe_str (pa_cons (pv 8) (pa_cons (pv 9) pa_nil)))) (pa_cons (pe_tup (pa_cons pe_str pa_nil)) (pa_cons (pe_tup (pa_cons pe_str (pa_cons (pv 5) (pa_cons (pv 4) pa_nil)))) (pa_cons (pe_tup (pa_cons pe_str (pa_cons (pv 5) (pa_cons (pv 4) pa_nil)))) pa_nil)))))) (pv 3) (fun _ _ => rfl)) (pa_cons (pe_callTy call_tuple_of (by rfl) T.m_tuple (by decide +kernel) (pa_cons (pv 7) pa_nil)) (pa_cons (pv 10) pa_nil))))))))))))))))))), ?_⟩
    have tl : ts.length = P.ms.length := pa.low.length
    have p0 : 0 < P.ms.length := List.length_pos_iff.mpr ne
    refine ⟨.ref d, rfl, d, _, rfl, hd, by decide, fun H1 kd r1 kd0 kd1 => ?_⟩
    refine ⟨.ref d, rfl, d, _, rfl, r1.at_, by decide, fun H2 qq r2 q0 q1 => ⟨_, _, rfl, rfl, ?_⟩⟩
    dsimp only
    refine ⟨.ref d, rfl, .int (1 + qq), rfl, _, _, rfl, rfl, d, _, rfl, r2.at_, by omega, fun H3 pp r3 pp0 pp1 => ?_⟩
    refine ⟨.ref d, rfl, d, _, rfl, r3.at_, by decide, fun H4 mk r4 mk0 mk1 => ⟨_, _, rfl, rfl, ?_⟩⟩
    have r04 := ((r1.trans r2).trans r3).trans r4
    have pa4 := r04.plan hd pa
    have sp4 : SqT K H4 p [.int P.len, .ref tm] := .inl (.inl pa4.top)
    refine ⟨.ref p, rfl, p, _, 1, _, rfl, rfl, sp4, atI_nat (j := 1) rfl, tm, _, rfl, .inr (.inl (.inl pa4.mid)), _, rfl, by omega, by rw [List.length_map]; omega, fun C nC => ?_⟩
    refine lc_range (lo := 0) (n := ((ts.map V.ref).length : Int).toNat) (fun i H' => Same H4 H' ∧ ∃ ns : List Str, H' C = some (.lst (ns.map V.str)) ∧ ns.length ≤ i) ⟨same_new nC, [], upd_same, Nat.zero_le _⟩ (fun i H' hi z => ?_) (fun H' z => ?_)
    · obtain ⟨z1, ns, hC, nl⟩ := z
      have i2 : i < ts.length := by
        rw [List.length_map] at hi
        omega
      refine ⟨rfl, _, rfl, small' (n := 3) (by decide), fun pl npl => ?_⟩
      have kl := same_new (o := .lst [.int 1, .int 2, .int 4]) npl
      obtain ⟨dv, dm, da⟩ := pick (xs := [1, 2, 4]) (vs := [.int 1, .int 2, .int 4]) (k := (0 + (i : Int)) % 3) rfl (by omega) (by show _ < 3; omega)
      have dB : 0 < dv ∧ dv < 1073741824 := by
        simp only [List.mem_cons, List.not_mem_nil, or_false] at dm
        omega
      have hC1 := kl _ _ hC
      have z3 := z1.trans kl
      have pa5 := pa4.same z3
      have at0 : atI (ts.map V.ref) (0 + (i : Int)) = some (.ref ts[i]) := atI_z (j := i) (by omega) (by rw [List.getElem?_map, List.getElem?_eq_getElem i2]; rfl)
      obtain ⟨mm, hmm, hat⟩ := mts_at pa5.low (List.getElem?_eq_getElem i2)
      refine ⟨_, rfl, .inl ⟨_, rfl, _, _, rfl, rfl, (show (0 : Int) < 3 by decide), pl, _, _, _, rfl, rfl, .inl (.inl upd_same), da, _, _, rfl, rfl, dB, .inl ⟨_, rfl, _, _, rfl, rfl, (show (0 : Int) < 2 by decide), rfl, _, rfl, ite2 (fun e => ?_) (fun e => ?_)⟩⟩⟩
      · refine ⟨_, rfl, p, _, 1, _, rfl, rfl, .inl (.inl pa5.top), atI_nat (j := 1) rfl, _, rfl, tm, _, _, _, rfl, rfl, .inl (.inl pa5.mid), at0, ts[i], _, 0, _, rfl, rfl, .inl (.inl hat), atI_nat (j := 0) rfl, _, hC1, by rw [List.length_map]; exact small (by omega), fun b o e => ?_, ns ++ [mm.name], by rw [upd_same, List.map_append]; rfl, by rw [List.length_append]; show _ + 1 ≤ _; omega⟩
        rw [upd_ne (ne_of_none e nC)]
        exact z3 _ _ e
      · exact ⟨z3, ns, hC1, by omega⟩
    obtain ⟨z1, ns, hC, nl⟩ := z
    have pa5 := pa4.same z1
    have tl0 : 0 < ts.length := by omega
    have at0 : atI (ts.map V.ref) 0 = some (.ref ts[0]) := atI_nat (j := 0) (by rw [List.getElem?_map, List.getElem?_eq_getElem tl0]; rfl)
    obtain ⟨mm, hmm, hat⟩ := mts_at pa5.low (List.getElem?_eq_getElem tl0)
    have r5 := r04.then z1
    refine ⟨fun σ HX => ∃ (N : Addr) (ws : List Str) (y8 y9 y10 y11 y12 y13 y14 : Option V), σ = [some (.ref d), some (.ref p), some (.ref h0), some (.int kd), some (.int (1 + qq)), some (.int pp), some (.int (1 + mk)), some (.ref N), y8, y9, y10, y11, y12, y13, y14] ∧ Dr d H HX ∧ N ≠ d ∧ HX N = some (.lst (ws.map V.str)), ?_, fun σ HX z => ?_⟩
    · refine ⟨.ref C, rfl, C, _, rfl, .inl (.inl (.inl hC)), rfl, _, rfl, ite2 (fun e => ⟨.ref p, rfl, p, _, 1, _, rfl, rfl, .inl (.inl pa5.top), atI_nat (j := 1) rfl, tm, _, 0, _, rfl, rfl, .inl (.inl pa5.mid), at0, ts[0], _, 0, _, rfl, rfl, .inl (.inl hat), atI_nat (j := 0) rfl, small' (n := 1) (by decide), fun N nN => ?_⟩) (fun e => ?_)⟩
      · exact ⟨N, [mm.name], _, _, _, _, _, _, _, rfl, r5.then (same_new nN), r5.ne nN, upd_same⟩
      · exact ⟨C, ns, _, _, _, _, _, _, _, rfl, r5, r04.ne nC, hC⟩
    obtain ⟨N, ws, y8, y9, y10, y11, y12, y13, y14, rfl, rX, nNd, hNx⟩ := z
    have paX := rX.plan hd pa
    have lst0 : ts.length - 1 < ts.length := by omega
    have lastA : atI (ts.map V.ref) (-1) = some (.ref ts[ts.length - 1]) := by
      unfold atI
      have e : ixN (ts.map V.ref).length (-1) = some (ts.length - 1) := by
        unfold ixN
        rw [List.length_map, if_neg (by decide), if_pos (by omega)]
        congr 1
        omega
      rw [e]
      show (ts.map V.ref)[ts.length - 1]? = _
      rw [List.getElem?_map, List.getElem?_eq_getElem lst0]
      rfl
    obtain ⟨ml, hml, hatl⟩ := mts_at paX.low (List.getElem?_eq_getElem lst0)
    generalize ts[ts.length - 1] = tz at lastA hatl
    refine ⟨.ref p, rfl, p, _, 1, _, rfl, rfl, .inl (.inl paX.top), atI_nat (j := 1) rfl, _, rfl, tm, _, -1, _, rfl, rfl, .inl (.inl paX.mid), lastA, tz, _, 1, _, rfl, rfl, .inl (.inl hatl), atI_nat (j := 1) rfl, .ref d, rfl, d, _, rfl, rX.at_, by decide, fun H6 u r6 u0 u1 => ⟨_, _, rfl, rfl, _, _, rfl, rfl, ?_⟩⟩
    obtain ⟨av, ea⟩ : ∃ av : Int, av = ml.low + u - 1 := ⟨_, rfl⟩
    dsimp only
    rw [← ea]
    refine ⟨.int av, rfl, .ref d, rfl, d, _, rfl, r6.at_, by decide, fun H7 u2 r7 u20 u21 => ⟨_, _, rfl, rfl, ?_⟩⟩
    obtain ⟨bv, eb⟩ : ∃ bv : Int, bv = av + u2 := ⟨_, rfl⟩
    dsimp only
    rw [← eb]
    refine ⟨.ref d, rfl, d, _, rfl, r7.at_, by decide, fun H8 u3 r8 u30 u31 => ⟨_, _, rfl, rfl, ?_⟩⟩
    dsimp only
    have r08 := ((rX.trans r6).trans r7).trans r8
    have hN8 : H8 N = some (.lst (ws.map V.str)) := r8.keep _ _ nNd (r7.keep _ _ nNd (r6.keep _ _ nNd hNx))
    obtain ⟨gs, hh8, hg8⟩ := hh.kept (r08.kt hd)
    have gl : gs.length = ls.length := hg8.length
    refine ⟨fun σ HX => ∃ (x w : Int) (y12 y13 y14 : Option V) (xl : x.toNat < gs.length), σ = [some (.ref d), some (.ref p), some (.ref h0), some (.int kd), some (.int (1 + qq)), some (.int pp), some (.int (1 + mk)), some (.ref N), some (.int av), some (.int bv), some (.int w), some (.ref (gs[x.toNat]'xl)), y12, y13, y14] ∧ Dr d H8 HX, ?_, fun σ HX z => ?_⟩
    · refine ⟨.ref h0, rfl, .ref d, rfl, .ref h0, rfl, h0, _, rfl, .inr (.inl (.inl hh8)), d, _, rfl, r08.at_, by rw [List.length_map]; omega, fun H9 x r9 x0 x1 => ?_⟩
      rw [List.length_map] at x1
      have xl : x.toNat < gs.length := by omega
      have atx : atI (gs.map V.ref) x = some (.ref gs[x.toNat]) := atI_z (j := x.toNat) (by omega) (by rw [List.getElem?_map, List.getElem?_eq_getElem xl]; rfl)
      exact ⟨h0, _, x, _, rfl, rfl, .inl (.inl (r9.tup r08.at_ hh8)), atx, x, _, _, _, _, xl, rfl, r9⟩
    obtain ⟨x, w0, y12, y13, y14, xl, rfl, r9⟩ := z
    have r09 := r08.trans r9
    have hg9 := lgs_kept (r9.kt r08.at_) hg8
    obtain ⟨g, hg, tt, ss, hga, htt, hss⟩ := lgs_at hg9 (List.getElem?_eq_getElem xl)
    obtain ⟨gl5, _⟩ := lok g (List.mem_of_getElem? hg)
    have sl5 : ss.length ≤ 5 := by have := hss.length; omega
    generalize gs[x.toNat] = ga at hga
    have hGA : SqT K HX ga [.str g.name, .int g.off, .ref tt] := .inl (.inl hga)
    refine ⟨.ref d, rfl, .ref ga, rfl, ga, _, 2, _, rfl, rfl, hGA, atI_nat (j := 2) rfl, tt, _, rfl, .inr (.inl (.inl htt)), _, _, rfl, d, _, rfl, r09.at_, ?_, fun HA y rA y0 y1 => ?_⟩
    · split <;> omega
    refine ⟨_, rfl, small' (n := 5) (by decide), fun pb npb => ?_⟩
    have r0A := r09.trans rA
    have npbd := r0A.ne npb
    have kb := same_new (o := .lst [.int 0, .int 0, .int 0, .int 1, .int (-1)]) npb
    have qB := r0A.then kb
    refine ⟨.ref d, rfl, d, _, rfl, qB.at_, by decide, fun HB u4 rB u40 u41 => ?_⟩
    have hB : HB pb = some (.lst [.int 0, .int 0, .int 0, .int 1, .int (-1)]) := rB.keep _ _ npbd upd_same
    obtain ⟨be, bm, ba⟩ := pick (xs := [0, 0, 0, 1, -1]) (vs := [.int 0, .int 0, .int 0, .int 1, .int (-1)]) (k := u4) rfl u40 (by show u4 < 5; omega)
    have r0B := qB.trans rB
    have kAB : KT HX HB := KT.trans (KT.trans (rA.kt r09.at_) (Same.kt kb)) (rB.kt qB.at_)
    have hNB : HB N = some (.lst (ws.map V.str)) := rB.keep _ _ nNd (kb _ _ (rA.keep _ _ nNd (r9.keep _ _ nNd hN8)))
    have hGB : SqT K HB ga [.str g.name, .int g.off, .ref tt] := .inl (.inl (kAB _ _ hga))
    have httB : SqT K HB tt (ss.map V.ref) := .inl (.inl (kAB _ _ htt))
    have hssB := sls_kept kAB hss
    have paB := r0B.plan hd pa
    refine ⟨pb, _, u4, _, rfl, rfl, .inl (.inl hB), ba, ?_⟩
    refine ⟨fun σ HX => HX = HB ∧ ∃ (wv : Int) (y14 : Option V), σ = [some (.ref d), some (.ref p), some (.ref h0), some (.int kd), some (.int (1 + qq)), some (.int pp), some (.int (1 + mk)), some (.ref N), some (.int av), some (.int bv), some (.int wv), some (.ref ga), some (.int y), some (.int be), y14], ?_, fun σ HX' z => ?_⟩
    · refine ⟨.ref ga, rfl, ga, _, 2, _, rfl, rfl, hGB, atI_nat (j := 2) rfl, tt, _, rfl, .inr httB, _, _, rfl, rfl, _, rfl, ite2 (fun e9 => ?_) (fun e9 => ?_)⟩
      · have sp : (0 : Int) < ((ss.map V.ref).length : Int) := of_decide_eq_true e9
        rw [List.length_map] at sp
        have yl : y.toNat < ss.length := by
          rw [List.length_map] at y1
          split at y1 <;> omega
        obtain ⟨zz, hzz, tv, hza, hzv⟩ := sls_at hssB (List.getElem?_eq_getElem yl)
        have aty : atI (ss.map V.ref) y = some (.ref ss[y.toNat]) := atI_z (j := y.toNat) (by omega) (by rw [List.getElem?_map, List.getElem?_eq_getElem yl]; rfl)
        exact ⟨.ref ga, rfl, ga, _, 2, _, rfl, rfl, hGB, atI_nat (j := 2) rfl, .int y, rfl, tt, _, _, _, rfl, rfl, httB, aty, ss[y.toNat], _, 0, _, rfl, rfl, .inl (.inl hza), atI_nat (j := 0) rfl, .ref ga, rfl, ga, _, 1, _, rfl, rfl, hGB, atI_nat (j := 1) rfl, _, _, rfl, rfl, .ref p, rfl, p, _, 0, _, rfl, rfl, .inl (.inl paB.top), atI_nat (j := 0) rfl, _, _, rfl, rfl, ⟨by omega, by omega⟩, .int be, rfl, _, _, rfl, rfl, rfl, _, _, rfl⟩
      · exact ⟨rfl, _, _, rfl⟩
    obtain ⟨rfl, wv, y14, rfl⟩ := z
    refine ⟨small' (n := 1) (by decide), fun t1 n1 => ⟨.int av, rfl, .int bv, rfl, small' (n := 3) (by decide), fun t2 n2 => ⟨small' (n := 1) (by decide), fun t3 n3 => ⟨.int pp, rfl, .int (1 + qq), rfl, small' (n := 3) (by decide), fun t4 n4 => ⟨.int pp, rfl, .int (1 + qq), rfl, small' (n := 3) (by decide), fun t5 n5 => ⟨small' (n := 5) (by decide), fun LL nLL => ?_⟩⟩⟩⟩⟩⟩
    have k1 := same_new (o := .tup Ag.count.vals) n1
    have k2 := same_new (o := .tup (Ag.among av bv).vals) n2
    have k3 := same_new (o := .tup Ag.sum.vals) n3
    have k4 := same_new (o := .tup (Ag.rank pp (1 + qq)).vals) n4
    have k5 := same_new (o := .tup (Ag.rank pp (1 + qq)).vals) n5
    have k6 := same_new (o := .lst [.ref t1, .ref t2, .ref t3, .ref t4, .ref t5]) nLL
    have g1 : AgAt _ t1 .count := k6 _ _ (k5 _ _ (k4 _ _ (k3 _ _ (k2 _ _ upd_same))))
    have g2 : AgAt _ t2 (.among av bv) := k6 _ _ (k5 _ _ (k4 _ _ (k3 _ _ upd_same)))
    have g3 : AgAt _ t3 .sum := k6 _ _ (k5 _ _ (k4 _ _ upd_same))
    have g4 : AgAt _ t4 (.rank pp (1 + qq)) := k6 _ _ (k5 _ _ upd_same)
    have g5 : AgAt _ t5 (.rank pp (1 + qq)) := k6 _ _ upd_same
    have k16 := ((((k1.trans k2).trans k3).trans k4).trans k5).trans k6
    have rok : (Ag.rank pp (1 + qq)).Ok := ⟨pp0, by omega, by omega, by omega⟩
    have hNL := k16 _ _ hNB
    obtain ⟨gx, tg, hat', hgx, gok⟩ : ∃ (gx : Ag) (tg : Addr), atI [V.ref t1, .ref t2, .ref t3, .ref t4, .ref t5] kd = some (.ref tg) ∧ AgAt (upd (upd (upd (upd (upd (upd HX' t1 (.tup Ag.count.vals)) t2 (.tup (Ag.among av bv).vals)) t3 (.tup Ag.sum.vals)) t4 (.tup (Ag.rank pp (1 + qq)).vals)) t5 (.tup (Ag.rank pp (1 + qq)).vals)) LL (.lst [.ref t1, .ref t2, .ref t3, .ref t4, .ref t5])) tg gx ∧ gx.Ok := by
      have : kd = 0 ∨ kd = 1 ∨ kd = 2 ∨ kd = 3 ∨ kd = 4 := by omega
      rcases this with z | z | z | z | z
      · exact ⟨_, t1, by rw [z]; rfl, g1, trivial⟩
      · exact ⟨_, t2, by rw [z]; rfl, g2, trivial⟩
      · exact ⟨_, t3, by rw [z]; rfl, g3, trivial⟩
      · exact ⟨_, t4, by rw [z]; rfl, g4, rok⟩
      · exact ⟨_, t5, by rw [z]; rfl, g5, rok⟩
    refine ⟨.int kd, rfl, LL, _, kd, _, rfl, rfl, .inl (.inl upd_same), hat', .ref N, rfl, N, _, rfl, .inl ⟨.inl (.inl hNL), fun na nna => ?_⟩⟩
    have k7 := same_new (o := .tup (ws.map V.str)) nna
    refine ⟨.int wv, rfl, small' (n := 3) (by decide), fun t nt => ?_⟩
    have k8 := same_new (o := .tup [.ref tg, .ref na, .int wv]) nt
    exact q _ t tg na gx ws wv ((r0B.then k16).then (k7.trans k8)) upd_same (k8 _ _ (k7 _ _ hgx)) gok (k8 _ _ upd_same)
end
def sp_l_readings (K : PySem.W.Frag) : Sp := fun vs H Q _ => ∃ (p h t : Addr) (L w : Int) (xs : List V) (ls : List Lg) (ns : List Str), vs = [.ref p, .ref h, .ref t, .int w] ∧ H p = some (.tup (.int L :: xs)) ∧ 1 ≤ L ∧ L ≤ 60 ∧ HistAt H h ls ∧ HistFew ls ∧ Vsd ls ∧ H t = some (.tup (ns.map V.str)) ∧
  ∀ (H' : Hp) (b : Addr) (zs : List Int), Same H H' → H' b = some (.lst (zs.map V.int)) → zs.Perm (rdOf L w ns ls) → zs.Pairwise (· ≤ ·) → Q (.ref b) H'
section
variable {P : Program} {w : World} {K : PySem.W.Frag} {mg : Str → Option Value} {base : Heap}
set_option pp.maxSteps 300 in
set_option maxHeartbeats 1000000 in
theorem ok_l_readings (T : Ctx K mg) : FnOk P w K mg base CX0 1 T.f_l_readings T.fd_l_readings ["plan", "history", "names", "window"] (sp_l_readings K) := by
  refine T.F_l_readings.ok sc_l_readings (fun vs H Q E h => ?_) (fun cdv A outer s H vs Q E hr h => ?_)
  · obtain ⟨p, h', t, L, w, xs, ls, ns, rfl, _⟩ := h
    rfl
  · obtain ⟨p, h0, t, L, w, xs, ls, ns, rfl, hp, hL, hL60, ⟨gs, hh, hgs⟩, few, vsd, hns, q⟩ := h
    refine ⟨_, (pss_cons (ps_set (i := 4) sc_l_readings.nd rfl (.inl rfl) (pe_lst pa_nil))
      (pss_cons (ps_for PassesOwn.never rfl (pi_tup (pv 1)) (pg_name (i := 5) sc_l_readings.nd rfl (.inl rfl))
        (pss_one (ps_for PassesOwn.never rfl (pi_tup (pe_ix ix_tup (pv 5) pe_int (fun _ _ => rfl))) (pg_name (i := 6) sc_l_readings.nd rfl (.inl rfl))
        (pss_one (ps_if (PW.pt (pw_and (pt_cmpR op_in_seq (pe_ix ix_tup (pv 5) pe_int (fun _ _ => rfl)) (pv 2) rfl) (pw_and (pt_cmpR op_notN (pe_ix ix_tup (pe_ix ix_tup (pv 6) pe_int (fun _ _ => rfl)) (pe_un un_neg pe_int) (fun _ _ => rfl)) pe_non (nomark _)) (pw_and1 (pt_cmpR op_eq (pe_op op_fdiv (pe_op op_add (pe_ix ix_tup (pv 6) pe_int (fun _ _ => rfl)) (pe_ix ix_tup (pv 5) pe_int (fun _ _ => rfl))) (pe_ix ix_tup (pv 0) pe_int (fun _ _ => rfl))) (pv 3) (nomark _))))))
        (pss_one (ps_expr (pe_bm PySem.F.plainAttrs_list PySem.F.slot_list_append PySem.F.type_list_append mt_append (pv 4) (pa_cons (pe_ix ix_tup (pe_ix ix_tup (pv 6) pe_int (fun _ _ => rfl)) (pe_un un_neg pe_int) (fun _ _ => rfl)) pa_nil))))
        pss_nil)))))
      (pss_one (ps_ret (pe_callB cr_sortedI (by rfl) T.m_sorted (by decide +kernel) (pa_cons (pv 4) pa_nil)))))), ?_⟩
    have big : (40000 : Nat) < sizeLine := by decide
    have gl : gs.length = ls.length := hgs.length
    have f1 := few.logs
    refine ⟨small' (n := 0) (by decide), fun F0 nF0 => ?_⟩
    refine ⟨.ref h0, rfl, h0, rfl, ⟨_, .inl (.inl (same_new nF0 _ _ hh))⟩, for_tup (K := K) (a := h0) (xs := gs.map V.ref) (fun i σ H' => ∃ (y5 y6 : Option V), σ = [some (.ref p), some (.ref h0), some (.ref t), some (.int w), some (.ref F0), y5, y6] ∧ Same H H' ∧ H' F0 = some (.lst ((rdOf L w ns (ls.take i)).map V.int)))
      ⟨none, none, rfl, same_new nF0, by rw [upd_same, List.take_zero]; rfl⟩ (fun i σ H' _ hp => ?_) (fun i x σ H1 hx hp => ?_) (fun σ H1 hp => ?_)⟩
    · obtain ⟨_, _, _, s1, _⟩ := hp
      exact .inl (.inl (s1 _ _ hh))
    · obtain ⟨y5, y6, rfl, s1, hF⟩ := hp
      rw [List.getElem?_map] at hx
      obtain ⟨ga, hga, rfl⟩ := Option.map_eq_some_iff.mp hx
      have il := (List.getElem?_eq_some_iff.mp hga).1
      obtain ⟨g, hg, tt, ss, hat, htt, hss⟩ := lgs_at hgs hga
      have gm := List.mem_of_getElem? hg
      have sl := few.slots g gm
      have ed := rdOf_snoc (L := L) (w := w) (ns := ns) hg
      have lacc := rdOf_len (L := L) (w := w) (ns := ns) (few.take i).slots
      rw [List.length_take] at lacc
      have er : rdLog L w ns g = (g.slots.filterMap fun s => if g.name ∈ ns then slotIn L w g.off s else none) := by
        unfold rdLog
        split
        · rfl
        · exact (List.filterMap_eq_nil_iff.mpr fun _ _ => rfl).symm
      refine ⟨.ref ga, rfl, ga, _, 2, _, rfl, rfl, .inl (.inl (s1 _ _ hat)), atI_nat (j := 2) rfl, tt, rfl, ⟨_, .inl (.inl (s1 _ _ htt))⟩, for_tup (K := K) (a := tt) (xs := ss.map V.ref) (fun j σ H' => ∃ (y6 : Option V), σ = [some (.ref p), some (.ref h0), some (.ref t), some (.int w), some (.ref F0), some (.ref ga), y6] ∧ Same H H' ∧ H' F0 = some (.lst ((rdOf L w ns (ls.take i) ++ (g.slots.take j).filterMap fun s => if g.name ∈ ns then slotIn L w g.off s else none).map V.int)))
        ⟨_, rfl, s1, by rw [List.take_zero, List.filterMap_nil, List.append_nil]; exact hF⟩ (fun j σ H' _ hp => ?_) (fun j x σ H2 hx hp => ?_) (fun σ H2 hp => ?_)⟩
      · obtain ⟨_, _, s2, _⟩ := hp
        exact .inl (.inl (s2 _ _ htt))
      · obtain ⟨y6, rfl, s2, hF2⟩ := hp
        rw [List.getElem?_map] at hx
        obtain ⟨sa, hsa0, rfl⟩ := Option.map_eq_some_iff.mp hx
        have hj := (List.getElem?_eq_some_iff.mp hsa0).1
        obtain ⟨s, hs, tv, hsa, htv⟩ := sls_at hss hsa0
        have sm := List.mem_of_getElem? hs
        obtain ⟨o, ho, hlo, us, eu⟩ := last_at (vsd g gm s sm)
        have es := fmap_snoc (f := fun s => if g.name ∈ ns then slotIn L w g.off s else none) hs
        have hacc : (rdOf L w ns (ls.take i) ++ (g.slots.take j).filterMap fun s => if g.name ∈ ns then slotIn L w g.off s else none).length ≤ 4000 := by
          have := List.length_filterMap_le (fun s => if g.name ∈ ns then slotIn L w g.off s else none) (g.slots.take j)
          rw [List.length_take] at this
          rw [List.length_append]
          omega
        have hG : SqT K H2 ga [.str g.name, .int g.off, .ref tt] := .inl (.inl (s2 _ _ hat))
        have hS : SqT K H2 sa [.int s.stamp, .ref tv] := .inl (.inl (s2 _ _ hsa))
        have hP : SqT K H2 p (.int L :: xs) := .inl (.inl (s2 _ _ hp))
        have skip : (if g.name ∈ ns then slotIn L w g.off s else none) = none → ∃ (y6 : Option V), ([some (.ref p), some (.ref h0), some (.ref t), some (.int w), some (.ref F0), some (.ref ga), some (.ref sa)] : List (Option V)) = [some (.ref p), some (.ref h0), some (.ref t), some (.int w), some (.ref F0), some (.ref ga), y6] ∧ Same H H2 ∧ H2 F0 = some (.lst ((rdOf L w ns (ls.take i) ++ (g.slots.take (j + 1)).filterMap fun s => if g.name ∈ ns then slotIn L w g.off s else none).map V.int)) := fun en => ⟨_, rfl, s2, by rw [es, en]; exact (by rw [Option.toList_none, List.append_nil]; exact hF2)⟩
        have hV : SqT K H2 tv (s.vers.map optV) := .inl (.inl (s2 _ _ htv))
        have atO : atI (s.vers.map optV) (-1) = some (optV o) := ho
        refine ⟨.ref ga, rfl, ga, _, 0, _, rfl, rfl, hG, atI_nat (j := 0) rfl, .ref t, rfl, t, _, rfl, .inr (.inl (.inl (s2 _ _ hns))), rfl, flat_names _, _, rfl, ?_⟩
        show if inV (.str g.name) (ns.map V.str) = true then _ else _
        rw [in_names]
        refine ite2 (fun e1 => ?_) (fun e1 => skip (if_neg (of_decide_eq_false (Bool.eq_false_iff.mpr e1))))
        have hin : g.name ∈ ns := of_decide_eq_true e1
        refine ⟨.ref sa, rfl, sa, _, 1, _, rfl, rfl, hS, atI_nat (j := 1) rfl, _, rfl, tv, _, -1, _, rfl, rfl, hV, atO, ?_⟩
        cases o with
        | none =>
          refine ⟨rfl, _, rfl, ite2 (fun e => absurd e (by decide)) (fun _ => skip ?_)⟩
          rw [if_pos hin]
          unfold slotIn
          rw [hlo]
          split <;> rfl
        | some v =>
          refine ⟨rfl, _, rfl, ite2 (fun _ => ?_) (fun e => absurd rfl e)⟩
          refine ⟨.ref sa, rfl, sa, _, 0, _, rfl, rfl, hS, atI_nat (j := 0) rfl, .ref ga, rfl, ga, _, 1, _, rfl, rfl, hG, atI_nat (j := 1) rfl, _, _, rfl, rfl, .ref p, rfl, p, _, 0, _, rfl, rfl, hP, atI_nat (j := 0) rfl, _, _, rfl, rfl, ⟨by omega, by omega⟩, .int w, rfl, rfl, _, rfl, ite2 (fun e3 => ?_) (fun e3 => skip ?_)⟩
          · have ew : (s.stamp + g.off) / L = w := V.int.inj (of_decide_eq_true e3)
            have e4 : (if g.name ∈ ns then slotIn L w g.off s else none) = some v := by
              rw [if_pos hin]
              unfold slotIn
              rw [if_pos ew, hlo]
            refine ⟨.ref F0, rfl, .inl ⟨rfl, _, .inl (.inl hF2)⟩, .ref sa, rfl, sa, _, 1, _, rfl, rfl, hS, atI_nat (j := 1) rfl, _, rfl, tv, _, -1, _, rfl, rfl, hV, atO, F0, _, _, rfl, rfl, hF2, by rw [List.length_map]; omega, ?_⟩
            refine ⟨_, rfl, same_keep s2 nF0, ?_⟩
            rw [upd_same, es, e4, ← List.append_assoc, List.map_append (l₂ := (some v).toList)]
            rfl
          · rw [if_pos hin]
            unfold slotIn
            exact if_neg fun z => e3 (decide_eq_true (show V.int ((s.stamp + g.off) / L) = V.int w by rw [z]))
      · obtain ⟨y6, rfl, s2, hF2⟩ := hp
        rw [List.length_map, hss.length, List.take_length] at hF2
        exact ⟨_, _, rfl, s2, by rw [ed, er]; exact hF2⟩
    · obtain ⟨y5, y6, rfl, s1, hF⟩ := hp
      rw [List.length_map, gl, List.take_length] at hF
      exact ⟨.ref F0, rfl, F0, _, rfl, .inl (.inl hF), fun ws L' pm up nL => q _ L' ws (s1.trans (same_new nL)) upd_same pm up⟩
end
def sp_l_value (K : PySem.W.Frag) : Sp := fun vs H Q _ => ∃ (a v : Addr) (g : Ag) (xs : List Int), vs = [.ref a, .ref v] ∧ AgAt H a g ∧ H v = some (.lst (xs.map V.int)) ∧ xs.length ≤ 1000 ∧ g.Ok ∧ ∀ H', Same H H' → Q (valOf g xs) H'
section
variable {P : Program} {w : World} {K : PySem.W.Frag} {mg : Str → Option Value} {base : Heap}
set_option pp.maxSteps 300 in
theorem ok_l_value (T : Ctx K mg) : FnOk P w K mg base CX0 1 T.f_l_value T.fd_l_value ["aggregate", "values"] (sp_l_value K) := by
  refine T.F_l_value.ok sc_l_value (fun vs H Q E h => ?_) (fun cdv A outer s H vs Q E hr h => ?_)
  · obtain ⟨a, v, g, xs, rfl, _⟩ := h
    rfl
  · obtain ⟨a, v, g, xs, rfl, ha, hv, few, ok, q⟩ := h
    refine ⟨_, (pss_cons (ps_if (pt_cmpR op_eq (pe_ix ix_tup (pv 0) pe_int (fun _ _ => rfl)) pe_str (nomark _))
        (pss_one (ps_ret (pe_callB call_len_seq (by rfl) T.m_len (by decide +kernel) (pa_cons (pv 1) pa_nil))))
        pss_nil)
      (pss_cons (ps_if (pt_cmpR op_eq (pe_ix ix_tup (pv 0) pe_int (fun _ _ => rfl)) pe_str (nomark _))
        (pss_one (ps_ret (pe_callB call_len_seq (by rfl) T.m_len (by decide +kernel) (pa_cons (pe_lc (own := [("value", 2)]) (g := gName 2) (by rfl) sc_l_value.nd (pi_list (pv 1)) (blkOk_by (own := [("value", 2)]) (N := ["aggregate", "values", "value"]) (sc := defScope s_l_value) (by decide +kernel)) (fun _ _ _ _ _ => pg_name (i := 2) sc_l_value.nd rfl (Or.inl rfl)) (fun _ _ _ _ _ => (pts_one (PW.pt (pw_and (pt_cmpR op_le (pe_ix (show IxR _ (rIxT K) from ix_tup) (pv 0) pe_int (fun _ _ => rfl)) (pv 2) (nomark _)) (pw_and1 (pt_cmpR op_le (pv 2) (pe_ix (show IxR _ (rIxT K) from ix_tup) (pv 0) pe_int (fun _ _ => rfl)) (nomark _))))))) (fun _ _ _ _ _ => (pv 2))) pa_nil))))
        pss_nil)
      (pss_cons (ps_if (pt_cmpR op_eq (pe_ix ix_tup (pv 0) pe_int (fun _ _ => rfl)) pe_str (nomark _))
        (pss_one (ps_ret (pe_callB (cr_sum rfl) (by rfl) T.m_sum (by decide +kernel) (pa_cons (pv 1) pa_nil))))
        pss_nil)
      (pss_cons (ps_if (pt_cmpR op_eq (pe_callB call_len_seq (by rfl) T.m_len (by decide +kernel) (pa_cons (pv 1) pa_nil)) pe_int (nomark _))
        (pss_one (ps_ret pe_non))
        pss_nil)
      (pss_one (ps_ret (pe_ix ix_list (pv 1) (pe_op op_fdiv (pe_op op_mul (pe_op op_sub (pe_callB call_len_seq (by rfl) T.m_len (by decide +kernel) (pa_cons (pv 1) pa_nil)) pe_int) (pe_ix ix_tup (pv 0) pe_int (fun _ _ => rfl))) (pe_ix ix_tup (pv 0) pe_int (fun _ _ => rfl))) (fun _ _ => rfl)))))))), ?_⟩
    have hT : SqL K H v (xs.map V.int) := .inl (.inl hv)
    cases g with
    | count =>
      refine ⟨.ref a, rfl, a, _, 0, _, rfl, rfl, .inl (.inl ha), atI_nat (j := 0) rfl, rfl, _, rfl, ite2 (fun _ => ?_) (fun e => absurd (decide_eq_true rfl) e)⟩
      have qq := q _ (Same.refl H)
      refine ⟨.ref v, rfl, v, _, rfl, .inl hT, ?_⟩
      rw [List.length_map]
      exact qq
    | among lo hi =>
      have hA : SqT K H a [.str "among", .int lo, .int hi] := .inl (.inl ha)
      refine ⟨.ref a, rfl, a, _, 0, _, rfl, rfl, hA, atI_nat (j := 0) rfl, rfl, _, rfl, ite2 (fun e => absurd e (by decide +kernel)) (fun _ => ?_)⟩
      refine ⟨.ref a, rfl, a, _, 0, _, rfl, rfl, hA, atI_nat (j := 0) rfl, rfl, _, rfl, ite2 (fun _ => ?_) (fun e => absurd (decide_eq_true rfl) e)⟩
      refine ⟨.ref v, rfl, v, rfl, ⟨_, hT⟩, fun C nC => lc_list (K := K) (a := v) (xs := xs.map V.int) (fun i H' => Same H H' ∧ H' C = some (.lst (((xs.take i).filter (within lo hi)).map V.int))) ⟨same_new nC, upd_same⟩ (fun i H' _ z => .inl (.inl (z.1 _ _ hv))) (fun i x H' hx z => ?_) (fun H' z => ?_)⟩
      · obtain ⟨s2, hC⟩ := z
        obtain ⟨k, hk, rfl⟩ := int_at hx
        have il := (List.getElem?_eq_some_iff.mp hk).1
        have fl := filt_snoc (within lo hi) hk
        have l1 : ((xs.take i).filter (within lo hi)).length ≤ i := Nat.le_trans (List.length_filter_le _ _) (by rw [List.length_take]; omega)
        have hA2 : SqT K H' a [.str "among", .int lo, .int hi] := .inl (.inl (s2 _ _ ha))
        refine ⟨rfl, .ref a, rfl, a, _, 1, _, rfl, rfl, hA2, atI_nat (j := 1) rfl, .int k, rfl, _, _, rfl, rfl, _, rfl, ite2 (fun e1 => ?_) (fun e1 => ?_)⟩
        · have c1 : k ≥ lo := of_decide_eq_true e1
          refine ⟨.int k, rfl, .ref a, rfl, a, _, 2, _, rfl, rfl, hA2, atI_nat (j := 2) rfl, _, _, rfl, rfl, _, rfl, ite2 (fun e2 => ?_) (fun e2 => ?_)⟩
          · have c2 : k ≤ hi := of_decide_eq_true e2
            have w : within lo hi k = true := by
              show (decide (lo ≤ k) && decide (k ≤ hi)) = true
              rw [decide_eq_true c1, decide_eq_true c2]; rfl
            rw [if_pos w] at fl
            refine ⟨.int k, rfl, _, hC, by rw [List.length_map]; exact small (by omega), same_keep s2 nC, ?_⟩
            rw [upd_same, fl, List.map_append]
            rfl
          · have w : ¬ within lo hi k = true := fun z => e2 (decide_eq_true (of_decide_eq_true (Bool.and_eq_true_iff.mp z).2))
            rw [if_neg w, List.append_nil] at fl
            exact ⟨s2, by rw [fl]; exact hC⟩
        · have w : ¬ within lo hi k = true := fun z => e1 (decide_eq_true (show k ≥ lo from of_decide_eq_true (Bool.and_eq_true_iff.mp z).1))
          rw [if_neg w, List.append_nil] at fl
          exact ⟨s2, by rw [fl]; exact hC⟩
      · obtain ⟨s2, hC⟩ := z
        rw [List.length_map, List.take_length] at hC
        refine ⟨C, _, rfl, .inl (.inl (.inl hC)), ?_⟩
        rw [List.length_map]
        exact q _ s2
    | sum =>
      have hA : SqT K H a [.str "sum"] := .inl (.inl ha)
      refine ⟨.ref a, rfl, a, _, 0, _, rfl, rfl, hA, atI_nat (j := 0) rfl, rfl, _, rfl, ite2 (fun e => absurd e (by decide +kernel)) (fun _ => ?_)⟩
      refine ⟨.ref a, rfl, a, _, 0, _, rfl, rfl, hA, atI_nat (j := 0) rfl, rfl, _, rfl, ite2 (fun e => absurd e (by decide +kernel)) (fun _ => ?_)⟩
      refine ⟨.ref a, rfl, a, _, 0, _, rfl, rfl, hA, atI_nat (j := 0) rfl, rfl, _, rfl, ite2 (fun _ => ?_) (fun e => absurd (decide_eq_true rfl) e)⟩
      exact ⟨.ref v, rfl, v, xs, rfl, hT, q _ (Same.refl H)⟩
    | rank pp qq =>
      have hA : SqT K H a [.str "rank", .int pp, .int qq] := .inl (.inl ha)
      have q1 := q _ (Same.refl H)
      refine ⟨.ref a, rfl, a, _, 0, _, rfl, rfl, hA, atI_nat (j := 0) rfl, rfl, _, rfl, ite2 (fun e => absurd e (by decide +kernel)) (fun _ => ?_)⟩
      refine ⟨.ref a, rfl, a, _, 0, _, rfl, rfl, hA, atI_nat (j := 0) rfl, rfl, _, rfl, ite2 (fun e => absurd e (by decide +kernel)) (fun _ => ?_)⟩
      refine ⟨.ref a, rfl, a, _, 0, _, rfl, rfl, hA, atI_nat (j := 0) rfl, rfl, _, rfl, ite2 (fun e => absurd e (by decide +kernel)) (fun _ => ?_)⟩
      refine ⟨.ref v, rfl, v, _, rfl, .inl hT, rfl, _, rfl, ite2 (fun e => ?_) (fun e => ?_)⟩
      · have e0 : xs = [] := by
          have z : ((xs.map V.int).length : Int) = 0 := V.int.inj (of_decide_eq_true e)
          rw [List.length_map] at z
          exact List.length_eq_zero_iff.mp (by omega)
        rw [e0, rank_nil] at q1
        exact q1
      · have hn : xs ≠ [] := fun z => by
          subst z
          exact e (decide_eq_true rfl)
        obtain ⟨h0, h1, h2, h3⟩ := ok
        obtain ⟨k, hk, ea, ev⟩ := rank_at hn h0 h1 h2
        rw [ev] at q1
        refine ⟨.ref v, rfl, .ref v, rfl, v, _, rfl, .inl hT, _, _, rfl, rfl, .ref a, rfl, a, _, 1, _, rfl, rfl, hA, atI_nat (j := 1) rfl, _, _, rfl, rfl, .inl ⟨?_, ?_⟩, .ref a, rfl, a, _, 2, _, rfl, rfl, hA, atI_nat (j := 2) rfl, _, _, rfl, rfl, ?_, v, _, _, _, rfl, rfl, hT, ?_, q1⟩
        · rw [List.length_map]; omega
        · rw [List.length_map]; omega
        · exact ⟨by omega, by omega⟩
        · rw [List.length_map]
          exact ea
end
theorem lg85_few {ls : List Lg} (l : ls.length ≤ 2) (h : ∀ g ∈ ls, Lg85 g) : HistFew ls :=
  ⟨by omega, fun g hg => by have := (h g hg).1; omega, fun g hg s hs => ((h g hg).2 s hs).2⟩
theorem lg85_vsd {ls : List Lg} (h : ∀ g ∈ ls, Lg85 g) : Vsd ls := fun g hg s hs => ((h g hg).2 s hs).1
theorem lg85_rd {L : Int} {ls : List Lg} (l : ls.length ≤ 2) (h : ∀ g ∈ ls, Lg85 g) : RdFew L ls := fun w ns => by
  have := rdOf_len (L := L) (w := w) (ns := ns) (lg85_few l h).slots
  omega
def sp_l_alarm (K : PySem.W.Frag) : Sp := fun vs H Q _ => ∃ (d p tm h : Addr) (ts : List Addr) (P : Pl) (ls : List Lg) (nm : Str), vs = [.ref d, .ref p, .ref h, .str nm] ∧ DrA H d ∧ PlanAt H p tm ts P ∧ 1 ≤ P.len ∧ P.len ≤ 60 ∧ P.ms ≠ [] ∧ P.ms.length ≤ 2 ∧ HistAt H h ls ∧ ls.length = P.ms.length ∧ (∀ g ∈ ls, Lg85 g) ∧
  ∀ (H' : Hp) (t : Addr) (x : Al), Dr d H H' → AlAt H' t x → x.g.Ok → Q (.ref t) H'
theorem AgAt.kept {H H' : Hp} (k : KT H H') {a : Addr} {g : Ag} (h : AgAt H a g) : AgAt H' a g := k _ _ h
theorem AlAt.kept {H H' : Hp} (k : KT H H') {a : Addr} {x : Al} (h : AlAt H a x) : AlAt H' a x := let ⟨ga, na, e1, e2, e3⟩ := h; ⟨ga, na, k _ _ e1, k _ _ e2, k _ _ e3⟩
section
variable {P : Program} {w : World} {K : PySem.W.Frag} {mg : Str → Option Value} {base : Heap}
set_option pp.maxSteps 400 in
set_option maxHeartbeats 2000000 in
theorem ok_l_alarm (T : Ctx K mg) : FnOk P w K mg base CX0 3 T.f_l_alarm T.fd_l_alarm ["draws", "plan", "history", "name"] (sp_l_alarm K) := by
  refine T.F_l_alarm.ok sc_l_alarm (fun vs H Q E h => ?_) (fun cdv A outer s H vs Q E hr h => ?_)
  · obtain ⟨d, p, tm, h', ts, P, ls, nm, rfl, _⟩ := h
    rfl
  · obtain ⟨d, p, tm, h0, ts, P, ls, nm, rfl, hd, pa, L1, L60, ne, few, hh, hl, lok, q⟩ := h
    refine ⟨_, (pss_cons (ps_set (i := 4) sc_l_alarm.nd rfl (.inl rfl) (pe_call (ok_l_question T) (hr.mono (by decide)) (by rfl) T.g_l_question T.F_l_question.kp T.b_l_question .nil pass0 (pa_cons (pv 0) (pa_cons (pv 1) (pa_cons (pv 2) pa_nil)))))
      (pss_cons (ps_set (i := 5) sc_l_alarm.nd rfl (.inl rfl) (pe_call (ok_l_value T) (hr.mono (by decide)) (by rfl) T.g_l_value T.F_l_value.kp T.b_l_value .nil pass0 (pa_cons (pe_ix ix_tup (pv 4) pe_int (fun _ _ => rfl)) (pa_cons (pe_call (ok_l_readings T) (hr.mono (by decide)) (by rfl) T.g_l_readings T.F_l_readings.kp T.b_l_readings .nil pass0 (pa_cons (pv 1) (pa_cons (pv 2) (pa_cons (pe_ix ix_tup (pv 4) pe_int (fun _ _ => rfl)) (pa_cons (pe_ix ix_tup (pv 4) pe_int (fun _ _ => rfl)) pa_nil))))) pa_nil))))
      (C8.pss_cut (ps_if (pt_cmpR op_isN (pv 5) pe_non (nomark _))
        (pss_one (ps_set (i := 5) sc_l_alarm.nd rfl (.inl rfl) pe_int))
        pss_nil)
      (pss_cons (ps_set (i := 6) sc_l_alarm.nd rfl (.inl rfl) (pe_op op_sub (pe_op op_add (pv 5) (pe_call (ok_l_take T) (hr.mono (by decide)) (by rfl) T.g_l_take T.F_l_take.kp T.b_l_take .nil pass0 (pa_cons (pv 0) (pa_cons pe_int pa_nil)))) pe_int))
      (pss_cons (ps_set (i := 7) sc_l_alarm.nd rfl (.inl rfl) (pe_ix ix_list (pe_lst (pa_cons pe_str (pa_cons pe_str pa_nil))) (pe_call (ok_l_take T) (hr.mono (by decide)) (by rfl) T.g_l_take T.F_l_take.kp T.b_l_take .nil pass0 (pa_cons (pv 0) (pa_cons pe_int pa_nil))) (fun _ _ => rfl)))
      (pss_cons (ps_set (i := 8) sc_l_alarm.nd rfl (.inl rfl) (pe_call (ok_l_take T) (hr.mono (by decide)) (by rfl) T.g_l_take T.F_l_take.kp T.b_l_take .nil pass0 (pa_cons (pv 0) (pa_cons pe_int pa_nil))))
      (pss_cons (ps_set (i := 9) sc_l_alarm.nd rfl (.inl rfl) (pe_callB (call_max2 rfl) (by rfl) T.m_max (by decide +kernel) (pa_cons (pv 8) (pa_cons (pe_ix ix_list (pe_lst (pa_cons pe_int (pa_cons pe_int (pa_cons pe_int (pa_cons pe_int (pa_cons pe_int (pa_cons pe_int (pa_cons pe_int (pa_cons pe_int pa_nil))))))))) (pe_call (ok_l_take T) (hr.mono (by decide)) (by rfl) T.g_l_take T.F_l_take.kp T.b_l_take .nil pass0 (pa_cons (pv 0) (pa_cons pe_int pa_nil))) (fun _ _ => rfl)) pa_nil))))
      (pss_one (ps_ret (pe_tup (pa_cons (pv 3) (pa_cons (pe_ix ix_tup (pv 4) pe_int (fun _ _ => rfl)) (pa_cons (pe_ix ix_tup (pv 4) pe_int (fun _ _ => rfl)) (pa_cons (pv 7) (pa_cons (pv 6) (pa_cons (pe_op op_sub (pe_ix ix_tup (pv 4) pe_int (fun _ _ => rfl)) (pv 8)) (pa_cons (pe_op op_add (pe_op op_sub (pe_ix ix_tup (pv 4) pe_int (fun _ _ => rfl)) (pv 8)) (pv 9)) pa_nil))))))))))))))))), ?_⟩
    have lf : ls.length ≤ 2 := by omega
    refine ⟨.ref d, rfl, .ref p, rfl, .ref h0, rfl, d, p, tm, h0, ts, P, ls, rfl, hd, pa, L1, L60, ne, few, hh, hl, lok, fun H1 t ga na g ns w r1 ht hga gok hna => ?_⟩
    have hT : SqT K H1 t [.ref ga, .ref na, .int w] := .inl (.inl ht)
    have top1 := (r1.plan hd pa).top
    have hh1 := hh.kept (r1.kt hd)
    refine ⟨.ref t, rfl, t, _, 0, _, rfl, rfl, hT, atI_nat (j := 0) rfl, .ref p, rfl, .ref h0, rfl, .ref t, rfl, t, _, 1, _, rfl, rfl, hT, atI_nat (j := 1) rfl, .ref t, rfl, t, _, 2, _, rfl, rfl, hT, atI_nat (j := 2) rfl, p, h0, na, P.len, w, _, ls, ns, rfl, top1, L1, L60, hh1, lg85_few lf lok, lg85_vsd lok, hna, fun H2 b zs s2 hb pm up => ?_⟩
    have lz := pm.length_eq
    have l2 := lg85_rd (L := P.len) lf lok w ns
    refine ⟨ga, b, g, zs, rfl, s2 _ _ hga, hb, by omega, gok, fun H3 s3 => ?_⟩
    have s13 := s2.trans s3
    have r3 := r1.then s13
    refine ⟨fun σ HX => HX = H3 ∧ ∃ (v : Int) (y6 y7 y8 y9 : Option V), σ = [some (.ref d), some (.ref p), some (.ref h0), some (.str nm), some (.ref t), some (.int v), y6, y7, y8, y9], ?_, fun σ HX z => ?_⟩
    · rcases valOf_kind g zs with e | ⟨i, e⟩
      · rw [e]
        exact ⟨.non, rfl, rfl, _, rfl, iteT ⟨rfl, _, _, _, _, _, rfl⟩⟩
      · rw [e]
        exact ⟨.int i, rfl, rfl, _, rfl, iteF ⟨rfl, _, _, _, _, _, rfl⟩⟩
    obtain ⟨rfl, v, y6, y7, y8, y9, rfl⟩ := z
    have hdX := r3.at_
    refine ⟨.int v, rfl, .ref d, rfl, d, _, rfl, hdX, by decide, fun H4 u r4 u0 u1 => ⟨_, _, rfl, rfl, _, _, rfl, rfl, ?_⟩⟩
    obtain ⟨lim, el⟩ : ∃ lim : Int, lim = v + u - 2 := ⟨_, rfl⟩
    dsimp only
    rw [← el]
    refine ⟨small' (n := 2) (by decide), fun pb npb => ?_⟩
    have r04 := r3.trans r4
    have kb := same_new (o := .lst [.str "over", .str "under"]) npb
    have q4 := r04.then kb
    refine ⟨.ref d, rfl, d, _, rfl, q4.at_, by decide, fun H5 u5 r5 u50 u51 => ?_⟩
    have hB : H5 pb = some (.lst [.str "over", .str "under"]) := r5.keep _ _ (r04.ne npb) upd_same
    obtain ⟨ov, ba⟩ : ∃ ov : Bool, atI [V.str "over", .str "under"] u5 = some (.str (relS ov)) := by
      have : u5 = 0 ∨ u5 = 1 := by omega
      rcases this with z | z
      · exact ⟨true, by rw [z]; rfl⟩
      · exact ⟨false, by rw [z]; rfl⟩
    refine ⟨pb, _, u5, _, rfl, rfl, .inl (.inl hB), ba, ?_⟩
    have q5 := q4.trans r5
    refine ⟨.ref d, rfl, d, _, rfl, q5.at_, by decide, fun H6 ea r6 ea0 ea1 => ?_⟩
    have q6 := q5.trans r6
    refine ⟨.int ea, rfl, small' (n := 8) (by decide), fun pc npc => ?_⟩
    have kc := same_new (o := .lst [.int 0, .int 1, .int 0, .int 1, .int 0, .int 1, .int 4, .int 9]) npc
    have q7 := q6.then kc
    refine ⟨.ref d, rfl, d, _, rfl, q7.at_, by decide, fun H8 u8 r8 u80 u81 => ?_⟩
    have hC : H8 pc = some (.lst [.int 0, .int 1, .int 0, .int 1, .int 0, .int 1, .int 4, .int 9]) := r8.keep _ _ (q6.ne npc) upd_same
    obtain ⟨la, lm, laA⟩ := pick (xs := [0, 1, 0, 1, 0, 1, 4, 9]) (vs := [.int 0, .int 1, .int 0, .int 1, .int 0, .int 1, .int 4, .int 9]) (k := u8) rfl u80 (by show u8 < 8; omega)
    refine ⟨pc, _, u8, _, rfl, rfl, .inl (.inl hC), laA, _, _, rfl, ?_⟩
    have q8 := q7.trans r8
    have k38 : KT HX H8 := KT.trans (KT.trans (KT.trans (KT.trans (KT.trans (r4.kt hdX) (Same.kt kb)) (r5.kt q4.at_)) (r6.kt q5.at_)) (Same.kt kc)) (r8.kt q7.at_)
    have kk := KT.trans (Same.kt s13) k38
    have hT8 : SqT K H8 t [.ref ga, .ref na, .int w] := .inl (.inl (kk _ _ ht))
    generalize (if la > ea then la else ea) = late
    refine ⟨.str nm, rfl, .ref t, rfl, t, _, 0, _, rfl, rfl, hT8, atI_nat (j := 0) rfl, .ref t, rfl, t, _, 1, _, rfl, rfl, hT8, atI_nat (j := 1) rfl, .str (relS ov), rfl, .int lim, rfl, .ref t, rfl, t, _, 2, _, rfl, rfl, hT8, atI_nat (j := 2) rfl, .int ea, rfl, _, _, rfl, rfl, .ref t, rfl, t, _, 2, _, rfl, rfl, hT8, atI_nat (j := 2) rfl, .int ea, rfl, _, _, rfl, rfl, .int late, rfl, _, _, rfl, rfl, small' (n := 7) (by decide), fun z nz => ?_⟩
    have kz := same_new (o := .tup [.str nm, .ref ga, .ref na, .str (relS ov), .int lim, .int (w - ea), .int (w - ea + late)]) nz
    exact q _ z ⟨nm, g, ns, ov, lim, w - ea, w - ea + late⟩ (q8.then kz) ⟨ga, na, upd_same, kz _ _ (kk _ _ hga), kz _ _ (kk _ _ hna)⟩ gok
end
def sp_l_alarms (K : PySem.W.Frag) : Sp := fun vs H Q _ => ∃ (d p tm h : Addr) (ts : List Addr) (P : Pl) (ls : List Lg) (m : Int), vs = [.ref d, .ref p, .ref h, .int m] ∧ DrA H d ∧ PlanAt H p tm ts P ∧ 1 ≤ P.len ∧ P.len ≤ 60 ∧ P.ms ≠ [] ∧ P.ms.length ≤ 2 ∧ HistAt H h ls ∧ ls.length = P.ms.length ∧ (∀ g ∈ ls, Lg85 g) ∧ 0 ≤ m ∧ m ≤ 100 ∧
  ∀ (H' : Hp) (t : Addr) (us : List Addr) (xs : List Al), Dr d H H' → H' t = some (.lst (us.map V.ref)) → Paired (AlAt H') us xs → (∀ x ∈ xs, x.g.Ok) → t ≠ d → Q (.ref t) H'
section
variable {P : Program} {w : World} {K : PySem.W.Frag} {mg : Str → Option Value} {base : Heap}
set_option pp.maxSteps 400 in
set_option maxHeartbeats 2000000 in
theorem ok_l_alarms (T : Ctx K mg) : FnOk P w K mg base CX0 4 T.f_l_alarms T.fd_l_alarms ["draws", "plan", "history", "many"] (sp_l_alarms K) := by
  refine T.F_l_alarms.ok sc_l_alarms (fun vs H Q E h => ?_) (fun cdv A outer s H vs Q E hr h => ?_)
  · obtain ⟨d, p, tm, h', ts, P, ls, m, rfl, _⟩ := h
    rfl
  · obtain ⟨d, p, tm, h0, ts, P, ls, m, rfl, hd, pa, L1, L60, ne, few, hh, hl, lok, m0, m1, q⟩ := h
    refine ⟨_, (pss_cons (ps_set (i := 4) sc_l_alarms.nd rfl (.inr rfl) (pe_op op_add pe_int (pe_call (ok_l_take T) (hr.mono (by decide)) (by rfl) T.g_l_take T.F_l_take.kp T.b_l_take .nil pass0 (pa_cons (pv 0) (pa_cons pe_int pa_nil)))))
      (pss_one (ps_ret (pe_lc (own := [("k", 5)]) (g := gName 5) (by rfl) sc_l_alarms.nd (pi_range1 (by rfl) T.m_range (pa_cons (pv 3) pa_nil)) (blkOk_by (own := [("k", 5)]) (N := ["draws", "plan", "history", "many", "first", "k"]) (sc := defScope s_l_alarms) (by decide +kernel)) (fun _ _ _ _ _ => pg_name (i := 5) sc_l_alarms.nd rfl (Or.inl rfl)) (fun _ _ _ _ _ => pts_nil) (fun _ _ _ _ _ => (pe_call (ok_l_alarm T) (hr.mono (by decide)) (by rfl) T.g_l_alarm T.F_l_alarm.kp T.b_l_alarm .nil pass0 (pa_cons (pv 0) (pa_cons (pv 1) (pa_cons (pv 2) (pa_cons (pe_call (ok_l_word T) (hr.mono (by decide)) (by rfl) T.g_l_word T.F_l_word.kp T.b_l_word .nil pass0 (pa_cons (pe_op op_add (pe_op op_add pe_int (pe_op op_mod (pe_callTy call_int1 (by rfl) T.m_int (by decide +kernel) (pa_cons (pe_op op_mul (pv 4) (pe_op op_add (pv 5) pe_int)) pa_nil)) pe_int)) (pe_op op_mul pe_int (pv 5))) pa_nil)) pa_nil)))))))))), ?_⟩
    refine ⟨.ref d, rfl, d, _, rfl, hd, by decide, fun H1 f r1 f0 f1 => ⟨_, _, rfl, rfl, ?_⟩⟩
    dsimp only
    refine ⟨.int m, rfl, _, rfl, by omega, by omega, fun C nC => ?_⟩
    have nCd := r1.ne nC
    have nHC := r1.free hd nC
    refine lc_range (lo := 0) (n := m.toNat) (fun i H' => Dr d H H' ∧ ∃ (us : List Addr) (xs : List Al), H' C = some (.lst (us.map V.ref)) ∧ Paired (AlAt H') us xs ∧ (∀ x ∈ xs, x.g.Ok) ∧ us.length = i) ⟨r1.then (same_new nC), [], [], upd_same, .nil, (fun _ z => nomatch z), rfl⟩ (fun i H' hi z => ?_) (fun H' z => ?_)
    · obtain ⟨r2, us, xs, hC, hx, xok, ul⟩ := z
      refine ⟨rfl, .ref d, rfl, .ref p, rfl, .ref h0, rfl, .int (1 + f), rfl, .int (0 + (i : Int)), rfl, _, _, rfl, rfl, _, _, rfl, rfl, .inl ⟨by omega, by omega⟩, .inl ⟨_, rfl, _, _, rfl, rfl, (show (0 : Int) < 800 by decide), _, _, rfl, rfl, .int (0 + (i : Int)), rfl, _, _, rfl, rfl, .inl ⟨by decide, by decide⟩, _, _, rfl, rfl, _, rfl, ?_⟩⟩
      refine ⟨d, p, tm, h0, ts, P, ls, _, rfl, r2.at_, r2.plan hd pa, L1, L60, ne, few, hh.kept (r2.kt hd), hl, lok, fun H3 t x r3 hat gok => ?_⟩
      have hC3 := r3.keep _ _ nCd hC
      refine ⟨_, hC3, by rw [List.length_map]; exact small (by omega), (r2.trans r3).keepNew nCd nHC, us ++ [t], xs ++ [x], by rw [upd_same, map_snoc], ?_, fun y hy => ?_, by rw [List.length_append, ul]; rfl⟩
      · exact (L2.Paired.mapP hx fun _ _ y => y.kept (KT.trans (r3.kt r2.at_) (kt_lst hC3))).snoc (hat.kept (kt_lst hC3))
      · rcases List.mem_append.mp hy with z | z
        · exact xok y z
        · rw [List.mem_singleton.mp z]
          exact gok
    · obtain ⟨r2, us, xs, hC, hx, xok, ul⟩ := z
      exact q _ C us xs r2 hC hx xok nCd
end
def sp_l_is_truth (K : PySem.W.Frag) : Sp := fun vs H Q _ => ∃ b : Bool, vs = [.bl b, .bl b] ∧ Q (.bl true) H
section
variable {P : Program} {w : World} {K : PySem.W.Frag} {mg : Str → Option Value} {base : Heap}
theorem ok_l_is_truth (T : Ctx K mg) : FnOk P w K mg base CX0 1 T.f_l_is_truth T.fd_l_is_truth ["actual", "due"] (sp_l_is_truth K) := by
  refine T.F_l_is_truth.ok sc_l_is_truth (fun vs H Q E h => ?_) (fun cdv A outer s H vs Q E hr h => ?_)
  · obtain ⟨b, rfl, _⟩ := h
    rfl
  · obtain ⟨b, rfl, q⟩ := h
    refine ⟨_, (pss_one (ps_ret (pe_and (pe_callB call_isi (by rfl) T.m_isinstance (by decide +kernel) (pa_cons (pv 0) (pa_cons (pe_bltn (v := .ty "bool") (by rfl) T.m_bool (by decide +kernel) rfl) pa_nil))) (pe_one (pe_cmpR op_eq (pv 0) (pv 1) (nomark _)))))), ?_⟩
    refine ⟨.bl b, rfl, .bl b, .ty "bool", .type "bool", .type "bool", true, rfl, .ty _, .base (.bl _), kit_ty (by decide +kernel), true, rfl, iteT ⟨.bl b, rfl, .bl b, rfl, rfl, ?_⟩⟩
    show Q (.bl (decide (V.bl b = V.bl b))) H
    rw [decide_eq_true rfl]
    exact q
end
def sp_l_rings (K : PySem.W.Frag) : Sp := fun vs H Q _ => ∃ (p h t : Addr) (L w : Int) (xs : List V) (ls : List Lg) (x : Al), vs = [.ref p, .ref h, .ref t, .int w] ∧ H p = some (.tup (.int L :: xs)) ∧ 1 ≤ L ∧ L ≤ 60 ∧ HistAt H h ls ∧ HistFew ls ∧ Vsd ls ∧ RdFew L ls ∧ AlAt H t x ∧ x.g.Ok ∧
  ∀ (H' : Hp), Same H H' → Q (.bl (ringB (valP L w x.ns ls x.g) x)) H'
section
variable {P : Program} {w : World} {K : PySem.W.Frag} {mg : Str → Option Value} {base : Heap}
set_option pp.maxSteps 400 in
theorem ok_l_rings (T : Ctx K mg) : FnOk P w K mg base CX0 2 T.f_l_rings T.fd_l_rings ["plan", "history", "alarm", "window"] (sp_l_rings K) := by
  refine T.F_l_rings.ok sc_l_rings (fun vs H Q E h => ?_) (fun cdv A outer s H vs Q E hr h => ?_)
  · obtain ⟨p, h', t, L, w, xs, ls, x, rfl, _⟩ := h
    rfl
  · obtain ⟨p, h0, t, L, w, xs, ls, x, rfl, hp, hL, hL60, hh, few, vsd, fw, ⟨ga, na, hat, hga, hna⟩, ok, q⟩ := h
    refine ⟨_, (pss_cons (ps_set (i := 4) sc_l_rings.nd rfl (.inl rfl) (pe_call (ok_l_value T) (hr.mono (by decide)) (by rfl) T.g_l_value T.F_l_value.kp T.b_l_value .nil pass0 (pa_cons (pe_ix ix_tup (pv 2) pe_int (fun _ _ => rfl)) (pa_cons (pe_call (ok_l_readings T) (hr.mono (by decide)) (by rfl) T.g_l_readings T.F_l_readings.kp T.b_l_readings .nil pass0 (pa_cons (pv 0) (pa_cons (pv 1) (pa_cons (pe_ix ix_tup (pv 2) pe_int (fun _ _ => rfl)) (pa_cons (pv 3) pa_nil))))) pa_nil))))
      (pss_cons (ps_if (pt_cmpR op_isN (pv 4) pe_non (nomark _))
        (pss_one (ps_ret pe_bl))
        pss_nil)
      (pss_cons (ps_if (pt_cmpR op_eq (pe_ix ix_tup (pv 2) pe_int (fun _ _ => rfl)) pe_str (nomark _))
        (pss_one (ps_ret (pe_cmpR op_gt (pv 4) (pe_ix ix_tup (pv 2) pe_int (fun _ _ => rfl)) (nomark _))))
        pss_nil)
      (pss_one (ps_ret (pe_cmpR op_lt (pv 4) (pe_ix ix_tup (pv 2) pe_int (fun _ _ => rfl)) (nomark _))))))), ?_⟩
    have hT : SqT K H t [.str x.name, .ref ga, .ref na, .str (relS x.over), .int x.limit, .int x.first, .int x.last] := .inl (.inl hat)
    refine ⟨.ref t, rfl, t, _, 1, _, rfl, rfl, hT, atI_nat (j := 1) rfl, .ref p, rfl, .ref h0, rfl, .ref t, rfl, t, _, 2, _, rfl, rfl, hT, atI_nat (j := 2) rfl, .int w, rfl, p, h0, na, L, w, xs, ls, x.ns, rfl, hp, hL, hL60, hh, few, vsd, hna, fun H1 b zs s1 hb pm up => ?_⟩
    obtain rfl := srt_is pm up
    have lz := pm.length_eq
    have l2 := fw w x.ns
    refine ⟨ga, b, x.g, _, rfl, s1 _ _ hga, hb, by omega, ok, fun H2 s2 => ?_⟩
    have s12 := s1.trans s2
    have q1 := q _ s12
    have hT2 : SqT K H2 t [.str x.name, .ref ga, .ref na, .str (relS x.over), .int x.limit, .int x.first, .int x.last] := .inl (.inl (s12 _ _ hat))
    unfold valP at q1
    rcases valOf_kind x.g (srt (rdOf L w x.ns ls)) with e | ⟨i, e⟩
    · rw [e] at q1 ⊢
      exact ⟨.non, rfl, rfl, _, rfl, iteT q1⟩
    rw [e] at q1 ⊢
    refine ⟨.int i, rfl, rfl, _, rfl, iteF ?_⟩
    have e3 : atI [V.str x.name, .ref ga, .ref na, .str (relS x.over), .int x.limit, .int x.first, .int x.last] 3 = some (.str (relS x.over)) := atI_nat (j := 3) rfl
    refine ⟨.ref t, rfl, t, _, 3, _, rfl, rfl, hT2, e3, rfl, _, rfl, ?_⟩
    cases eo : x.over with
    | true =>
      rw [show ringB (.int i) x = decide (i > x.limit) from if_pos eo] at q1
      refine ite2 (fun _ => ?_) (fun z => absurd (by decide +kernel) z)
      exact ⟨.int i, rfl, .ref t, rfl, t, _, 4, _, rfl, rfl, hT2, atI_nat (j := 4) rfl, _, _, rfl, rfl, q1⟩
    | false =>
      rw [show ringB (.int i) x = decide (i < x.limit) from if_neg (by rw [eo]; exact Bool.false_ne_true)] at q1
      refine ite2 (fun z => absurd z (by decide +kernel)) (fun _ => ?_)
      exact ⟨.int i, rfl, .ref t, rfl, t, _, 4, _, rfl, rfl, hT2, atI_nat (j := 4) rfl, _, _, rfl, rfl, q1⟩
end
def sp_law (K : PySem.W.Frag) : Sp := fun vs H Q _ => ∃ (a : Addr) (ns : List Int), vs = [.ref a] ∧ SqL K H a (ns.map V.int) ∧ ns.length ≤ 63 ∧ ∀ H', Q (.bl true) H'
theorem cut03 {a b c d e f g : V} : cutV [a, b, c, d, e, f, g] none (some 3) = [a, b, c] := rfl
theorem cut5 {a b c d e f g : V} : cutV [a, b, c, d, e, f, g] (some 5) none = [f, g] := rfl
section
variable {P : Program} {w : World} {K : PySem.W.Frag} {mg : Str → Option Value} {base : Heap}
set_option pp.maxSteps 400 in
set_option maxHeartbeats 4000000 in
theorem ok_law (T : Ctx K mg) (hN : base.NoSeer) (ht : P.given.tree = none) : FnOk P w K mg base CX0 38 T.f_law T.fd_law ["script"] (sp_law K) := by
  refine T.F_law.ok sc_law (fun vs H Q E h => ?_) (fun cdv A outer s H vs Q E hr h => ?_)
  · obtain ⟨a, ns, rfl, _⟩ := h
    rfl
  · obtain ⟨a, ns, rfl, hS, hlen, q⟩ := h
    refine ⟨_, (pss_cons (ps_set (i := 1) sc_law.nd rfl (.inl rfl) (pe_call (ok_l_draws T) (hr.mono (by decide)) (by rfl) T.g_l_draws T.F_l_draws.kp T.b_l_draws .nil pass0 (pa_cons (pv 0) (pa_cons pe_int pa_nil))))
      (pss_cons (ps_set (i := 2) sc_law.nd rfl (.inl rfl) (pe_call (ok_l_plan T) (hr.mono (by decide)) (by rfl) T.g_l_plan T.F_l_plan.kp T.b_l_plan .nil pass0 (pa_cons (pv 0) (pa_cons (pv 1) (pa_cons pe_int pa_nil)))))
      (pss_cons (ps_set (i := 3) sc_law.nd rfl (.inl rfl) (pe_call (ok_l_history T) (hr.mono (by decide)) (by rfl) T.g_l_history T.F_l_history.kp T.b_l_history .nil pass0 (pa_cons (pv 0) (pa_cons (pv 1) (pa_cons (pv 2) (pa_cons pe_int pa_nil))))))
      (pss_cons (ps_for PassesOwn.never rfl (pi_list (pe_call (ok_l_alarms T) (hr.mono (by decide)) (by rfl) T.g_l_alarms T.F_l_alarms.kp T.b_l_alarms .nil pass0 (pa_cons (pv 1) (pa_cons (pv 2) (pa_cons (pv 3) (pa_cons pe_int pa_nil)))))) (pg_name (i := 4) sc_law.nd rfl (.inl rfl))
        (pss_one (ps_for PassesOwn.never rfl (pi_list (pe_lst (pa_cons pe_str (pa_cons pe_str pa_nil)))) (pg_name (i := 5) sc_law.nd rfl (.inl rfl))
        (pss_one (ps_for PassesOwn.never rfl (pi_list (pe_lst (pa_cons pe_int (pa_cons pe_int (pa_cons (pe_un un_neg pe_int) pa_nil))))) (pg_name (i := 6) sc_law.nd rfl (.inl rfl))
        (pss_cons (ps_set (i := 7) sc_law.nd rfl (.inl rfl) (pe_op TT.op_cat_t (pe_op TT.op_cat_t (pe_slice TT.sl_t (pv 4) po_none (po_some pe_int)) (pe_tup (pa_cons (pv 5) (pa_cons (pe_op op_add (pe_ix ix_tup (pv 4) pe_int (fun _ _ => rfl)) (pv 6)) pa_nil)))) (pe_slice TT.sl_t (pv 4) (po_some pe_int) po_none)))
      (pss_one (ps_for PassesOwn.never rfl (LongR.pi_rangeA (by rfl) T.m_range (pa_cons (pe_ix ix_tup (pv 4) pe_int (fun _ _ => rfl)) (pa_cons (pe_op op_add (pe_ix ix_tup (pv 4) pe_int (fun _ _ => rfl)) pe_int) pa_nil))) (pg_name (i := 8) sc_law.nd rfl (.inl rfl))
        (pss_cons (ps_set (i := 9) sc_law.nd rfl (.inl rfl) (pe_call (ok_l_rings T) (hr.mono (by decide)) (by rfl) T.g_l_rings T.F_l_rings.kp T.b_l_rings .nil pass0 (pa_cons (pv 2) (pa_cons (pv 3) (pa_cons (pv 7) (pa_cons (pv 8) pa_nil))))))
      (pss_one (ps_if (pt_not (pt_val (pe_call (ok_l_is_truth T) (hr.mono (by decide)) (by rfl) T.g_l_is_truth T.F_l_is_truth.kp T.b_l_is_truth .nil pass0 (pa_cons (pe_call (ok_rings_in T hN ht) (hr.mono (by decide)) (by rfl) T.g_rings_in T.F_rings_in.kp T.b_rings_in .nil pass0 (pa_cons (pv 2) (pa_cons (pv 3) (pa_cons (pv 7) (pa_cons (pv 8) pa_nil))))) (pa_cons (pv 9) pa_nil)))))
        (pss_one (ps_ret pe_bl))
        pss_nil)))))))))))
      (pss_one (ps_ret pe_bl)))))), ?_⟩
    refine ⟨.ref a, rfl, a, ns, 134, rfl, hS, by omega, by decide, fun H1 d s1 nd hd => ?_⟩
    refine ⟨.ref a, rfl, .ref d, rfl, a, d, ns, 2, rfl, (fun H' r => r.script hS nd s1), hd, by decide, by decide, fun H2 p tm ts P r2 pa L1 L60 ne few mok => ?_⟩
    refine ⟨.ref a, rfl, .ref d, rfl, .ref p, rfl, a, d, p, tm, ns, ts, P, 5, rfl, (fun H' r => (r2.trans r).script hS nd s1), r2.at_, pa, few, mok, by decide, by decide, fun H3 h ls r3 hh hl lok => ?_⟩
    have lf : ls.length ≤ 2 := by omega
    have pa3 := r3.plan r2.at_ pa
    refine ⟨.ref d, rfl, .ref p, rfl, .ref h, rfl, d, p, tm, h, ts, P, ls, 3, rfl, r3.at_, pa3, L1, L60, ne, few, hh, hl, lok, by decide, by decide, fun H4 t us xs r4 hat hus xok ntd => ?_⟩
    have k4 := r4.kt r3.at_
    have top4 := (r4.plan r3.at_ pa3).top
    have hh4 := hh.kept k4
    have few' := lg85_few lf lok
    have vsd := lg85_vsd lok
    have fw := lg85_rd (L := P.len) lf lok
    clear r4 r3 r2 hd s1 hS
    refine ⟨t, rfl, ⟨_, .inl (.inl hat)⟩, for_list (K := K) (a := t) (xs := us.map V.ref) (fun i σ H' => ∃ (y5 y6 y7 y8 y9 y10 : Option V), σ = [some (.ref a), some (.ref d), some (.ref p), some (.ref h), y5, y6, y7, y8, y9, y10] ∧ Same H4 H') ⟨_, _, _, _, _, _, rfl, Same.refl _⟩ (fun i σ H' _ z => ?_) (fun i x σ H' hx z => ?_) (fun σ H' z => q _)⟩
    · obtain ⟨_, _, _, _, _, _, _, s⟩ := z
      exact .inl (.inl (s _ _ hat))
    obtain ⟨y5, y6, y7, y8, y9, y10, rfl, s5⟩ := z
    rw [List.getElem?_map] at hx
    obtain ⟨al, hal, rfl⟩ := Option.map_eq_some_iff.mp hx
    obtain ⟨x, hxm, ga, na, hatx, hga, hna⟩ : ∃ x, xs[i]? = some x ∧ AlAt H4 al x := paired_at hus hal
    have gok := xok x (List.mem_of_getElem? hxm)
    refine ⟨small' (n := 2) (by decide), fun pr npr => ?_⟩
    have s6 := s5.trans (same_new (o := .lst [.str "over", .str "under"]) npr)
    have hpr : upd H' pr (.lst [.str "over", .str "under"]) pr = some (.lst [V.str "over", .str "under"]) := upd_same
    generalize upd H' pr (.lst [.str "over", .str "under"]) = H6 at s6 hpr ⊢
    refine ⟨pr, rfl, ⟨_, .inl (.inl hpr)⟩, for_list (K := K) (a := pr) (xs := [.str "over", .str "under"]) (fun i σ H' => ∃ (y6 y7 y8 y9 y10 : Option V), σ = [some (.ref a), some (.ref d), some (.ref p), some (.ref h), some (.ref al), y6, y7, y8, y9, y10] ∧ Same H6 H') ⟨_, _, _, _, _, rfl, Same.refl _⟩ (fun i σ H' _ z => ?_) (fun i rl σ H' hr z => ?_) (fun σ H' z => ?_)⟩
    · obtain ⟨_, _, _, _, _, _, s⟩ := z
      exact .inl (.inl (s _ _ hpr))
    · obtain ⟨y6, y7, y8, y9, y10, rfl, s7⟩ := z
      obtain ⟨ov, rfl⟩ : ∃ ov : Bool, rl = .str (relS ov) := by
        have m := List.mem_of_getElem? hr
        simp only [List.mem_cons, List.not_mem_nil, or_false] at m
        rcases m with z | z
        · exact ⟨true, z⟩
        · exact ⟨false, z⟩
      refine ⟨_, rfl, small' (n := 3) (by decide), fun pm npm => ?_⟩
      have s8 := s7.trans (same_new (o := .lst [.int 0, .int 1, .int (-1)]) npm)
      have hpm : upd H' pm (.lst [.int 0, .int 1, .int (-1)]) pm = some (.lst [V.int 0, .int 1, .int (-1)]) := upd_same
      generalize upd H' pm (.lst [.int 0, .int 1, .int (-1)]) = H8 at s8 hpm ⊢
      refine ⟨pm, rfl, ⟨_, .inl (.inl hpm)⟩, for_list (K := K) (a := pm) (xs := [.int 0, .int 1, .int (-1)]) (fun i σ H' => ∃ (y7 y8 y9 y10 : Option V), σ = [some (.ref a), some (.ref d), some (.ref p), some (.ref h), some (.ref al), some (.str (relS ov)), y7, y8, y9, y10] ∧ Same H8 H') ⟨_, _, _, _, rfl, Same.refl _⟩ (fun i σ H' _ z => ?_) (fun i mr σ H' hr z => ?_) (fun σ H' z => ?_)⟩
      · obtain ⟨_, _, _, _, _, s⟩ := z
        exact .inl (.inl (s _ _ hpm))
      · obtain ⟨y7, y8, y9, y10, rfl, s9⟩ := z
        obtain ⟨mo, rfl⟩ : ∃ mo : Int, mr = .int mo := by
          have m := List.mem_of_getElem? hr
          simp only [List.mem_cons, List.not_mem_nil, or_false] at m
          rcases m with z | z | z <;> exact ⟨_, z⟩
        have s49 := (s6.trans s8).trans s9
        have hat9 := s49 _ _ hatx
        have hT9 : SqT K H' al [.str x.name, .ref ga, .ref na, .str (relS x.over), .int x.limit, .int x.first, .int x.last] := .inl (.inl hat9)
        refine ⟨.ref al, rfl, 3, rfl, al, _, rfl, hat9, fun c1 Ha sa hc1 => ?_⟩
        rw [cut03] at hc1
        have hTa : SqT K Ha al [.str x.name, .ref ga, .ref na, .str (relS x.over), .int x.limit, .int x.first, .int x.last] := .inl (.inl (sa _ _ hat9))
        refine ⟨.str (relS ov), rfl, .ref al, rfl, al, _, 4, _, rfl, rfl, hTa, atI_nat (j := 4) rfl, .int mo, rfl, _, _, rfl, rfl, small' (n := 2) (by decide), fun c2 nc2 => ?_⟩
        have sb := sa.trans (same_new (o := .tup [.str (relS ov), .int (x.limit + mo)]) nc2)
        have hc2 : upd Ha c2 (.tup [.str (relS ov), .int (x.limit + mo)]) c2 = some (.tup [V.str (relS ov), .int (x.limit + mo)]) := upd_same
        have hc1b := same_new (o := .tup [.str (relS ov), .int (x.limit + mo)]) nc2 _ _ hc1
        generalize upd Ha c2 (.tup [.str (relS ov), .int (x.limit + mo)]) = Hb at sb hc2 hc1b ⊢
        refine ⟨c1, c2, _, _, rfl, rfl, hc1b, hc2, small' (n := 5) (by decide), fun c3 Hc sc hc3 => ?_⟩
        have sbc := sb.trans sc
        refine ⟨.ref al, rfl, 5, rfl, al, _, rfl, sbc _ _ hat9, fun c4 Hd sd hc4 => ?_⟩
        rw [cut5] at hc4
        refine ⟨c3, c4, _, _, rfl, rfl, sd _ _ hc3, hc4, small' (n := 7) (by decide), fun c5 He se hc5 => ?_⟩
        have s9e := (sbc.trans sd).trans se
        have s4e := s49.trans s9e
        have hTe : SqT K He al [.str x.name, .ref ga, .ref na, .str (relS x.over), .int x.limit, .int x.first, .int x.last] := .inl (.inl (s9e _ _ hat9))
        obtain ⟨o, ho⟩ : ∃ o : Al, o = ⟨x.name, x.g, x.ns, ov, x.limit + mo, x.first, x.last⟩ := ⟨_, rfl⟩
        have hO : AlAt He c5 o := by
          rw [ho]
          exact ⟨ga, na, hc5, s4e _ _ hga, s4e _ _ hna⟩
        have ook : o.g.Ok := by rw [ho]; exact gok
        refine ⟨.ref al, rfl, al, _, 5, _, rfl, rfl, hTe, atI_nat (j := 5) rfl, .ref al, rfl, al, _, 6, _, rfl, rfl, hTe, atI_nat (j := 6) rfl, _, _, rfl, rfl, _, _, rfl, ?_⟩
        refine for_range (lo := x.first) (n := (x.last + 1 - x.first).toNat) (fun i σ H' => ∃ (y8 y9 y10 : Option V), σ = [some (.ref a), some (.ref d), some (.ref p), some (.ref h), some (.ref al), some (.str (relS ov)), some (.int mo), some (.ref c5), y9, y10] ∧ Same He H') ⟨none, _, _, rfl, Same.refl _⟩ (fun i σ H' hi z => ?_) (fun σ H' z => ?_)
        · obtain ⟨_, y9, y10, rfl, sf⟩ := z
          have s4f := s4e.trans sf
          have hOf := hO.kept (Same.kt sf)
          have topf := s4f _ _ top4
          have hhf := hh4.kept (Same.kt s4f)
          refine ⟨.ref p, rfl, .ref h, rfl, .ref c5, rfl, .int (x.first + i), rfl, p, h, c5, P.len, _, _, ls, o, rfl, topf, L1, L60, hhf, few', vsd, fw, hOf, ook, fun H10 s10 => ?_⟩
          refine ⟨.ref p, rfl, .ref h, rfl, .ref c5, rfl, .int (x.first + i), rfl, p, h, c5, P.len, _, _, ls, o, rfl, s10 _ _ topf, L1, hhf.kept (Same.kt s10), few', vsd, fw, hOf.kept (Same.kt s10), ook, fun H11 s11 => ?_⟩
          refine ⟨_, rfl, _, rfl, _, rfl, ?_⟩
          exact iteF ⟨none, _, _, rfl, (sf.trans s10).trans s11⟩
        · obtain ⟨_, y9, y10, rfl, sf⟩ := z
          exact ⟨_, _, _, _, rfl, s9.trans (s9e.trans sf)⟩
      · obtain ⟨y7, y8, y9, y10, rfl, s9⟩ := z
        exact ⟨_, _, _, _, _, rfl, s8.trans s9⟩
    · obtain ⟨y6, y7, y8, y9, y10, rfl, s7⟩ := z
      exact ⟨_, _, _, _, _, _, rfl, s6.trans s7⟩
end
theorem all_mk {l : PySem.W.OpenLaw} {w : World} {K : PySem.W.Frag} {h : Heap} {mg : Str → Option Value} {fa : Addr} (X : K.In h) (G : h.Ns mainGlobals mg) (hfa : mg "law" = some (.ref fa)) (hgt : l.prog.given.tree = none)
    {f1 : Addr} {od1 an1 : Option Addr} {sl1 : Array (Option Value)} {oc1 kV1 dc1 pm1 cd1 ct1 : Value}
    {f2 : Addr} {od2 an2 : Option Addr} {sl2 : Array (Option Value)} {oc2 kV2 dc2 pm2 cd2 ct2 : Value}
    {f3 : Addr} {od3 an3 : Option Addr} {sl3 : Array (Option Value)} {oc3 kV3 dc3 pm3 cd3 ct3 : Value}
    {f4 : Addr} {od4 an4 : Option Addr} {sl4 : Array (Option Value)} {oc4 kV4 dc4 pm4 cd4 ct4 : Value}
    {f5 : Addr} {od5 an5 : Option Addr} {sl5 : Array (Option Value)} {oc5 kV5 dc5 pm5 cd5 ct5 : Value}
    {f6 : Addr} {od6 an6 : Option Addr} {sl6 : Array (Option Value)} {oc6 kV6 dc6 pm6 cd6 ct6 : Value}
    {f7 : Addr} {od7 an7 : Option Addr} {sl7 : Array (Option Value)} {oc7 kV7 dc7 pm7 cd7 ct7 : Value}
    {f8 : Addr} {od8 an8 : Option Addr} {sl8 : Array (Option Value)} {oc8 kV8 dc8 pm8 cd8 ct8 : Value}
    {f9 : Addr} {od9 an9 : Option Addr} {sl9 : Array (Option Value)} {oc9 kV9 dc9 pm9 cd9 ct9 : Value}
    {f10 : Addr} {od10 an10 : Option Addr} {sl10 : Array (Option Value)} {oc10 kV10 dc10 pm10 cd10 ct10 : Value}
    {f11 : Addr} {od11 an11 : Option Addr} {sl11 : Array (Option Value)} {oc11 kV11 dc11 pm11 cd11 ct11 : Value}
    {f12 : Addr} {od12 an12 : Option Addr} {sl12 : Array (Option Value)} {oc12 kV12 dc12 pm12 cd12 ct12 : Value}
    {f13 : Addr} {od13 an13 : Option Addr} {sl13 : Array (Option Value)} {oc13 kV13 dc13 pm13 cd13 ct13 : Value}
    {f14 : Addr} {od14 an14 : Option Addr} {sl14 : Array (Option Value)} {oc14 kV14 dc14 pm14 cd14 ct14 : Value}
    {f15 : Addr} {od15 an15 : Option Addr} {sl15 : Array (Option Value)} {oc15 kV15 dc15 pm15 cd15 ct15 : Value}
    {f16 : Addr} {od16 an16 : Option Addr} {sl16 : Array (Option Value)} {oc16 kV16 dc16 pm16 cd16 ct16 : Value}
    {f17 : Addr} {od17 an17 : Option Addr} {sl17 : Array (Option Value)} {oc17 kV17 dc17 pm17 cd17 ct17 : Value}
    {f18 : Addr} {od18 an18 : Option Addr} {sl18 : Array (Option Value)} {oc18 kV18 dc18 pm18 cd18 ct18 : Value}
    {f19 : Addr} {od19 an19 : Option Addr} {sl19 : Array (Option Value)} {oc19 kV19 dc19 pm19 cd19 ct19 : Value}
    (a1 : PySem.W.nsIn K mainGlobals "window_of" = some (some (.ref f1))) (l1 : K.lookup f1 = some ⟨oc1, od1, .func (PySem.W.fnOf "window_of" "window_of" (defArgs s_window_of) (defBody s_window_of) (defScope s_window_of) .none kV1 dc1 pm1 an1 cd1 ct1), sl1⟩) (c1 : PySem.W.codeIn K cd1 "window_of" = true) (k1 : PySem.W.keepIn K (.ref f1) = true)
    (a2 : PySem.W.nsIn K mainGlobals "readings" = some (some (.ref f2))) (l2 : K.lookup f2 = some ⟨oc2, od2, .func (PySem.W.fnOf "readings" "readings" (defArgs s_readings) (defBody s_readings) (defScope s_readings) .none kV2 dc2 pm2 an2 cd2 ct2), sl2⟩) (c2 : PySem.W.codeIn K cd2 "readings" = true) (k2 : PySem.W.keepIn K (.ref f2) = true)
    (a3 : PySem.W.nsIn K mainGlobals "value_of" = some (some (.ref f3))) (l3 : K.lookup f3 = some ⟨oc3, od3, .func (PySem.W.fnOf "value_of" "value_of" (defArgs s_value_of) (defBody s_value_of) (defScope s_value_of) .none kV3 dc3 pm3 an3 cd3 ct3), sl3⟩) (c3 : PySem.W.codeIn K cd3 "value_of" = true) (k3 : PySem.W.keepIn K (.ref f3) = true)
    (a4 : PySem.W.nsIn K mainGlobals "plain_value" = some (some (.ref f4))) (l4 : K.lookup f4 = some ⟨oc4, od4, .func (PySem.W.fnOf "plain_value" "plain_value" (defArgs s_plain_value) (defBody s_plain_value) (defScope s_plain_value) .none kV4 dc4 pm4 an4 cd4 ct4), sl4⟩) (c4 : PySem.W.codeIn K cd4 "plain_value" = true) (k4 : PySem.W.keepIn K (.ref f4) = true)
    (a5 : PySem.W.nsIn K mainGlobals "rings_in" = some (some (.ref f5))) (l5 : K.lookup f5 = some ⟨oc5, od5, .func (PySem.W.fnOf "rings_in" "rings_in" (defArgs s_rings_in) (defBody s_rings_in) (defScope s_rings_in) .none kV5 dc5 pm5 an5 cd5 ct5), sl5⟩) (c5 : PySem.W.codeIn K cd5 "rings_in" = true) (k5 : PySem.W.keepIn K (.ref f5) = true)
    (a6 : PySem.W.nsIn K mainGlobals "_law_draws" = some (some (.ref f6))) (l6 : K.lookup f6 = some ⟨oc6, od6, .func (PySem.W.fnOf "_law_draws" "_law_draws" (defArgs s_l_draws) (defBody s_l_draws) (defScope s_l_draws) .none kV6 dc6 pm6 an6 cd6 ct6), sl6⟩) (c6 : PySem.W.codeIn K cd6 "_law_draws" = true) (k6 : PySem.W.keepIn K (.ref f6) = true)
    (a7 : PySem.W.nsIn K mainGlobals "_law_take" = some (some (.ref f7))) (l7 : K.lookup f7 = some ⟨oc7, od7, .func (PySem.W.fnOf "_law_take" "_law_take" (defArgs s_l_take) (defBody s_l_take) (defScope s_l_take) .none kV7 dc7 pm7 an7 cd7 ct7), sl7⟩) (c7 : PySem.W.codeIn K cd7 "_law_take" = true) (k7 : PySem.W.keepIn K (.ref f7) = true)
    (a8 : PySem.W.nsIn K mainGlobals "_law_word" = some (some (.ref f8))) (l8 : K.lookup f8 = some ⟨oc8, od8, .func (PySem.W.fnOf "_law_word" "_law_word" (defArgs s_l_word) (defBody s_l_word) (defScope s_l_word) .none kV8 dc8 pm8 an8 cd8 ct8), sl8⟩) (c8 : PySem.W.codeIn K cd8 "_law_word" = true) (k8 : PySem.W.keepIn K (.ref f8) = true)
    (a9 : PySem.W.nsIn K mainGlobals "_law_plan" = some (some (.ref f9))) (l9 : K.lookup f9 = some ⟨oc9, od9, .func (PySem.W.fnOf "_law_plan" "_law_plan" (defArgs s_l_plan) (defBody s_l_plan) (defScope s_l_plan) .none kV9 dc9 pm9 an9 cd9 ct9), sl9⟩) (c9 : PySem.W.codeIn K cd9 "_law_plan" = true) (k9 : PySem.W.keepIn K (.ref f9) = true)
    (a10 : PySem.W.nsIn K mainGlobals "_law_slots" = some (some (.ref f10))) (l10 : K.lookup f10 = some ⟨oc10, od10, .func (PySem.W.fnOf "_law_slots" "_law_slots" (defArgs s_l_slots) (defBody s_l_slots) (defScope s_l_slots) .none kV10 dc10 pm10 an10 cd10 ct10), sl10⟩) (c10 : PySem.W.codeIn K cd10 "_law_slots" = true) (k10 : PySem.W.keepIn K (.ref f10) = true)
    (a11 : PySem.W.nsIn K mainGlobals "_law_history" = some (some (.ref f11))) (l11 : K.lookup f11 = some ⟨oc11, od11, .func (PySem.W.fnOf "_law_history" "_law_history" (defArgs s_l_history) (defBody s_l_history) (defScope s_l_history) .none kV11 dc11 pm11 an11 cd11 ct11), sl11⟩) (c11 : PySem.W.codeIn K cd11 "_law_history" = true) (k11 : PySem.W.keepIn K (.ref f11) = true)
    (a12 : PySem.W.nsIn K mainGlobals "_law_question" = some (some (.ref f12))) (l12 : K.lookup f12 = some ⟨oc12, od12, .func (PySem.W.fnOf "_law_question" "_law_question" (defArgs s_l_question) (defBody s_l_question) (defScope s_l_question) .none kV12 dc12 pm12 an12 cd12 ct12), sl12⟩) (c12 : PySem.W.codeIn K cd12 "_law_question" = true) (k12 : PySem.W.keepIn K (.ref f12) = true)
    (a13 : PySem.W.nsIn K mainGlobals "_law_readings" = some (some (.ref f13))) (l13 : K.lookup f13 = some ⟨oc13, od13, .func (PySem.W.fnOf "_law_readings" "_law_readings" (defArgs s_l_readings) (defBody s_l_readings) (defScope s_l_readings) .none kV13 dc13 pm13 an13 cd13 ct13), sl13⟩) (c13 : PySem.W.codeIn K cd13 "_law_readings" = true) (k13 : PySem.W.keepIn K (.ref f13) = true)
    (a14 : PySem.W.nsIn K mainGlobals "_law_value" = some (some (.ref f14))) (l14 : K.lookup f14 = some ⟨oc14, od14, .func (PySem.W.fnOf "_law_value" "_law_value" (defArgs s_l_value) (defBody s_l_value) (defScope s_l_value) .none kV14 dc14 pm14 an14 cd14 ct14), sl14⟩) (c14 : PySem.W.codeIn K cd14 "_law_value" = true) (k14 : PySem.W.keepIn K (.ref f14) = true)
    (a15 : PySem.W.nsIn K mainGlobals "_law_alarm" = some (some (.ref f15))) (l15 : K.lookup f15 = some ⟨oc15, od15, .func (PySem.W.fnOf "_law_alarm" "_law_alarm" (defArgs s_l_alarm) (defBody s_l_alarm) (defScope s_l_alarm) .none kV15 dc15 pm15 an15 cd15 ct15), sl15⟩) (c15 : PySem.W.codeIn K cd15 "_law_alarm" = true) (k15 : PySem.W.keepIn K (.ref f15) = true)
    (a16 : PySem.W.nsIn K mainGlobals "_law_alarms" = some (some (.ref f16))) (l16 : K.lookup f16 = some ⟨oc16, od16, .func (PySem.W.fnOf "_law_alarms" "_law_alarms" (defArgs s_l_alarms) (defBody s_l_alarms) (defScope s_l_alarms) .none kV16 dc16 pm16 an16 cd16 ct16), sl16⟩) (c16 : PySem.W.codeIn K cd16 "_law_alarms" = true) (k16 : PySem.W.keepIn K (.ref f16) = true)
    (a17 : PySem.W.nsIn K mainGlobals "_law_is_truth" = some (some (.ref f17))) (l17 : K.lookup f17 = some ⟨oc17, od17, .func (PySem.W.fnOf "_law_is_truth" "_law_is_truth" (defArgs s_l_is_truth) (defBody s_l_is_truth) (defScope s_l_is_truth) .none kV17 dc17 pm17 an17 cd17 ct17), sl17⟩) (c17 : PySem.W.codeIn K cd17 "_law_is_truth" = true) (k17 : PySem.W.keepIn K (.ref f17) = true)
    (a18 : PySem.W.nsIn K mainGlobals "_law_rings" = some (some (.ref f18))) (l18 : K.lookup f18 = some ⟨oc18, od18, .func (PySem.W.fnOf "_law_rings" "_law_rings" (defArgs s_l_rings) (defBody s_l_rings) (defScope s_l_rings) .none kV18 dc18 pm18 an18 cd18 ct18), sl18⟩) (c18 : PySem.W.codeIn K cd18 "_law_rings" = true) (k18 : PySem.W.keepIn K (.ref f18) = true)
    (a19 : PySem.W.nsIn K mainGlobals "law" = some (some (.ref f19))) (l19 : K.lookup f19 = some ⟨oc19, od19, .func (PySem.W.fnOf "law" "law" (defArgs s_law) (defBody s_law) (defScope s_law) .none kV19 dc19 pm19 an19 cd19 ct19), sl19⟩) (c19 : PySem.W.codeIn K cd19 "law" = true) (k19 : PySem.W.keepIn K (.ref f19) = true)
    (z20 : PySem.W.nsIn K mainGlobals "bool" = some none)
    (z21 : PySem.W.nsIn K mainGlobals "int" = some none)
    (z22 : PySem.W.nsIn K mainGlobals "isinstance" = some none)
    (z23 : PySem.W.nsIn K mainGlobals "len" = some none)
    (z24 : PySem.W.nsIn K mainGlobals "list" = some none)
    (z25 : PySem.W.nsIn K mainGlobals "max" = some none)
    (z26 : PySem.W.nsIn K mainGlobals "range" = some none)
    (z27 : PySem.W.nsIn K mainGlobals "sorted" = some none)
    (z28 : PySem.W.nsIn K mainGlobals "sum" = some none)
    (z29 : PySem.W.nsIn K mainGlobals "tuple" = some none) :
    ∃ fd : FuncData, (∀ (s : Shared) (v : Value), BindsTo s fd ⟨[v], []⟩ [("script", v)]) ∧ ∀ base : Heap, K.In base → base.Ns mainGlobals mg → base.NoSeer →  FnOk l.prog w K mg base CX0 38 fa fd ["script"] (sp_law K) := by
  have e := hfa.symm.trans (PySem.W.mg_of X G a19)
  cases e
  have F1 := fun_mk (st := s_window_of) l1 c1 k1
  have B1 := F1.binds (ps := ["plan", "time"]) (fun _ _ _ _ _ _ us hl => match us, hl with | [_, _], _ => rfl)
  have F2 := fun_mk (st := s_readings) l2 c2 k2
  have B2 := F2.binds (ps := ["plan", "history", "meters", "window"]) (fun _ _ _ _ _ _ us hl => match us, hl with | [_, _, _, _], _ => rfl)
  have F3 := fun_mk (st := s_value_of) l3 c3 k3
  have B3 := F3.binds (ps := ["aggregate", "values"]) (fun _ _ _ _ _ _ us hl => match us, hl with | [_, _], _ => rfl)
  have F4 := fun_mk (st := s_plain_value) l4 c4 k4
  have B4 := F4.binds (ps := ["plan", "history", "aggregate", "meters", "window"]) (fun _ _ _ _ _ _ us hl => match us, hl with | [_, _, _, _, _], _ => rfl)
  have F5 := fun_mk (st := s_rings_in) l5 c5 k5
  have B5 := F5.binds (ps := ["plan", "history", "alarm", "window"]) (fun _ _ _ _ _ _ us hl => match us, hl with | [_, _, _, _], _ => rfl)
  have F6 := fun_mk (st := s_l_draws) l6 c6 k6
  have B6 := F6.binds (ps := ["script", "many"]) (fun _ _ _ _ _ _ us hl => match us, hl with | [_, _], _ => rfl)
  have F7 := fun_mk (st := s_l_take) l7 c7 k7
  have B7 := F7.binds (ps := ["draws", "many"]) (fun _ _ _ _ _ _ us hl => match us, hl with | [_, _], _ => rfl)
  have F8 := fun_mk (st := s_l_word) l8 c8 k8
  have B8 := F8.binds (ps := ["number"]) (fun _ _ _ _ _ _ us hl => match us, hl with | [_], _ => rfl)
  have F9 := fun_mk (st := s_l_plan) l9 c9 k9
  have B9 := F9.binds (ps := ["script", "draws", "most"]) (fun _ _ _ _ _ _ us hl => match us, hl with | [_, _, _], _ => rfl)
  have F10 := fun_mk (st := s_l_slots) l10 c10 k10
  have B10 := F10.binds (ps := ["script", "draws", "meter", "most"]) (fun _ _ _ _ _ _ us hl => match us, hl with | [_, _, _, _], _ => rfl)
  have F11 := fun_mk (st := s_l_history) l11 c11 k11
  have B11 := F11.binds (ps := ["script", "draws", "plan", "most"]) (fun _ _ _ _ _ _ us hl => match us, hl with | [_, _, _, _], _ => rfl)
  have F12 := fun_mk (st := s_l_question) l12 c12 k12
  have B12 := F12.binds (ps := ["draws", "plan", "history"]) (fun _ _ _ _ _ _ us hl => match us, hl with | [_, _, _], _ => rfl)
  have F13 := fun_mk (st := s_l_readings) l13 c13 k13
  have B13 := F13.binds (ps := ["plan", "history", "names", "window"]) (fun _ _ _ _ _ _ us hl => match us, hl with | [_, _, _, _], _ => rfl)
  have F14 := fun_mk (st := s_l_value) l14 c14 k14
  have B14 := F14.binds (ps := ["aggregate", "values"]) (fun _ _ _ _ _ _ us hl => match us, hl with | [_, _], _ => rfl)
  have F15 := fun_mk (st := s_l_alarm) l15 c15 k15
  have B15 := F15.binds (ps := ["draws", "plan", "history", "name"]) (fun _ _ _ _ _ _ us hl => match us, hl with | [_, _, _, _], _ => rfl)
  have F16 := fun_mk (st := s_l_alarms) l16 c16 k16
  have B16 := F16.binds (ps := ["draws", "plan", "history", "many"]) (fun _ _ _ _ _ _ us hl => match us, hl with | [_, _, _, _], _ => rfl)
  have F17 := fun_mk (st := s_l_is_truth) l17 c17 k17
  have B17 := F17.binds (ps := ["actual", "due"]) (fun _ _ _ _ _ _ us hl => match us, hl with | [_, _], _ => rfl)
  have F18 := fun_mk (st := s_l_rings) l18 c18 k18
  have B18 := F18.binds (ps := ["plan", "history", "alarm", "window"]) (fun _ _ _ _ _ _ us hl => match us, hl with | [_, _, _, _], _ => rfl)
  have F19 := fun_mk (st := s_law) l19 c19 k19
  have B19 := F19.binds (ps := ["script"]) (fun _ _ _ _ _ _ us hl => match us, hl with | [_], _ => rfl)
  let T : Ctx K mg := { f_window_of := f1, fd_window_of := _, F_window_of := F1, b_window_of := B1, g_window_of := PySem.W.mg_of X G a1, f_readings := f2, fd_readings := _, F_readings := F2, b_readings := B2, g_readings := PySem.W.mg_of X G a2, f_value_of := f3, fd_value_of := _, F_value_of := F3, b_value_of := B3, g_value_of := PySem.W.mg_of X G a3, f_plain_value := f4, fd_plain_value := _, F_plain_value := F4, b_plain_value := B4, g_plain_value := PySem.W.mg_of X G a4, f_rings_in := f5, fd_rings_in := _, F_rings_in := F5, b_rings_in := B5, g_rings_in := PySem.W.mg_of X G a5, f_l_draws := f6, fd_l_draws := _, F_l_draws := F6, b_l_draws := B6, g_l_draws := PySem.W.mg_of X G a6, f_l_take := f7, fd_l_take := _, F_l_take := F7, b_l_take := B7, g_l_take := PySem.W.mg_of X G a7, f_l_word := f8, fd_l_word := _, F_l_word := F8, b_l_word := B8, g_l_word := PySem.W.mg_of X G a8, f_l_plan := f9, fd_l_plan := _, F_l_plan := F9, b_l_plan := B9, g_l_plan := PySem.W.mg_of X G a9, f_l_slots := f10, fd_l_slots := _, F_l_slots := F10, b_l_slots := B10, g_l_slots := PySem.W.mg_of X G a10, f_l_history := f11, fd_l_history := _, F_l_history := F11, b_l_history := B11, g_l_history := PySem.W.mg_of X G a11, f_l_question := f12, fd_l_question := _, F_l_question := F12, b_l_question := B12, g_l_question := PySem.W.mg_of X G a12, f_l_readings := f13, fd_l_readings := _, F_l_readings := F13, b_l_readings := B13, g_l_readings := PySem.W.mg_of X G a13, f_l_value := f14, fd_l_value := _, F_l_value := F14, b_l_value := B14, g_l_value := PySem.W.mg_of X G a14, f_l_alarm := f15, fd_l_alarm := _, F_l_alarm := F15, b_l_alarm := B15, g_l_alarm := PySem.W.mg_of X G a15, f_l_alarms := f16, fd_l_alarms := _, F_l_alarms := F16, b_l_alarms := B16, g_l_alarms := PySem.W.mg_of X G a16, f_l_is_truth := f17, fd_l_is_truth := _, F_l_is_truth := F17, b_l_is_truth := B17, g_l_is_truth := PySem.W.mg_of X G a17, f_l_rings := f18, fd_l_rings := _, F_l_rings := F18, b_l_rings := B18, g_l_rings := PySem.W.mg_of X G a18, f_law := fa, fd_law := _, F_law := F19, b_law := B19, g_law := PySem.W.mg_of X G a19, m_bool := PySem.W.mg_none_of X G z20, m_int := PySem.W.mg_none_of X G z21, m_isinstance := PySem.W.mg_none_of X G z22, m_len := PySem.W.mg_none_of X G z23, m_list := PySem.W.mg_none_of X G z24, m_max := PySem.W.mg_none_of X G z25, m_range := PySem.W.mg_none_of X G z26, m_sorted := PySem.W.mg_none_of X G z27, m_sum := PySem.W.mg_none_of X G z28, m_tuple := PySem.W.mg_none_of X G z29 }
  exact ⟨PySem.W.fnOf "law" "law" (defArgs s_law) (defBody s_law) (defScope s_law) .none kV19 dc19 pm19 an19 cd19 ct19, fun s v => .of_eq rfl, fun base _ _ hN => ok_law T hN hgt⟩
end Tw
open PySem PySem.W PyProof.Rows
set_option maxHeartbeats 0 in
theorem PySem.Challenge.cw_toldwhensure_k85_ringing_in_a_history_holds : PySem.Challenge.rw_toldwhensure_k85_ringing_in_a_history.Holds := by
  w_on; o_law; k_head; (case hw => w_witness2)
  k_fill
  refine Big.walk (l := PySem.Challenge.rw_toldwhensure_k85_ringing_in_a_history) (n := 63) (k := 38) (x := "script") (CX := fun _ => L2.CX0) (sp := fun w => Tw.sp_law _) rfl (by decide) rfl ⟨rfl, by decide, by decide⟩ (by decide +kernel) (fun w h Y => PySem.W.kIn_of Y) ?F
    (fun _ _ a ns hl hb _ hS => ⟨a, ns, rfl, hS, hl, fun _ => rfl⟩) (fun _ _ _ _ _ h => h)
  case F =>
    intro w mg fa h KX G hmg
    refine' Tw.all_mk KX G hmg (by rfl) ?a1 ?l1 ?c1 ?k1 ?a2 ?l2 ?c2 ?k2 ?a3 ?l3 ?c3 ?k3 ?a4 ?l4 ?c4 ?k4 ?a5 ?l5 ?c5 ?k5 ?a6 ?l6 ?c6 ?k6 ?a7 ?l7 ?c7 ?k7 ?a8 ?l8 ?c8 ?k8 ?a9 ?l9 ?c9 ?k9 ?a10 ?l10 ?c10 ?k10 ?a11 ?l11 ?c11 ?k11 ?a12 ?l12 ?c12 ?k12 ?a13 ?l13 ?c13 ?k13 ?a14 ?l14 ?c14 ?k14 ?a15 ?l15 ?c15 ?k15 ?a16 ?l16 ?c16 ?k16 ?a17 ?l17 ?c17 ?k17 ?a18 ?l18 ?c18 ?k18 ?a19 ?l19 ?c19 ?k19 ?z20 ?z21 ?z22 ?z23 ?z24 ?z25 ?z26 ?z27 ?z28 ?z29
    (case a1 => k_is); (case l1 => k_is); (case c1 => k_is); (case k1 => k_is); (case a2 => k_is); (case l2 => k_is); (case c2 => k_is); (case k2 => k_is); (case a3 => k_is); (case l3 => k_is); (case c3 => k_is); (case k3 => k_is); (case a4 => k_is); (case l4 => k_is); (case c4 => k_is); (case k4 => k_is); (case a5 => k_is); (case l5 => k_is); (case c5 => k_is); (case k5 => k_is); (case a6 => k_is); (case l6 => k_is); (case c6 => k_is); (case k6 => k_is); (case a7 => k_is); (case l7 => k_is); (case c7 => k_is); (case k7 => k_is); (case a8 => k_is); (case l8 => k_is); (case c8 => k_is); (case k8 => k_is); (case a9 => k_is); (case l9 => k_is); (case c9 => k_is); (case k9 => k_is); (case a10 => k_is); (case l10 => k_is); (case c10 => k_is); (case k10 => k_is); (case a11 => k_is); (case l11 => k_is); (case c11 => k_is); (case k11 => k_is); (case a12 => k_is); (case l12 => k_is); (case c12 => k_is); (case k12 => k_is); (case a13 => k_is); (case l13 => k_is); (case c13 => k_is); (case k13 => k_is); (case a14 => k_is); (case l14 => k_is); (case c14 => k_is); (case k14 => k_is); (case a15 => k_is); (case l15 => k_is); (case c15 => k_is); (case k15 => k_is); (case a16 => k_is); (case l16 => k_is); (case c16 => k_is); (case k16 => k_is); (case a17 => k_is); (case l17 => k_is); (case c17 => k_is); (case k17 => k_is); (case a18 => k_is); (case l18 => k_is); (case c18 => k_is); (case k18 => k_is); (case a19 => k_is); (case l19 => k_is); (case c19 => k_is); (case k19 => k_is); (case z20 => k_is); (case z21 => k_is); (case z22 => k_is); (case z23 => k_is); (case z24 => k_is); (case z25 => k_is); (case z26 => k_is); (case z27 => k_is); (case z28 => k_is); (case z29 => k_is)
