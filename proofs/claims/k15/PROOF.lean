import PyProof.Rows.All
import Wide.All
import OpenK.AllK
import Wide.FinOn
import PyProof.Rows.ReprOcc
import HandS.ForMost
import HandS.Wide
import HandS.WideBits
import HandS.TupAny
import HandS.IsInst
import HandS.SetFor
import HandS.SetTxt0
import HandS.Strs
import HandS.More
import HandS.EndBits
import HandS.Zip
import HandS.FStr
import HandS.Walk
import HandS.TryOnly
import HandS.Star
import HandS.Exc
import HandS.StrMore
import HandS.Sort
import KE.GoesEnumKw
import HandS.Comp
import HandS.TupLe
import HandS.Deep
import HandS.Style
import PySem.Challenge.RW_toldwhensure_k15_whole_full_bags_tell_lo
set_option Elab.async false
set_option linter.all false
set_option maxRecDepth 100000
/-! sets of texts: set(list of texts), sorted(such a set). The members are told as a list without duplicates. -/
namespace Tset
open PySem PySem.Spec PyProof.Rows L2 PySem.Froz
/-- the payload D has the texts l, can be walked and can be read in order -/
structure Pay (P : Program) (w : World) (D : SD) (l : List Str) : Prop where
  tx : TxOk P w D l
  ris : Ris D.2.2.place.toList
  led : w.params.followText "set-order" = true ∨ D.2.2.led = true
  nd : l.Nodup
def Holds (P : Program) (w : World) (h : Heap) (a : Addr) (l : List Str) : Prop := ∃ D : SD, h.get? a = some (sObj "set" D) ∧ Pay P w D l
section
variable {P : Program} {w : World} {A : Around} {E : Value → Shared → Prop} {s : Shared}
theorem Holds.kept {h h' : Heap} {a : Addr} {l : List Str} (x : Holds P w h a l) (k : ∀ o, h.get? a = some o → h'.get? a = some o) : Holds P w h' a l :=
  let ⟨D, e, r⟩ := x
  ⟨D, k _ e, r⟩
theorem Pay.tail {es : Array (Int × Value)} {t : SetTable} {l : List Str} (ep : Nat) (dm : Bool) (tx : TxOk P w (tailTx ep es t dm) l) (nd : l.Nodup) (r : Ris t.place.toList) (g : w.params.followText "set-order" = true ∨ t.led = true) :
    Pay P w (tailTx ep es t dm) l := by
  refine ⟨tx, ?_, ?_, nd⟩ <;> unfold tailTx <;> split
  · exact relayAll_ris _ _ _
  · exact r
  · rcases g with g | g
    · exact .inl g
    · exact .inr ((relayAll_led _ _ _).trans g)
  · exact g
theorem Pay.add {D : SD} {l : List Str} {k : Str} (u : Tok) (x : Pay P w D l) (hk : k ∉ l) : Pay P w (addTx (hashStr w k) (.str k u) D) (k :: l) := by
  have tx := add_ok (k := k) u x.tx
  unfold addTx at tx ⊢
  have r1 := layNew_ris D.2.2 D.1 (hashStr w k) (.str k u) x.ris
  have l1 := layNew_led D.2.2 D.1 (hashStr w k) (.str k u)
  refine Pay.tail _ _ tx (List.nodup_cons.mpr ⟨hk, x.nd⟩) ?_ ?_
  · split <;> exact r1
  · rcases x.led with g | g
    · exact .inl g
    · right
      split
      · exact l1.trans g
      · exact l1.trans g
/-- a text that is there already is not added -/
theorem add_there {a : Addr} {D : SD} {l : List Str} {k : Str} {u : Tok} {Q : Bool → Shared → Prop} (ho : s.heap.get? a = some (sObj "set" D)) (x : TxOk P w D l) (hk : k ∈ l) (hb : l.length < scanBound) (q : Q false s) :
    wpAny (model P w) A (setAddHashed a (.str k u) (hashStr w k)) Q E s := by
  obtain ⟨es, ep, t⟩ := D
  have hy : (strKind P w).is k (.str k u) = true := is_str k u
  have hsz : es.size = l.length := x.sz
  have fits : t.fits es.size = true := x.fit
  have elems : ElemsOf (strKind P w) es.toList := x.el
  have few : es.size < scanBound := by rw [hsz]; exact hb
  obtain ⟨e, he, hz⟩ := (x.mem k).mp hk
  unfold setAddHashed setAddHashedIn
  refine wpAny_holding (wpAny_bind (wpAny_setState_of ho rfl fits ?_))
  dsimp only
  rw [byScan_of rfl few elems]
  simp only [↓reduceIte]
  unfold setAddByScan
  refine wpAny_bind (wpAny_bind (wpAny_rule ?_))
  refine wpAny_bind (wpAny_setScan_of (knd := strKind P w) (k := k) hy ho rfl fits elems ?_)
  cases hf : List.findIdx? (fun e => (strKind P w).is k e.2) es.toList with
  | some j => exact wpAny_pure (wpAny_pure q)
  | none =>
    have no := List.findIdx?_eq_none_iff.mp hf e he
    rw [hz] at no
    cases no
/-- one text more: it is there behind it -/
theorem add_one {a : Addr} {l : List Str} {k : Str} {u : Tok} {Q : Bool → Shared → Prop} (x : Holds P w s.heap a l) (hb : l.length + 1 < scanBound)
    (q : ∀ b h' l', Heap.SameBut a s.heap h' → Holds P w h' a l' → (∀ z, z ∈ l' ↔ z = k ∨ z ∈ l) → l'.length ≤ l.length + 1 → Q b { s with heap := h' }) :
    wpAny (model P w) A (setAddHashed a (.str k u) (hashStr w k)) Q E s := by
  obtain ⟨D, ho, p⟩ := x
  by_cases hk : k ∈ l
  · exact add_there ho p.tx hk (by omega) (q false s.heap l (Heap.SameBut.refl a s.heap) ⟨D, ho, p⟩ (fun z => ⟨.inr, fun h => h.elim (fun e => e ▸ hk) id⟩) (by omega))
  · refine add_x ho p.tx hk hb (q true _ (k :: l) (Heap.SameBut.update s.heap a _) ⟨_, get_upd _ ho rfl, p.add u hk⟩ (fun z => List.mem_cons) (by simp))
/-- the fresh set -/
theorem fresh {h : Heap} {a : Addr} (ho : h.get? a = some { cls := .type "set", dict := none, data := .set #[] 0 (.fresh 0 0 (!w.params.followText "set-order")) }) : Holds P w h a [] := by
  refine ⟨(#[], 0, .fresh 0 0 (!w.params.followText "set-order")), ho, TxOk.nil rfl, List.Pairwise.nil, ?_, List.nodup_nil⟩
  show _ ∨ (!w.params.followText "set-order") = true
  cases w.params.followText "set-order"
  · exact .inr rfl
  · exact .inl rfl
/-- the loop that puts the items in -/
theorem fill {I S : Addr} {fp wr : List Addr} {G : Array GenState → Array GenState → Prop} {n : Nat} {Pv : Nat → Value → Prop} {Sx : Nat → Shared → Prop} {R : Result → Shared → Prop} (W : WalksS P w A.in1 I fp wr G n Pv Sx)
    (nS : S ∉ fp) (ks : List Str) (hn : n = ks.length) (hb : ks.length + 1 < scanBound) (val : ∀ i v, Pv i v → ∃ k t, ks[i]? = some k ∧ v = .str k t) :
    ∀ (left i : Nat) (s : Shared), n - i = left → i ≤ n → Sx i s → (∃ l, Holds P w s.heap S l ∧ (∀ z, z ∈ l ↔ z ∈ ks.take i) ∧ l.length ≤ i) →
      (∀ s' l, Moved (S :: wr) G s s' → Holds P w s'.heap S l → (∀ z, z ∈ l ↔ z ∈ ks) → l.length ≤ n → R (.ok (.ret .none)) s') → codeAny (model P w) A (.builtin "set.update.loop" ⟨[.ref S, .ref I], []⟩) R s := by
  have nSw : S ∉ wr := fun z => nS (W.sub _ z)
  have up : ∀ b ∈ wr, b ∈ S :: wr := fun b z => List.mem_cons_of_mem _ z
  intro left
  induction left with
  | zero =>
    intro i s e hi st ⟨l, hl, hm, hll⟩ hR
    obtain rfl : i = n := by omega
    refine codeAny_builtin F.entry_set_update_loop ?_
    rw [Around.under_plainId F.plain_set_update_loop _]
    refine wpAny_bind (m := pyNext (.ref I)) (W.done s _ _ st fun s' mv => ?_)
    rw [List.take_of_length_le (by omega)] at hm
    exact wpAny_pure (hR s' l (mv.mono up) (hl.kept fun o z => mv.heap S o nSw z) hm hll)
  | succ left ih =>
    intro i s e hi st ⟨l, hl, hm, hll⟩ hR
    have lt : i < n := by omega
    refine codeAny_builtin F.entry_set_update_loop ?_
    rw [Around.under_plainId F.plain_set_update_loop _]
    refine wpAny_bind (m := pyNext (.ref I)) (W.item i s _ _ lt st fun v s1 hv st1 mv => ?_)
    obtain ⟨k, t, hk, rfl⟩ := val i v hv
    refine wpAny_bind (m := holding [Value.str k t] (setAdd S (.str k t))) (wpAny_holding ?_)
    unfold setAdd
    refine wpAny_holding (wpAny_bind ((strKind P w).pyHash (is_str k t) ?_))
    refine add_one (s := { s1 with toks := s1.toks + 1 }) (l := l) (hl.kept fun o z => mv.heap S o nSw z) (by omega) fun b h2 l2 sb hl2 hm2 hll2 => ?_
    refine wpAny_pure ⟨plainId_quiet F.plain_set_update_loop _, ih (i + 1) _ (by omega) lt (W.frame _ s1 _ _ st1 (Nat.le_succ _) fun b hb o z => ?_) ⟨l2, hl2, fun z => ?_, by omega⟩ fun s3 l3 mv3 hl3 hm3 hll3 => ?_⟩
    · rw [sb.2 b fun x => nS (x ▸ hb)]
      exact z
    · rw [hm2, hm, List.take_add_one, hk]
      simp only [Option.toList_some, List.mem_append, List.mem_singleton]
      exact Or.comm
    · refine hR s3 l3 (Moved.trans W.gtrans ((mv.mono up).then_heap (Nat.le_succ _) fun b o hb z => ?_) mv3) hl3 hm3 hll3
      rw [sb.2 b fun x => hb (x ▸ List.mem_cons_self)]
      exact z
theorem at_text : ∀ {us : List Value} {ks : List Str}, StrsAre us ks → ∀ (i : Nat) (v : Value), us[i]? = some v → ∃ k t, ks[i]? = some k ∧ v = .str k t
  | _, _, .nil, i, v, h => by simp at h
  | _, _, .cons k t r, 0, v, h => ⟨k, t, rfl, (Option.some.inj h).symm⟩
  | _, _, .cons k t r, i + 1, v, h => at_text r i v h
set_option maxHeartbeats 3200000 in
theorem made {l : Addr} {items : Array Value} (ks : List Str) {Q : Value → Shared → Prop} (hh : A.handled = none) (hl : s.heap.IsList l items) (hit : StrsAre items.toList ks) (hb : ks.length + 1 < scanBound)
    (q : ∀ (h' : Heap) (tk : Nat) (ls : List Str), Holds P w h' s.heap.objs.size ls → (∀ z, z ∈ ls ↔ z ∈ ks) → ls.length ≤ ks.length → (∀ b o, s.heap.get? b = some o → h'.get? b = some o) → Q (.ref s.heap.objs.size) { s with heap := h', toks := tk }) :
    wpAny (model P w) A (call (.type "set") [.ref l]) Q E s := by
  have sz : items.size = ks.length := by rw [← Array.length_toList]; exact StrsAre.length hit
  obtain ⟨_, _, hmro⟩ := F.called_set.mro
  have hmade := F.called_set.made
  have hsub := F.called_set.sub
  have h1 := F.called_set.notType
  have h2 := F.called_set.canCreate
  have h3 := F.typeCall_set_1 (.ref l)
  refine wpAny_call (codeAny_of_tree ?_)
  show wpAny _ _ (callAny (.type "set") _) _ _ _
  refine wpAny_pure ⟨Code.quiet_builtin _ (by decide +kernel), codeAny_builtin F.entry_type_call ?_⟩
  rw [Around.under_plain (weight_type_call_type "set" [.ref l] []) rfl]
  repeat (any_goals (first | assumption | wp_step))
  generalize eo : ({ cls := .type "set", dict := none, data := .set #[] 0 (.fresh 0 0 (!w.params.followText "set-order")) } : Obj) = ob
  refine codeAny_mono (code_set_led1 (.ref l) (E := E) (Q₁ := fun r s' => r = .ref s.heap.objs.size ∧ s' = { s with heap := s.heap.push ob }) (by subst eo; exact ⟨rfl, rfl⟩)) fun r s' hr => ?_
  rcases r with e | fl
  · exact hr
  cases fl with
  | ret r =>
    obtain ⟨rfl, rfl⟩ := hr
    have at0 : (s.heap.push ob).get? s.heap.objs.size = some ob := Heap.get?_push_size _ (by subst eo; rfl)
    have ty0 : Shared.TypeIs { s with heap := s.heap.push ob } (.ref s.heap.objs.size) "set" := ⟨ob, at0, by subst eo; rfl⟩
    have hli := F.called_set.init.lookup
    have hbi := F.called_set.init.bind (.ref s.heap.objs.size)
    repeat (any_goals (first | assumption | wp_step))
    refine codeAny_mono (codeAny_call_builtin (R := wants (fun r s2 => r = .none ∧ ∃ h' tk ls, s2 = { s with heap := h', toks := tk } ∧ Holds P w h' s.heap.objs.size ls ∧ (∀ z, z ∈ ls ↔ z ∈ ks) ∧ ls.length ≤ ks.length ∧ (∀ b o, s.heap.get? b = some o → h'.get? b = some o)) E)
      F.called_set.init.plain F.entry_set_init (check_set_init_1 ty0 ?_)) fun r s2 hr => ?_
    · obtain ⟨⟨oc, od, oD, os⟩, hol, hc, nl, hd⟩ := hl
      simp only at hc hd
      subst hc; subst hd
      have lst1 : (s.heap.push ob).IsList l items := ⟨_, Heap.get?_push_of_some _ hol, rfl, nl, rfl⟩
      have hol' := Heap.get?_push_of_some ob hol
      have neI : l ≠ (s.heap.push ob).objs.size := by
        rw [Heap.size_push]
        exact Nat.ne_of_lt (Nat.lt_succ_of_lt (Heap.lt_size hol))
      subst eo
      have a1 := F.sub_list_set
      have a2 := F.sub_list_frozenset
      have a3 : (Value.type "list" == Value.type "dict") = false := by decide
      unfold Builtin.«set.__init__» noKeywords Builtin.Frozenset.updateFrom
      generalize hPI : pyIter = PI
      wp_walk
      subst hPI
      refine wpAny_pyIter_list lst1 ?_
      refine wpAny_bind (wpAny_runValue ?_)
      have ltl : l < s.heap.objs.size := Heap.lt_size hol
      have hd3 : A.in1.in1.in1.handled = none := by simp [hh]
      have val : ∀ (i : Nat) (v : Value), items[i]? = some v → ∃ k t, ks[i]? = some k ∧ v = .str k t := fun i v hv => at_text hit i v (by rw [Array.getElem?_toList]; exact hv)
      refine fill ((Walks.list hd3 _ l neI items).toS) (S := s.heap.objs.size) ?nS ks sz hb val (items.size - 0) 0 _ (by omega) (Nat.zero_le _) ⟨⟨_, Heap.get?_push_size _ rfl, rfl, rfl⟩, (lst1.push _)⟩ ⟨[], ?f, by simp, Nat.le_refl 0⟩ ?R
      case nS =>
        rw [Heap.size_push]
        simp only [List.mem_cons, List.mem_singleton, List.not_mem_nil, or_false, not_or]
        exact ⟨Nat.ne_of_lt (Nat.lt_succ_self _), Nat.ne_of_gt ltl⟩
      case f =>
        have z := Heap.get?_push_of_some ({ cls := .type "list_iterator", data := .fields #[.ref l, .int 0 0] } : Obj) at0
        exact fresh z
      case R =>
        rintro ⟨h', g2, d2, t2, o2⟩ ls mv hH hm hll
        obtain rfl : g2 = s.gens := mv.gens
        obtain rfl : d2 = s.drawn := mv.drawn
        obtain rfl : o2 = s.os := mv.os
        show wpAny _ _ _ _ _ _
        refine wpAny_pure ?_
        show wpAny _ _ (ret Value.none) _ _ _
        refine wpAny_pure ⟨rfl, h', t2, ls, rfl, hH, hm, by rw [← sz]; exact hll, fun b o e => ?_⟩
        have b0 : b < s.heap.objs.size := Heap.lt_size e
        refine mv.heap b o ?_ (Heap.get?_push_of_some _ (Heap.get?_push_of_some _ e))
        simp only [List.mem_cons, List.mem_singleton, List.not_mem_nil, or_false, not_or]
        refine ⟨Nat.ne_of_lt b0, ?_⟩
        rw [Heap.size_push]
        exact Nat.ne_of_lt (Nat.lt_succ_of_lt b0)
    · rcases r with e | fl
      · exact hr
      cases fl with
      | ret r =>
        obtain ⟨rfl, h', tk, ls, rfl, hH, hm, hll, hk⟩ := hr
        repeat (any_goals (first | assumption | wp_step))
        exact q _ _ _ hH hm hll hk
      | _ => exact hr.elim
  | _ => exact hr.elim
/-- as many items as members, each member among them: the members in another order -/
theorem perm_of : ∀ (l ls : List Str), l.Nodup → (∀ z ∈ l, z ∈ ls) → ls.length ≤ l.length → ls.Perm l
  | [], ls, _, _, h => by
    have e : ls = [] := List.length_eq_zero_iff.mp (by simpa using h)
    rw [e]
  | x :: l, ls, nd, sub, h => by
    obtain ⟨nx, nd⟩ := List.nodup_cons.mp nd
    have hx : x ∈ ls := sub x List.mem_cons_self
    have p := List.perm_cons_erase hx
    have e1 : (ls.erase x).length ≤ l.length := by
      rw [List.length_erase_of_mem hx]
      simp only [List.length_cons] at h
      omega
    refine p.trans (List.Perm.cons x (perm_of l (ls.erase x) nd (fun z hz => ?_) e1))
    rcases List.mem_cons.mp (p.mem_iff.mp (sub z (List.mem_cons_of_mem _ hz))) with e | m
    · exact absurd (e ▸ hz) nx
    · exact m
theorem texts : ∀ (es : List (Int × Value)), ElemsOf (strKind P w) es → ∃ ls : List Str, StrsAre (es.map (·.2)) ls ∧ ∀ z, z ∈ ls ↔ ∃ e ∈ es, (strKind P w).is z e.2 = true
  | [], _ => ⟨[], .nil, fun z => by simp⟩
  | e :: es, h => by
    obtain ⟨ls, r, m⟩ := texts es fun x hx => h x (List.mem_cons_of_mem _ hx)
    obtain ⟨⟨k, hk, _⟩, _⟩ := h e List.mem_cons_self
    obtain ⟨t, ek⟩ := Value.isStrOf_shape (x := k) (v := e.2) hk
    refine ⟨k :: ls, ?_, fun z => ?_⟩
    · show StrsAre (e.2 :: es.map (·.2)) (k :: ls)
      rw [ek]
      exact .cons k t r
    · rw [List.mem_cons, m]
      constructor
      · rintro (rfl | ⟨x, hx, y⟩)
        · exact ⟨e, List.mem_cons_self, hk⟩
        · exact ⟨x, List.mem_cons_of_mem _ hx, y⟩
      · rintro ⟨x, hx, y⟩
        rcases List.mem_cons.mp hx with rfl | hx
        · exact .inl ((strKind P w).inj x.2 z k y hk)
        · exact .inr ⟨x, hx, y⟩
/-- the values of the payload, whatever their order, are the members, whatever theirs -/
theorem values {D : SD} {l : List Str} {vs : List Value} (p : Pay P w D l) (pm : vs.Perm (D.1.toList.map (·.2))) : ∃ ls : List Str, StrsAre vs ls ∧ ls.Perm l := by
  obtain ⟨l1, r1, m1⟩ := texts D.1.toList p.tx.el
  have e1 : l1.length = l.length := by rw [← StrsAre.length r1, List.length_map, Array.length_toList, p.tx.sz]
  have p1 : l1.Perm l := perm_of l l1 p.nd (fun z hz => (m1 z).mpr ((p.tx.mem z).mp hz)) (by omega)
  have all : ∀ v ∈ vs, ∃ x t, v = .str x t := fun v hv => r1.all v (pm.mem_iff.mp hv)
  refine ⟨vs.map strOf, strsAre_map vs all, ?_⟩
  have e2 := pm.map strOf
  rw [r1.strs] at e2
  exact e2.trans p1
/-- sorted(the set), fewer than 64 members -/
theorem inOrder {a : Addr} {l : List Str} {Q : Value → Shared → Prop} (x : Holds P w s.heap a l) (hh : A.handled = none) (few : l.length < 64)
    (q : ∀ s' p (out : Array Value) (c : Nat) (ls : List Str), (∀ b o, s.heap.get? b = some o → s'.heap.get? b = some o) → s'.gens = s.gens → s'.os = s.os → s.heap.objs.size ≤ p → s'.heap.get? p = some (seqObj "list" out c) →
      StrsAre out.toList ls → ls.Perm l → sortedS ls = true → Q (.ref p) s') : wpAny (model P w) A (call (.builtin "sorted") [.ref a]) Q E s := by
  obtain ⟨⟨es, ep, t⟩, ho, p⟩ := x
  have sz : es.size = l.length := p.tx.sz
  refine Calls.call_function_entry kind_sorted plain_sorted entry_sorted (args_sorted1 _) ?_
  unfold Builtin.«sorted»
  refine wpAny_bind (m := checkCount "sorted" 1 1 _) (wpAny_pure ?_)
  refine wpAny_bind (collect_set (A := A.in1) hh ⟨_, ho, rfl, rfl⟩ p.tx.fit (by show es.size < scanBound; unfold scanBound; omega) p.ris p.led fun s1 vs k1 z1 g1 o1 pm => ?_)
  obtain ⟨ls, r, pl⟩ := values p pm
  have hv : vs.length = l.length := by rw [StrsAre.length r, pl.length_eq]
  refine wpAny_bind (wpAny_newList ?_ (by rw [hv, sizeLine_eq]; omega))
  have at1 : (s1.heap.push (seqObj "list" vs.toArray 0)).get? s1.heap.objs.size = some (seqObj "list" vs.toArray 0) := Heap.get?_push_size _ rfl
  refine wpAny_bind (wpAny_holding (wpAny_call_entry slot_list_sort ⟨_, at1, rfl⟩ entry_list_sort
    (list_sort_treeK strKind_oneLt at1 r.keysOf (fun v1 v2 rest e => keyKind_strs (by rw [← e]; exact r)) (by rw [hv]; exact few) fun st' hp hs => ?_) (args_list_sort _)))
  obtain ⟨ys, b1, b2, b3⟩ := sorted_out_str r hp hs
  obtain ⟨c, hc⟩ := sortedHeap_at (vs := vs) (out := (arrOf st').map (·.2)) at1
  refine ⟨_, rfl, wpAny_pure ⟨_, rfl, q _ s1.heap.objs.size _ c ys (fun b u e => ?_) g1 o1 z1 hc b1 (b2.trans pl) b3⟩⟩
  have e1 := k1 b u e
  have lt := Heap.lt_size e1
  show (sortedHeap (s1.heap.push (seqObj "list" vs.toArray 0)) s1.heap.objs.size vs _).get? b = some u
  rw [sortedHeap_old (Nat.ne_of_lt lt) (by rw [size_push']; exact Nat.lt_succ_of_lt lt)]
  exact Heap.get?_push_of_some _ e1
end
/-- what stands at a: a set of the texts l -/
def SetS (P : Program) (w : World) (a : Addr) (l : List Str) : HO := .ext fun h => Holds P w h a l
section
variable {X : Cx}
def rSetOfS (K : PySem.W.Frag) (P : Program) (w : World) : List V → Hp → VK → Prop := fun xs H Q => ∃ (l : Addr) (ks : List Str), xs = [V.ref l] ∧ SqL K H l (ks.map V.str) ∧ ks.length ≤ 1000 ∧
  ∀ a ls, H a = none → (∀ z, z ∈ ls ↔ z ∈ ks) → ls.length ≤ ks.length → Q (.ref a) (upd H a (SetS P w a ls))
theorem cr_setOfS (hc : X.calm = true) : CallR X (.type "set") (rSetOfS X.K X.prog X.w) := by
  intro pins s σ H xs us Q I r h
  obtain ⟨l, ks, rfl, hl, hk, q⟩ := h
  rw [Vals.ref1 r]
  obtain ⟨its, rv, pl, hz⟩ := I.list hl
  have hn : H s.heap.objs.size = none := I.hok.fresh (Nat.le_refl _)
  refine made (P := X.prog) (w := X.w) ks (I.ok.hd hc) pl.isList (by simpa using rv.strs) (by unfold scanBound; omega) fun h' tk ls hh hm hl k => ?_
  have new : ObjOk X.prog X.w (upd H s.heap.objs.size (SetS X.prog X.w s.heap.objs.size ls)) h' s.heap.objs.size (SetS X.prog X.w s.heap.objs.size ls) :=
    ⟨hh, let ⟨_, e, _⟩ := hh; ⟨_, e⟩, fun h1 h2 x kk => x.kept kk⟩
  exact ⟨.ref s.heap.objs.size, upd H s.heap.objs.size (SetS X.prog X.w s.heap.objs.size ls), I.laid (t' := tk) k (Nat.le_refl _) new, rfl, q _ ls hn hm hl⟩
def rSortedS (P : Program) (w : World) : List V → Hp → VK → Prop := fun vs H Q => ∃ (a : Addr) (l : List Str), vs = [V.ref a] ∧ H a = some (SetS P w a l) ∧ l.length < 64 ∧
  ∀ (ls : List Str) (p : Addr), ls.Perm l → ls.Nodup → sortedS ls = true → H p = none → Q (.ref p) (upd H p (.lst (ls.map V.str)))
theorem cr_sortedSetS (hc : X.calm = true) : CallR X (.builtin "sorted") (rSortedS X.prog X.w) := by
  intro pins s σ H vs us Q I r h
  obtain ⟨a, l, rfl, ha, few, q⟩ := h
  have R : Holds X.prog X.w s.heap a l := (I.hok a _ ha).1
  have nd : l.Nodup := let ⟨_, _, p⟩ := R; p.nd
  rw [Vals.ref1 r]
  refine inOrder R (I.ok.hd hc) few fun s' p out c ls k g o hp hg hi pm so => ?_
  have hlen : (ls.map V.str).length ≤ sizeLine := by rw [List.length_map, pm.length_eq, sizeLine_eq]; omega
  have hn : H p = none := I.hok.fresh hp
  have J : Inv X pins σ (upd H p (.lst (ls.map V.str))) { s with heap := s'.heap, gens := s'.gens, drawn := s'.drawn, toks := s'.toks } :=
    I.call (ch := []) (Un.laid k hp hn) (I.hok.laid k hp ⟨hlen, out.toList, c, vals_of_strs hi, hg⟩) (by rw [g]; exact I.bare) (fun _ z => nomatch z)
  have e : s' = { s with heap := s'.heap, gens := s'.gens, drawn := s'.drawn, toks := s'.toks } := by
    cases s'
    cases s
    cases o
    rfl
  rw [e]
  exact ⟨.ref p, _, J, rfl, q ls p pm (pm.nodup_iff.mpr nd) so hn⟩
end
end Tset

/-! a, b, *rest = t, t a tuple: the names ahead of the star, the rest as a new list -/
namespace Star2
open PySem PySem.Spec PyProof.Rows L2
theorem nolen_ti : typeLookup (.type "tuple_iterator") "__len__" = pure none := by rw [typeLookup_type, builtinLookup_eq_fast]; kernel_rfl
theorem hint_ti : typeLookup (.type "tuple_iterator") "__length_hint__" = pure (some (.builtin "tuple_iterator.__length_hint__")) := by rw [typeLookup_type, builtinLookup_eq_fast]; kernel_rfl
section
variable {prog : Program} {w : World} {A : Around} {E : Value → Shared → Prop} {s : Shared}
/-- the walk of a tuple from its k-th item on -/
theorem from_ {I ax : Addr} {items : Array Value} {k : Nat} (W : Walks prog w A I [I, ax] [I] items.size (fun i v => items[i]? = some v) (fun i h => h.IsTupleIter I ax i ∧ h.IsTuple ax items)) (hk : k ≤ items.size) :
    Walks prog w A I [I, ax] [I] (items.size - k) (fun i v => items[i + k]? = some v) (fun i h => h.IsTupleIter I ax (i + k) ∧ h.IsTuple ax items) where
  sub := W.sub
  frame := fun i => W.frame (i + k)
  item := fun i s Q E hi st q => W.item (i + k) s Q E (by omega) st fun v h' tk pv st' kk => q v h' tk pv ((show i + k + 1 = i + 1 + k by omega) ▸ st') kk
  done := fun s Q E st q => W.done s Q E ((show items.size - k + k = items.size by omega) ▸ st) q
  self := fun i => W.self (i + k)
/-- what is left of the walk, gathered -/
theorem rest {it t : Addr} {items : Array Value} {k : Nat} {Q : List Value → Shared → Prop} (hh : A.handled = none) (hit : s.heap.IsTupleIter it t k) (ht : s.heap.IsTuple t items) (ne : t ≠ it) (hk : k ≤ items.size) (hz : items.size ≤ sizeLine)
    (q : ∀ (h' : Heap) (tk : Nat), (∀ b o, b ≠ it → s.heap.get? b = some o → h'.get? b = some o) → s.heap.objs.size ≤ h'.objs.size → Q (items.toList.drop k) { s with heap := h', toks := tk }) : wpAny (model prog w) A (collect (.ref it)) Q E s := by
  have W := (from_ (Walks.tuple (prog := prog) (w := w) (A := A.in1) hh it t ne items) hk).toS
  obtain ⟨oi, hoi, _⟩ := id hit
  obtain ⟨ot, hot, _⟩ := id ht
  have n1 : s.heap.objs.size ≠ it := Nat.ne_of_gt (Heap.lt_size hoi)
  have n2 : s.heap.objs.size ≠ t := Nat.ne_of_gt (Heap.lt_size hot)
  have nS : s.heap.objs.size ∉ [it, t] := by simp only [List.mem_cons, List.not_mem_nil, or_false, not_or]; exact ⟨n1, n2⟩
  unfold collect
  refine wpAny_bind (wpAny_runValue (codeAny_builtin F.entry_proto_collect ?_))
  rw [Around.under_plainId F.plain_proto_collect _]
  refine wpAny_bind (m := newList []) (wpAny_newObj_type ?_)
  refine wpAny_pure ⟨plainId_quiet F.plain_list_iadd _, codeAny_builtin F.entry_list_iadd ?_⟩
  rw [Around.under_plainId F.plain_list_iadd _]
  generalize eo : ({ cls := .type "list", data := .seq ([] : List Value).toArray } : Obj) = ob
  have at1 : (s.heap.push ob).get? s.heap.objs.size = some ob := Heap.get?_push_size _ (by subst eo; rfl)
  have it1 : (s.heap.push ob).IsTupleIter it t (0 + k) := by rw [Nat.zero_add]; exact hit.at fun o e => Heap.get?_push_of_some _ e
  have ht1 : (s.heap.push ob).IsTuple t items := ht.push _
  have ty : ({ s with heap := s.heap.push ob } : Shared).TypeIs (.ref it) "tuple_iterator" := Heap.IsTupleIter.typeIs (s := { s with heap := s.heap.push ob }) it1
  have other : Builtin.List.listSameRef (.ref s.heap.objs.size) (.ref it) = false := by simp [Builtin.List.listSameRef, n1]
  subst eo
  show wpAny _ A.in1 (Builtin.List.listExtendWith (.ref s.heap.objs.size) (.ref it) (.ref s.heap.objs.size)) _ _ _
  unfold Builtin.List.listExtendWith
  refine wpAny_bind (wpAny_typeOf ty ?_)
  rw [if_neg (by rw [other]; decide)]
  refine wpAny_bind (wpAny_pyIter_tupleiter (s := { s with heap := s.heap.push _ }) it1 ?_)
  refine wpAny_bind (wpAny_holding ?_)
  unfold Builtin.List.listLengthHint
  refine wpAny_bind (wpAny_specialOf ty nolen_ti ?_)
  show wpAny _ A.in1 (specialOf (Value.ref it) (Str.ofString "__length_hint__") >>= _) _ _ _
  refine wpAny_bind (wpAny_specialOf ty hint_ti ?_)
  generalize hid : ("tuple_iterator.__length_hint__" : String) = id0
  wp_delta
  rw [show splitId id0 = some ("tuple_iterator", "__length_hint__") from by subst hid; decide +kernel]
  subst hid
  refine wpAny_bind (wpAny_isInstance (b := true) ty (by rw [isSubtype_type]; kernel_rfl) ?_)
  refine wpAny_pure ?_
  rw [if_neg (by decide)]
  refine wpAny_pure ⟨plainId_quiet F.plain_extend_loop _, codeAny_extend_loopS W (by omega) _ nS _ (items.size - k) 0 _ _ _ rfl (Nat.zero_le _) ⟨it1, ht1⟩ at1 (ItemsOf.nil _) fun s' acc c mv at2 got => ?_⟩
  show wpAny _ A (load s.heap.objs.size >>= _) _ _ s'
  refine wpAny_bind (wpAny_load at2 (wpAny_pure ?_))
  have ea : acc.toList = items.toList.drop k := by
    refine List.ext_getElem? fun i => ?_
    rw [List.getElem?_drop, Array.getElem?_toList, Array.getElem?_toList]
    have hs : acc.size = items.size - k := got.1
    by_cases hi : i < acc.size
    · have z := got.2 i acc[i] (Array.getElem?_eq_getElem hi)
      rw [Array.getElem?_eq_getElem hi, Nat.add_comm k i]
      exact z.symm
    · rw [Array.getElem?_eq_none (by omega), Array.getElem?_eq_none (by omega)]
  show Q acc.toList s'
  rw [ea, Moved.eq_with mv]
  refine q s'.heap s'.toks (fun b o hb e => mv.heap b o (fun hm => ?_) (Heap.get?_push_of_some _ e)) (Nat.le_of_lt (Heap.lt_size at2))
  rcases List.mem_cons.mp hm with z | hm
  · exact absurd (Heap.lt_size e) (by rw [z]; exact Nat.lt_irrefl _)
  · exact hb (List.mem_singleton.mp hm)
theorem items_star {t : Addr} {items : Array Value} {i n : Nat} {Q : List Value → Shared → Prop} (hh : A.handled = none) (ht : IsTup s.heap t items) (hi : i + 1 = n) (hl : i ≤ items.size) (hz : items.size ≤ sizeLine)
    (q : ∀ (h' : Heap) (tk : Nat), (∀ b o, s.heap.get? b = some o → h'.get? b = some o) → s.heap.objs.size ≤ h'.objs.size →
      Q (items.toList.take i ++ [.ref h'.objs.size]) { s with heap := h'.push { cls := .type "list", data := .seq (items.toList.drop i).toArray }, toks := tk }) :
    wpAny (model prog w) A (unpackItems (.ref t) n (some i)) Q E s := by
  have nt : t ≠ s.heap.objs.size := by obtain ⟨o, ho, _⟩ := ht; exact Nat.ne_of_lt (Heap.lt_size ho)
  unfold unpackItems
  refine wpAny_bind ?_
  unfold notIterableAtAll
  refine wpAny_bind (wpAny_specialOf ht.typeIs slot_tuple_iter.lookup (wpAny_pure ?_))
  simp only [Bool.false_eq_true, if_false]
  refine wpAny_bind (wpAny_holding (iter_tuple ht ?_))
  refine wpAny_bind (wpAny_holding (draw_tuple nt i 0 _ _ ⟨_, Heap.get?_push_size _ rfl, rfl, rfl⟩ (ht.push _) (by omega) fun h1 it1 sb => ?_))
  have e1 : List.take i (List.drop 0 items.toList) = items.toList.take i := by rw [List.drop_zero]
  rw [e1]
  have len1 : (items.toList.take i).length = i := by rw [List.length_take, Array.length_toList]; omega
  rw [if_neg (by rw [len1]; omega)]
  have ht1 : IsTup h1 t items := (ht.push _).extBut sb.extBut nt
  obtain ⟨ot, hot, hoc, hod⟩ := id ht1
  obtain ⟨oi, hoi, hic, hid⟩ := id it1
  refine wpAny_bind (wpAny_holding (rest (k := i) hh (by rw [Nat.zero_add] at it1; exact it1) ht1 nt hl hz fun h2 tk k2 z2 => ?_))
  have ea : n - 1 - i = 0 := by omega
  rw [ea]
  try dsimp only
  rw [if_neg (by omega)]
  have em : (items.toList.drop i).length - 0 = (items.toList.drop i).length := rfl
  rw [em, List.take_length, List.drop_length]
  refine wpAny_bind (wpAny_newList ?_ (by rw [List.length_drop, Array.length_toList]; omega))
  refine wpAny_pure ?_
  rw [List.append_nil]
  refine q h2 tk (fun b o e => ?_) ?_
  · have hb : b ≠ s.heap.objs.size := Nat.ne_of_lt (Heap.lt_size e)
    exact k2 b o hb (sb.extBut b o hb (Heap.get?_push_of_some _ e))
  · exact Nat.le_trans (Nat.le_of_lt (Heap.lt_size hoi)) z2
end
section
variable {X : Cx}
/-- names ahead of the star: their targets' readings; then the starred one's -/
def gStar (K : PySem.W.Frag) (i : Nat) (t : TGs) : TG := fun v σ H Q => ∃ a xs, v = .ref a ∧ SqT K H a xs ∧ i ≤ xs.length ∧ ∀ p, H p = none → t (xs.take i ++ [.ref p]) σ (upd H p (.lst (xs.drop i))) Q
theorem pgs_star {e : Expr} {pos : Pos} {t : TG} (h1 : PG X e t) (hs : (assignEach [.Starred e pos] X.env).map (·.2) = [assign e X.env] := by rfl) : PGs X [.Starred e pos] (gCons t gNil) := by
  refine ⟨fun pins s σ H vs us Q I r h => ?_⟩
  obtain ⟨v, vr, rfl, h⟩ := h
  cases r with
  | cons r rr =>
    rw [hs]
    refine assignInOrder_cons (thn (h1.run pins s σ H _ _ _ I r h) fun _ s1 ⟨σ1, H1, I1, e1, q1⟩ => ?_)
    subst e1
    cases rr
    exact assignInOrder_nil ⟨σ1, H1, I1, q1⟩
theorem pg_star {es : List Expr} {k : Nat} {t : TGs} {i : Nat} {pos : Pos} (hc : X.calm = true) (h : PGs X es t) (hn : (assignEach es X.env).length = i + 1 := by rfl) (hst : (assignEach es X.env).findIdx? (·.1) = some i := by rfl) : PG X (.Tuple es k pos) (gStar X.K i t) := by
  refine ⟨fun pins s σ H v u Q I r hw => ?_⟩
  obtain ⟨a, xs, rfl, hq, hl, hw⟩ := hw
  cases r
  obtain ⟨its, rv, ht, hz⟩ := I.tuple hq
  have el := rv.length
  rw [assign_Tuple]
  refine wpAny_bind (wpAny_standAt ?_)
  unfold unpack
  rw [hn, hst]
  refine wpAny_bind (wpAny_holding (items_star (I.ok.hd hc) ht rfl (by simp; omega) (by simp; omega) fun h' tk kk hs => ?_))
  have keep : ∀ b o, s.heap.get? b = some o → (h'.push { cls := .type "list", data := .seq (its.toArray.toList.drop i).toArray }).get? b = some o := fun b o e => Heap.get?_push_of_some _ (kk b o e)
  have hp : H h'.objs.size = none := I.hok.fresh hs
  have new : ObjOk X.prog X.w (upd H h'.objs.size (.lst (xs.drop i))) (h'.push { cls := .type "list", data := .seq (its.toArray.toList.drop i).toArray }) h'.objs.size (.lst (xs.drop i)) :=
    ⟨by rw [List.length_drop]; omega, its.drop i, 0, rv.drop i, by rw [Heap.get?_push_size _ rfl]⟩
  have J : Inv X pins σ (upd H h'.objs.size (.lst (xs.drop i))) { s with heap := h'.push { cls := .type "list", data := .seq (its.toArray.toList.drop i).toArray }, toks := tk } := I.laid keep hs new
  exact h.run pins _ σ _ _ _ Q J (Vals.append (by simpa using rv.take i) (.cons (show RelV (V.ref h'.objs.size) (Value.ref h'.objs.size) from rfl) .nil)) (hw _ hp)
end
end Star2

/-! zip of a tuple and a list: two walks of different kinds side by side -/
namespace Zmix
open PySem PySem.Spec PyProof.Rows L2
/-- what a walk at i over l needs to stand, and stands on -/
def Looks (i l : Addr) (P : Heap → Prop) : Prop := ∀ h h' : Heap, P h → (∀ b o, b = i ∨ b = l → h.get? b = some o → h'.get? b = some o) → P h'
/-- the walk's next item: only the walk's own object moves -/
def Gives (prog : Program) (w : World) (i : Addr) (x : Value) (P P' : Heap → Prop) : Prop :=
  ∀ (A : Around) (E : Value → Shared → Prop) (s : Shared) (Q : Value → Shared → Prop), P s.heap → (∀ h', P' h' → Heap.SameBut i s.heap h' → Q x { s with heap := h' }) → wpAny (model prog w) A (Builtin.SmallTypes.nextOf (.ref i)) Q E s
def Halts (prog : Program) (w : World) (i : Addr) (P : Heap → Prop) : Prop :=
  ∀ (A : Around) (E : Value → Shared → Prop) (s : Shared) (Q : Value → Shared → Prop), A.handled = none → P s.heap → (∀ h' e, Heap.ExtBut i s.heap h' → (∃ o, h'.get? e = some o ∧ o.cls = .type "StopIteration") → E (.ref e) { s with heap := h' }) → wpAny (model prog w) A (Builtin.SmallTypes.nextOf (.ref i)) Q E s
abbrev TW (i l : Addr) (k : Nat) (xs : Array Value) (h : Heap) : Prop := h.IsTupleIter i l k ∧ h.IsTuple l xs
abbrev LW (i l : Addr) (k : Nat) (xs : Array Value) (h : Heap) : Prop := h.IsListIter i l k ∧ h.IsList l xs
theorem looksT (i l : Addr) (k : Nat) (xs : Array Value) : Looks i l (TW i l k xs) := fun h h' p q => ⟨p.1.at fun o e => q i o (.inl rfl) e, by
  obtain ⟨o, ho, r⟩ := p.2
  exact ⟨o, q l o (.inr rfl) ho, r⟩⟩
theorem looksL (i l : Addr) (k : Nat) (xs : Array Value) : Looks i l (LW i l k xs) := fun h h' p q => ⟨p.1.at fun o e => q i o (.inl rfl) e, by
  obtain ⟨o, ho, r⟩ := p.2
  exact ⟨o, q l o (.inr rfl) ho, r⟩⟩
section
variable {prog : Program} {w : World} {A : Around} {E : Value → Shared → Prop} {s : Shared}
theorem givesT {i l : Addr} {k : Nat} {xs : Array Value} {x : Value} (ne : l ≠ i) (hx : xs[k]? = some x) : Gives prog w i x (TW i l k xs) (TW i l (k + 1) xs) := fun A E s Q p q =>
  RZ.nextOf_tuple_item p.1 p.2 hx fun h' a b => q h' ⟨a, p.2.extBut b.extBut ne⟩ b
theorem givesL {i l : Addr} {k : Nat} {xs : Array Value} {x : Value} (ne : l ≠ i) (hx : xs[k]? = some x) : Gives prog w i x (LW i l k xs) (LW i l (k + 1) xs) := fun A E s Q p q =>
  wpAny_nextOf_list_item p.1 p.2 hx fun h' a b => q h' ⟨a, p.2.extBut b.extBut ne⟩ b
theorem haltsT {i l : Addr} {k : Nat} {xs : Array Value} (hx : xs[k]? = none) : Halts prog w i (TW i l k xs) := fun A E s Q hh p q => RZ.nextOf_tuple_end hh p.1 p.2 hx q
/-- the next pair of two walks -/
theorem pair_next {z TI TO i1 i2 l1 l2 : Addr} {P1 P1' P2 P2' : Heap → Prop} {x y a b : Value} {Q : Option Value → Shared → Prop} (D : ZipApart z TI TO i1 i2 l1 l2)
    (k1 : Looks i1 l1 P1) (k1' : Looks i1 l1 P1') (k2 : Looks i2 l2 P2) (k2' : Looks i2 l2 P2') (g1 : Gives prog w i1 x P1 P1') (g2 : Gives prog w i2 y P2 P2')
    (hz : IsZip s.heap z TI TO .none) (hTI : IsPair s.heap TI (.ref i1) (.ref i2)) (hTO : IsPair s.heap TO a b) (p1 : P1 s.heap) (p2 : P2 s.heap)
    (q : ∀ h', IsZip h' z TI TO (rawInt s.heap.objs.size) → IsPair h' TO x y → P1' h' → P2' h' → IsPair h' s.heap.objs.size x y →
      (∀ c o, c ≠ z → c ≠ TO → c ≠ i1 → c ≠ i2 → s.heap.get? c = some o → h'.get? c = some o) → Q (some (.ref s.heap.objs.size)) { s with heap := h' }) :
    wpAny (model prog w) A (pyNext (.ref z)) Q E s := by
  have hT : s.TypeIs (.ref z) "zip" := ⟨_, hz, rfl⟩
  unfold pyNext
  refine wpAny_bind (wpAny_attempt (wpAny_callSpecial?_slot (name := Str.ofString "__next__") hT F.slot_zip_next (wpAny_call_entry F.slot_zip_next hT F.entry_zip_next ?_ (F.args_zip_next_1 _))))
  show wpAny _ _ (field (.ref z) 2 >>= _) _ _ _
  refine wpAny_bind (wpAny_field hz rfl (x := .bool false) rfl ?_)
  show wpAny _ _ (field (.ref z) 3 >>= _) _ _ _
  refine wpAny_bind (wpAny_field hz rfl (x := .ref TI) rfl (wpAny_bind (wpAny_seqItems hTI rfl ?_)))
  show wpAny _ _ (Builtin.SmallTypes.ownedTupleIsFree (.ref z) >>= _) _ _ _
  unfold Builtin.SmallTypes.ownedTupleIsFree
  refine wpAny_bind (wpAny_bind (wpAny_field hz rfl (x := .none) rfl (wpAny_pure ?_)))
  simp only [if_true]
  refine wpAny_bind (wpAny_rule (wpAny_bind (wpAny_field hz rfl (x := .ref TO) rfl ?_)))
  refine wpAny_bind (wpAny_setField_rec hz (by simp) fun hA zA sA => ?_)
  simp only [List.zipIdx_cons, List.zipIdx_nil, List.forIn_cons, List.forIn_nil]
  have uA : ∀ c o, c ≠ z → s.heap.get? c = some o → hA.get? c = some o := fun c o n e => sA.extBut _ _ n e
  refine wpAny_bind (wpAny_bind (wpAny_bind (wpAny_onRaise ?_)))
  refine wpAny_bind (g1 _ _ _ _ (k1 _ _ p1 fun c o hc e => uA c o (by rcases hc with r | r <;> rw [r]; exact D.i1z; exact D.l1z) e) fun hB pB sB => wpAny_pure ?_)
  have uB : ∀ c o, c ≠ z → c ≠ i1 → s.heap.get? c = some o → hB.get? c = some o := fun c o n m e => sB.extBut _ _ m (uA c o n e)
  have tB : IsPair hB TO a b := uB _ _ D.TOz D.TOi1 hTO
  refine wpAny_bind (wpAny_seqItems tB rfl (wpAny_bind (wpAny_updateSeq_pair tB fun hC tC sC => wpAny_bind (wpAny_letGo (wpAny_pure ?_)))))
  have uC : ∀ c o, c ≠ z → c ≠ i1 → c ≠ TO → s.heap.get? c = some o → hC.get? c = some o := fun c o n m k e => sC.extBut _ _ k (uB c o n m e)
  replace tC : IsPair hC TO x b := tC
  refine wpAny_bind (wpAny_bind (wpAny_onRaise ?_))
  refine wpAny_bind (g2 _ _ _ _ (k2 _ _ p2 fun c o hc e => uC c o (by rcases hc with r | r <;> rw [r]; exact D.i2z; exact D.l2z) (by rcases hc with r | r <;> rw [r]; exact D.i12.symm; exact D.l2i1) (by rcases hc with r | r <;> rw [r]; exact D.TOi2.symm; exact D.l2TO) e) fun hD pD sD => wpAny_pure ?_)
  have tD : IsPair hD TO x b := sD.extBut _ _ D.TOi2 tC
  refine wpAny_bind (wpAny_seqItems tD rfl (wpAny_bind (wpAny_updateSeq_pair tD fun hF tF sF => wpAny_bind (wpAny_letGo (wpAny_pure (wpAny_pure ?_))))))
  replace tF : IsPair hF TO x y := tF
  have uF : ∀ c o, c ≠ z → c ≠ i1 → c ≠ TO → c ≠ i2 → s.heap.get? c = some o → hF.get? c = some o := fun c o n m k j e => sF.extBut _ _ k (sD.extBut _ _ j (uC c o n m k e))
  have same : hF.objs.size = s.heap.objs.size := by rw [sF.1, sD.1, sC.1, sB.1, sA.1]
  have zF := sF.extBut _ _ D.TOz.symm (sD.extBut _ _ D.i2z.symm (sC.extBut _ _ D.TOz.symm (sB.extBut _ _ D.i1z.symm zA)))
  have f1 : P1' hF := k1' hB hF pB fun c o hc e => sF.extBut _ _ (by rcases hc with r | r <;> rw [r]; exact D.TOi1.symm; exact D.l1TO) (sD.extBut _ _ (by rcases hc with r | r <;> rw [r]; exact D.i12; exact D.l1i2) (sC.extBut _ _ (by rcases hc with r | r <;> rw [r]; exact D.TOi1.symm; exact D.l1TO) e))
  have f2 : P2' hF := k2' hD hF pD fun c o hc e => sF.extBut _ _ (by rcases hc with r | r <;> rw [r]; exact D.TOi2.symm; exact D.l2TO) e
  refine wpAny_bind (wpAny_seqItems tF rfl (wpAny_bind (wpAny_newTuple ?_)))
  show wpAny _ _ (Builtin.SmallTypes.ownedTupleHandOut (.ref z) (.ref hF.objs.size) >>= _) _ _ _
  unfold Builtin.SmallTypes.ownedTupleHandOut
  refine wpAny_bind (wpAny_bind (wpAny_setField_rec (Heap.get?_push_of_some _ zF) (by simp) fun hG zG sG => wpAny_setField_rec zG (by simp) fun hI zI sI => wpAny_pure ?_))
  have zlt : z < hF.objs.size := Heap.lt_size zF
  have up : ∀ c o, c ≠ z → hF.get? c = some o → hI.get? c = some o := fun c o n e => sI.extBut _ _ n (sG.extBut _ _ n (Heap.get?_push_of_some _ e))
  have new : IsPair hI hF.objs.size x y := sI.extBut _ _ (Nat.ne_of_gt zlt) (sG.extBut _ _ (Nat.ne_of_gt zlt) (Heap.get?_push_size _ rfl))
  have zE : IsZip hI z TI TO (rawInt hF.objs.size) := zI
  rw [same] at new zE
  refine ⟨_, rfl, wpAny_pure ?_⟩
  show Q (some (.ref hF.objs.size)) _
  rw [same]
  exact q hI zE (up _ _ D.TOz tF) (k1' _ _ f1 fun c o hc e => up c o (by rcases hc with r | r <;> rw [r]; exact D.i1z; exact D.l1z) e) (k2' _ _ f2 fun c o hc e => up c o (by rcases hc with r | r <;> rw [r]; exact D.i2z; exact D.l2z) e) new
    fun c o n m j k e => up c o n (uF c o n j m k e)
/-- the first walk is at its end -/
theorem pair_end {z TI TO i1 i2 l1 l2 : Addr} {P1 : Heap → Prop} {a b : Value} {Q : Option Value → Shared → Prop} (hh : A.handled = none) (D : ZipApart z TI TO i1 i2 l1 l2)
    (k1 : Looks i1 l1 P1) (g1 : Halts prog w i1 P1) (hz : IsZip s.heap z TI TO .none) (hTI : IsPair s.heap TI (.ref i1) (.ref i2)) (hTO : IsPair s.heap TO a b) (p1 : P1 s.heap)
    (q : ∀ h', (∀ c o, c ≠ z → c ≠ TO → c ≠ i1 → c ≠ i2 → s.heap.get? c = some o → h'.get? c = some o) → Q none { s with heap := h' }) : wpAny (model prog w) A (pyNext (.ref z)) Q E s := by
  have hT : s.TypeIs (.ref z) "zip" := ⟨_, hz, rfl⟩
  unfold pyNext
  refine wpAny_bind (wpAny_attempt (wpAny_callSpecial?_slot (name := Str.ofString "__next__") hT F.slot_zip_next (wpAny_call_entry F.slot_zip_next hT F.entry_zip_next ?_ (F.args_zip_next_1 _))))
  show wpAny _ _ (field (.ref z) 2 >>= _) _ _ _
  refine wpAny_bind (wpAny_field hz rfl (x := .bool false) rfl ?_)
  show wpAny _ _ (field (.ref z) 3 >>= _) _ _ _
  refine wpAny_bind (wpAny_field hz rfl (x := .ref TI) rfl (wpAny_bind (wpAny_seqItems hTI rfl ?_)))
  show wpAny _ _ (Builtin.SmallTypes.ownedTupleIsFree (.ref z) >>= _) _ _ _
  unfold Builtin.SmallTypes.ownedTupleIsFree
  refine wpAny_bind (wpAny_bind (wpAny_field hz rfl (x := .none) rfl (wpAny_pure ?_)))
  simp only [if_true]
  refine wpAny_bind (wpAny_rule (wpAny_bind (wpAny_field hz rfl (x := .ref TO) rfl ?_)))
  refine wpAny_bind (wpAny_setField_rec hz (by simp) fun hA zA sA => ?_)
  simp only [List.zipIdx_cons, List.zipIdx_nil, List.forIn_cons, List.forIn_nil]
  have uA : ∀ c o, c ≠ z → s.heap.get? c = some o → hA.get? c = some o := fun c o n e => sA.extBut _ _ n e
  refine wpAny_bind (wpAny_bind (wpAny_bind (wpAny_onRaise ?_)))
  refine wpAny_bind (g1 _ _ _ _ hh (k1 _ _ p1 fun c o hc e => uA c o (by rcases hc with r | r <;> rw [r]; exact D.i1z; exact D.l1z) e) fun hB e sB he => ?_)
  obtain ⟨oe, hoe, hce⟩ := he
  have zB := sB _ _ D.i1z.symm zA
  have ne : e ≠ z := fun r => by
    subst r
    rw [zB] at hoe
    cases hoe
    simp at hce
  refine wpAny_setField_rec zB (by simp) fun hC zC sC => ?_
  refine wpAny_bind (wpAny_isInstance (T := "StopIteration") (b := true) ⟨oe, sC.extBut _ _ ne hoe, hce⟩ isSubtype_stop ?_)
  exact wpAny_pure (q _ fun c o n m j k r => sC.extBut _ _ n (sB _ _ j (uA c o n r)))
end
abbrev hp1 (h : Heap) (l1 : Addr) : Heap := h.push { cls := .type "tuple_iterator", data := .fields #[.ref l1, .int 0 0] }
abbrev hp2 (h : Heap) (l1 l2 : Addr) : Heap := (hp1 h l1).push { cls := .type "list_iterator", data := .fields #[.ref l2, .int 0 0] }
abbrev hp3 (h : Heap) (l1 l2 : Addr) : Heap := (hp2 h l1 l2).push { cls := .type "tuple", data := .seq #[.ref h.objs.size, .ref (hp1 h l1).objs.size] }
abbrev hp4 (h : Heap) (l1 l2 : Addr) : Heap := (hp3 h l1 l2).push { cls := .type "tuple", data := .seq #[.none, .none] }
abbrev hp5 (h : Heap) (l1 l2 : Addr) : Heap := (hp4 h l1 l2).push { cls := .type "zip", data := .fields #[.none, .bool false, .bool false, .ref (hp2 h l1 l2).objs.size, .ref (hp3 h l1 l2).objs.size] }
theorem made (l1 l2 : Addr) (xs ys : Array Value) : Meets (Builtin.«zip.__new__» ⟨[.type "zip", .ref l1, .ref l2], []⟩) (fun _ R s => s.heap.IsTuple l1 xs ∧ s.heap.IsList l2 ys ∧ R (.ok (.ret (.ref (hp4 s.heap l1 l2).objs.size))) { s with heap := hp5 s.heap l1 l2 }) :=
  .of_wp fun prog w A R s q => by
    obtain ⟨hp, g, d, tk, os⟩ := s
    obtain ⟨t1, t2, q⟩ := q
    have hsub := sub_zip
    have w1 : Heap.IsTuple (Shared.heap ⟨hp, g, d, tk, os⟩) l1 xs := t1
    have w2 : Heap.IsList (Shared.heap ⟨hp.push { cls := .type "tuple_iterator", data := .fields #[.ref l1, .int 0 0] }, g, d, tk, os⟩) l2 ys := Heap.IsList.push t2 _
    wp_walk using wpAny_pyIter_tuple w1, wpAny_pyIter_list w2
    exact ⟨_, rfl, q⟩
theorem call_mix {prog : Program} {w : World} {A : Around} {E : Value → Shared → Prop} {s : Shared} {l1 l2 : Addr} {xs ys : Array Value} {Q : Value → Shared → Prop} (t1 : s.heap.IsTuple l1 xs) (t2 : s.heap.IsList l2 ys)
    (q : ∀ h', IsZip h' (s.heap.objs.size + 4) (s.heap.objs.size + 2) (s.heap.objs.size + 3) .none → IsPair h' (s.heap.objs.size + 2) (.ref s.heap.objs.size) (.ref (s.heap.objs.size + 1)) →
      IsPair h' (s.heap.objs.size + 3) .none .none → h'.IsTupleIter s.heap.objs.size l1 0 → h'.IsListIter (s.heap.objs.size + 1) l2 0 → (∀ c o, s.heap.get? c = some o → h'.get? c = some o) → Q (.ref (s.heap.objs.size + 4)) { s with heap := h' }) :
    wpAny (model prog w) A (call (.type "zip") [.ref l1, .ref l2]) Q E s := by
  refine callType_new F.called_zip (by decide) (F.typeCall_zip_2 _ _) (F.newCall_zip_2 _ _) (fun obj => F.args_object_init_3 obj _ _) F.entry_zip_new (made l1 l2 xs ys) ⟨t1, t2, ?_⟩
  have e1 : (hp1 s.heap l1).objs.size = s.heap.objs.size + 1 := Heap.size_push ..
  have e2 : (hp2 s.heap l1 l2).objs.size = s.heap.objs.size + 2 := by rw [Heap.size_push, e1]
  have e3 : (hp3 s.heap l1 l2).objs.size = s.heap.objs.size + 3 := by rw [Heap.size_push, e2]
  have e4 : (hp4 s.heap l1 l2).objs.size = s.heap.objs.size + 4 := by rw [Heap.size_push, e3]
  have a5 : (hp5 s.heap l1 l2).get? (hp4 s.heap l1 l2).objs.size = some _ := Heap.get?_push_size _ rfl
  have a4 : (hp5 s.heap l1 l2).get? (hp3 s.heap l1 l2).objs.size = some _ := Heap.get?_push_of_some _ (Heap.get?_push_size _ rfl)
  have a3 : (hp5 s.heap l1 l2).get? (hp2 s.heap l1 l2).objs.size = some _ := Heap.get?_push_of_some _ (Heap.get?_push_of_some _ (Heap.get?_push_size _ rfl))
  have a2 : (hp5 s.heap l1 l2).get? (hp1 s.heap l1).objs.size = some _ := Heap.get?_push_of_some _ (Heap.get?_push_of_some _ (Heap.get?_push_of_some _ (Heap.get?_push_size _ rfl)))
  have a1 : (hp5 s.heap l1 l2).get? s.heap.objs.size = some _ := Heap.get?_push_of_some _ (Heap.get?_push_of_some _ (Heap.get?_push_of_some _ (Heap.get?_push_of_some _ (Heap.get?_push_size _ rfl))))
  show _ ∧ _
  rw [e2, e3, e4] at a5
  rw [e1, e2] at a3
  rw [e3] at a4
  rw [e1] at a2
  rw [e4]
  exact ⟨⟨_, a5, rfl⟩, q _ a5 a3 a4 ⟨_, a1, rfl, rfl⟩ ⟨_, a2, rfl, rfl⟩ fun c o z => Heap.get?_push_of_some _ (Heap.get?_push_of_some _ (Heap.get?_push_of_some _ (Heap.get?_push_of_some _ (Heap.get?_push_of_some _ z))))⟩
/-- the tuple at a and the list at b as they stand at each turn -/
def ItM (K : PySem.W.Frag) (a b : Addr) : It :=
  ⟨fun i H => ∃ (xs ys : List V) (x y : V), SqT K H a xs ∧ SqL K H b ys ∧ xs[i]? = some x ∧ ys[i]? = some y,
    fun i H v H' => ∃ T x y, v = .ref T ∧ H T = none ∧ H' = upd H T (.tup [x, y]) ∧ (∀ xs, SqT K H a xs → xs[i]? = some x) ∧ ∀ ys, SqL K H b ys → ys[i]? = some y,
    fun i H => ∃ xs : List V, SqT K H a xs ∧ xs.length ≤ i⟩
theorem five {a b c d e : Addr} {x : Addr} (h : x ∈ [a, b, c, d, e]) : x = a ∨ x = b ∨ x = c ∨ x = d ∨ x = e := by simpa using h
theorem turn_mix {P : Program} {w : World} {K : PySem.W.Frag} {elts : List Expr} {kk : Nat} {tpos : Pos} {a b z TI TO i1 i2 : Addr} (D : ZipApart z TI TO i1 i2 a b) :
    Turn P w K (.Tuple elts kk tpos) (ItM K a b) [z, TI, TO, i1, i2] z (fun i h => IsZip h z TI TO .none ∧ IsPair h TI (.ref i1) (.ref i2) ∧ (∃ x y, IsPair h TO x y) ∧ h.IsTupleIter i1 a i ∧ h.IsListIter i2 b i) where
  mem := List.mem_cons_self
  obj := fun i h st c hc => by
    obtain ⟨hz, hTI, ⟨x, y, hTO⟩, ⟨o1, e1, _, d1⟩, ⟨o2, e2, _, d2⟩⟩ := st
    rcases five hc with r | r | r | r | r <;> rw [r]
    · exact ⟨_, hz, fun v q => nomatch q⟩
    · exact ⟨_, hTI, fun v q => nomatch q⟩
    · exact ⟨_, hTO, fun v q => nomatch q⟩
    · exact ⟨o1, e1, fun v q => by rw [d1] at q; cases q⟩
    · exact ⟨o2, e2, fun v q => by rw [d2] at q; cases q⟩
  keep := fun i h h' st k => by
    obtain ⟨hz, hTI, ⟨x, y, hTO⟩, h1, h2⟩ := st
    exact ⟨k z (by simp) _ hz, k TI (by simp) _ hTI, ⟨x, y, k TO (by simp) _ hTO⟩, h1.at fun o q => k i1 (by simp) o q, h2.at fun o q => k i2 (by simp) o q⟩
  item := by
    intro X hP hw hK hc i pins s σ H E I hf st hg
    subst hP hw hK
    obtain ⟨hz, hTI, ⟨x0, y0, hTO⟩, h1, h2⟩ := st
    obtain ⟨xs, ys, x, y, hqx, hqy, hx, hy⟩ := hg
    obtain ⟨its, rv, p, _⟩ := I.tuple hqx
    obtain ⟨its2, rv2, p2, _⟩ := I.list hqy
    obtain ⟨u, hu, ru⟩ := rv.get hx
    obtain ⟨u2, hu2, ru2⟩ := rv2.get hy
    have hzl : z < s.heap.objs.size := Heap.lt_size hz
    refine pair_next D (looksT i1 a i its.toArray) (looksT i1 a (i + 1) its.toArray) (looksL i2 b i its2.toArray) (looksL i2 b (i + 1) its2.toArray) (givesT (x := u) D.l1i1 (by simpa using hu)) (givesL (x := u2) D.l2i2 (by simpa using hu2)) hz hTI hTO ⟨h1, p⟩ ⟨h2, p2.isList⟩ fun h' z' TO' h1' h2' hT hk => ?_
    refine ⟨_, rfl, wpAny_letOwnedTupleGo_zip (s := { s with heap := h' }) z' fun h'' z'' sb => ?_⟩
    have hT2 : h''.get? s.heap.objs.size = some { cls := .type "tuple", data := .seq #[u, u2] } := (sb.2 _ (Nat.ne_of_gt hzl)).trans hT
    have new : ObjOk X.prog X.w (upd H s.heap.objs.size (.tup [x, y])) h'' s.heap.objs.size (.tup [x, y]) := ⟨by show 2 ≤ sizeLine; decide, [u, u2], .cons ru (.cons ru2 .nil), ⟨_, hT2, rfl, _, rfl⟩⟩
    have I1 : Inv X pins σ (upd H s.heap.objs.size (.tup [x, y])) { s with heap := h'' } := I.turnedNew (t' := s.toks) (ch := [z, TI, TO, i1, i2])
      (fun c o hb q => (sb.2 c (fun r => hb (by simp [r]))).trans (hk c o (fun r => hb (by simp [r])) (fun r => hb (by simp [r])) (fun r => hb (by simp [r])) (fun r => hb (by simp [r])) q)) hf (Nat.le_refl _) new
    refine ⟨.ref s.heap.objs.size, _, I1, rfl, ⟨_, x, y, rfl, I.hok.fresh (Nat.le_refl _), rfl, fun l hl => by rw [I.tuple_inj hl hqx]; exact hx, fun l hl => by rw [I.list_inj hl hqy]; exact hy⟩, ⟨z'', (sb.2 _ D.TIz).trans (hk _ _ D.TIz D.TITO D.TIi1 D.TIi2 hTI), ⟨u, u2, (sb.2 _ D.TOz).trans TO'⟩, h1'.1.at fun o q => (sb.2 _ D.i1z).trans q, h2'.1.at fun o q => (sb.2 _ D.i2z).trans q⟩, fun c hcm => ?_⟩
    have hlt : c < s.heap.objs.size := by
      rcases five hcm with r | r | r | r | r <;> rw [r]
      · exact hzl
      · exact Heap.lt_size hTI
      · exact Heap.lt_size hTO
      · obtain ⟨_, e1, _⟩ := h1
        exact Heap.lt_size e1
      · obtain ⟨_, e2, _⟩ := h2
        exact Heap.lt_size e2
    rw [upd_ne (Nat.ne_of_lt hlt)]
    exact (hf c hcm).1
  done := by
    intro X hP hw hK hc i pins s σ H E I hf st hg
    subst hP hw hK
    obtain ⟨hz, hTI, ⟨x0, y0, hTO⟩, h1, h2⟩ := st
    obtain ⟨xs, hqx, hend⟩ := hg
    obtain ⟨its, rv, p, _⟩ := I.tuple hqx
    have e := rv.length
    exact pair_end (I.ok.hd hc) D (looksT i1 a i its.toArray) (haltsT (by simp; omega)) hz hTI hTO ⟨h1, p⟩ fun h' hk => ⟨rfl, I.turnedL (t' := s.toks) (ch := [z, TI, TO, i1, i2])
      (fun c o hb q => hk c o (fun r => hb (by simp [r])) (fun r => hb (by simp [r])) (fun r => hb (by simp [r])) (fun r => hb (by simp [r])) q) hf⟩
  self := fun A i s Q E st h => wpAny_pyIter_zip st.1 h
def iZipM (K : PySem.W.Frag) (ta : TA) : TI := fun σ H R => ta σ H fun vs H1 => ∃ a b xs ys, vs = [.ref a, .ref b] ∧ SqT K H1 a xs ∧ SqL K H1 b ys ∧ R (ItM K a b) H1
theorem pi_zipM {X : Cx} {e e2 : Expr} {ta : TA} {p pos tpos : Pos} {elts : List Expr} {kk : Nat} (hg : Gl X "zip") (hm : X.mg "zip" = none) (ha : PA X [e, e2] ta)
    (hs : starEach [e, e2] X.env = (false, eval e X.env) :: starEach [e2] X.env := by rfl) (hpl : (backTo pos (starEach [e2] X.env)).any (·.1) = false := by rfl) :
    PI X (.Tuple elts kk tpos) (.Call (.Name "zip" p) [e, e2] [] pos) (iZipM X.K ta) := by
  refine ⟨fun pins s σ H R I h => Call_ (ld_blt I hg hm PyProof.Rows.boot_zip (PyProof.Rows.callWith_type1 (thn (ha.run pos pins s σ H _ I h) fun us s1 ⟨vs, H1, I1, r1, q1⟩ => ?_) hs hpl))⟩
  obtain ⟨a, b, xs, ys, ex, hqx, hqy, q⟩ := q1
  subst ex
  cases r1 with
  | cons r rr =>
    cases rr with
    | cons r' rr =>
      cases rr
      cases r
      cases r'
      obtain ⟨its, rv, p1, _⟩ := I1.tuple hqx
      obtain ⟨its2, rv2, p2, _⟩ := I1.list hqy
      obtain ⟨o1, ho1, _⟩ := id p1
      refine call_mix (show s1.heap.IsTuple a its.toArray from p1) p2.isList fun h' hz hTI hTO h1 h2 hk => wpAny_pyIter_zip hz ?_
      have I2 : Inv X pins σ H1 { s1 with heap := h' } := I1.kept (t' := s1.toks) hk
      refine ⟨s1.heap.objs.size + 4, [s1.heap.objs.size + 4, s1.heap.objs.size + 2, s1.heap.objs.size + 3, s1.heap.objs.size, s1.heap.objs.size + 1], _, _, H1, rfl, I2, turn_mix (PySem.W.ktu_apart s1.heap.objs.size a b (Heap.lt_size ho1) p2.lt), ⟨hz, hTI, ⟨_, _, hTO⟩, h1, h2⟩, fun c hcm => ?_, q⟩
      have hle : s1.heap.objs.size ≤ c := by
        rcases five hcm with z | z | z | z | z <;> rw [z]
        · exact Nat.le_add_right _ _
        · exact Nat.le_add_right _ _
        · exact Nat.le_add_right _ _
        · exact Nat.le_refl _
        · exact Nat.le_add_right _ _
      exact I1.fpOk hle (I1.hok.fresh hle)
/-- a loop over the two, of one length -/
theorem for_mix {K : PySem.W.Frag} {a b : Addr} {xs ys : List V} {g : TG} {tb : TS} {D : Ends} {σ : L2.St} {H : Hp} (hl : xs.length = ys.length) (Pv : Nat → L2.St → Hp → Prop) (h0 : Pv 0 σ H) (hq : ∀ i σ H, Pv i σ H → SqT K H a xs ∧ SqL K H b ys)
    (hs : ∀ (i : Nat) (x y : V) (T : Addr) (σ : L2.St) (H : Hp), xs[i]? = some x → ys[i]? = some y → Pv i σ H → H T = none → g (.ref T) σ (upd H T (.tup [x, y])) fun σ2 H2 => tb { D with nx := Pv (i + 1), ct := Pv (i + 1), bk := D.nx } σ2 H2) (hd : ∀ σ H, Pv xs.length σ H → D.nx σ H) :
    ∃ W : Nat → Nat → L2.St → Hp → Prop, (∃ m, W 0 m σ H) ∧ ∀ i m σ H, W i m σ H →
      ((ItM K a b).stop i H ∧ D.nx σ H) ∨ ((ItM K a b).go i H ∧ ∃ N : L2.St → Hp → Prop, (∀ σ' H', N σ' H' → ∃ m', m' < m ∧ W (i + 1) m' σ' H') ∧ ∀ v H', (ItM K a b).yld i H v H' → g v σ H' fun σ2 H2 => tb { D with nx := N, ct := N, bk := D.nx } σ2 H2) := by
  refine ⟨fun i m σ H => m + i = xs.length ∧ Pv i σ H, ⟨xs.length, Nat.add_zero _, h0⟩, fun i m σ H => ?_⟩
  rintro ⟨hm, p⟩
  obtain ⟨qx, qy⟩ := hq i σ H p
  cases m with
  | zero =>
    have e : i = xs.length := by omega
    subst e
    exact .inl ⟨⟨xs, qx, Nat.le_refl _⟩, hd σ H p⟩
  | succ m =>
    have l1 : i < xs.length := by omega
    have l2 : i < ys.length := by omega
    refine .inr ⟨⟨xs, ys, _, _, qx, qy, List.getElem?_eq_getElem l1, List.getElem?_eq_getElem l2⟩, Pv (i + 1), fun σ' H' p' => ⟨m, Nat.lt_succ_self _, by omega, p'⟩, fun v H' y => ?_⟩
    obtain ⟨T, x', y', rfl, hT, rfl, f1, f2⟩ := y
    exact hs i x' y' T σ H (f1 xs qx) (f2 ys qy) p hT
end Zmix

namespace TX
open PySem PySem.Spec PyProof.Rows L2
variable {X : Cx}
theorem cut_whole {xs : List V} {lo hi : Option Int} (h : HT.sIx xs.length 0 lo = 0 ∧ HT.sIx xs.length xs.length hi = xs.length) : cutV xs lo hi = xs := by
  unfold cutV
  rw [h.1, h.2, List.drop_zero, Nat.sub_zero, List.take_length]
/-- t[lo:hi], whole or not -/
def rSlX (K : PySem.W.Frag) : V → Option Int → Option Int → Hp → VK → Prop := fun x lo hi H Q => ∃ a xs, x = .ref a ∧ SqT K H a xs ∧ ∀ (p : Addr) (H' : Hp), Same H H' → SqT K H' p (cutV xs lo hi) → Q (.ref p) H'
theorem sl_any : SlR X (rSlX X.K) := by
  intro pins s σ H x v vl vu lo hi sl Q I rx hs pl pu ⟨a, xs, ex, hx, q⟩
  refine sl_tupA pins s σ H x v vl vu lo hi sl Q I rx hs pl pu ⟨a, xs, ex, hx, fun hw => q a H (Same.refl H) (by rw [cut_whole hw]; exact hx), fun _ p np => q p _ (fun b o e => ?_) (.inl (.inl upd_same))⟩
  rw [upd_ne (ne_of_none e np)]
  exact e
/-- t + u, none of them empty -/
def rCatX (K : PySem.W.Frag) : R2 := fun x y H Q => ∃ a b xs ys, x = .ref a ∧ y = .ref b ∧ SqT K H a xs ∧ SqT K H b ys ∧ xs ≠ [] ∧ ys ≠ [] ∧ xs.length + ys.length ≤ sizeLine ∧ ∀ p, H p = none → Q (.ref p) (upd H p (.tup (xs ++ ys)))
theorem op_cat2 : OpR X (binaryOp .Add) (rCatX X.K) := by
  intro pins s σ H x y v u Q I rx ry ⟨a, b, xs, ys, ex, ey, ha, hb, nx, ny, hz, q⟩
  exact op_catA pins s σ H x y v u Q I rx ry ⟨a, b, xs, ys, ex, ey, ha, hb, hz, fun e => absurd e nx, fun _ e => absurd e ny, fun _ _ => q⟩
end TX

/-! enumerate(list, start=c) -/
namespace Enum1
open PySem PySem.Spec PyProof.Rows L2
section
variable {M : Model} {A : Around} {E : Value → Shared → Prop} {s : Shared} {env : Env}
/-- a built-in class called with names -/
theorem with_names {pos : Pos} {T : String} {e : Expr} {rest : List Expr} {kws : List Keyword} {Q : Value → Shared → Prop}
    (h : wpAny M A (spliced (backTo pos (starEach (e :: rest) env))) (fun vs s₁ => wpAny M A (evalAll ((backToKw pos (keywordEach kws env)).map (·.2)))
      (fun kvs s₂ => wpAny M A (call (.type T) vs (((backToKw pos (keywordEach kws env)).filterMap (·.1)).zip kvs)) Q E s₂) E s₁) E s)
    (he : backTo pos (starEach (e :: rest) env) = (false, eval e env) :: backTo pos (starEach rest env) := by rfl)
    (hp : (backTo pos (starEach (e :: rest) env)).any (·.1) = false := by rfl)
    (hall : (backToKw pos (keywordEach kws env)).all (·.1.isSome) = true := by rfl)
    (hkw : (backToKw pos (keywordEach kws env)).any (·.1.isNone) = false := by rfl) :
    wpAny M A (callWith pos (.type T) [] (backTo pos (starEach (e :: rest) env)) (backToKw pos (keywordEach kws env))) Q E s := by
  have args : wpAny M A (evalArgs (.type T) true (backTo pos (starEach (e :: rest) env)) (backToKw pos (keywordEach kws env))) (fun a s₁ => wpAny M A (call (.type T) ([] ++ a.pos) a.kw) Q E s₁) E s := by
    rw [he] at h ⊢
    exact evalArgs_kwB hall h
  unfold callWith
  refine wpAny_bind (wpAny_holding (wpAny_mono args (fun a s₁ h₁ => wpAny_bind (wpAny_standAt ?_)) fun _ _ x => x))
  simp only [hp, hkw, Bool.or_false]
  refine wpAny_bind (wpAny_pure ?_)
  exact wpAny_bind (wpAny_mono h₁ (fun r s₂ hr => wpAny_bind (wpAny_holding (wpAny_point (wpAny_pure hr)))) fun _ _ x => x)
end
/-- the list at a as it stands at each turn, each item behind its number -/
def Itc (K : PySem.W.Frag) (a : Addr) (c : Int) : It :=
  ⟨fun i H => ∃ (xs : List V) (x : V), SqL K H a xs ∧ xs[i]? = some x, fun i H v H' => ∃ T x, v = .ref T ∧ H T = none ∧ H' = upd H T (.tup [.int (c + (i : Int)), x]) ∧ ∀ xs, SqL K H a xs → xs[i]? = some x, fun i H => ∃ xs : List V, SqL K H a xs ∧ xs.length = i⟩
theorem turn_c {P : Program} {w : World} {K : PySem.W.Frag} {elts : List Expr} {kk : Nat} {tpos : Pos} (a e it : Addr) (c : Int) :
    Turn P w K (.Tuple elts kk tpos) (Itc K a c) [e, it] e (fun i h => (∃ old, IsEnum h e it (c + (i : Int)) old) ∧ h.IsListIter it a i ∧ e ≠ it ∧ a ≠ it ∧ a ≠ e) where
  mem := List.mem_cons_self
  obj := fun i h st b hb => by
    obtain ⟨⟨old, he⟩, ⟨o, ho, hc, hd⟩, _⟩ := st
    rcases List.mem_cons.mp hb with z | z
    · rw [z]
      exact ⟨_, he, fun v q => nomatch q⟩
    · rw [List.mem_singleton.mp z]
      exact ⟨o, ho, fun v q => by rw [hd] at q; cases q⟩
  keep := fun i h h' st k => let ⟨⟨old, he⟩, hi, ne⟩ := st; ⟨⟨old, k e (by simp) _ he⟩, hi.at fun o q => k it (by simp) o q, ne⟩
  item := by
    intro X hP hw hK hc i pins s σ H E I hf st hg
    subst hP hw hK
    obtain ⟨⟨old, he⟩, hit, hne, hai, hae⟩ := st
    obtain ⟨xs, x, hq, hx⟩ := hg
    obtain ⟨its, rv, p, hz⟩ := I.list hq
    obtain ⟨u, hu, ru⟩ := rv.get hx
    have hel : e < s.heap.objs.size := Heap.lt_size he
    have hil : it < s.heap.objs.size := by obtain ⟨_, q, _⟩ := hit; exact Heap.lt_size q
    have hlt : i < its.toArray.size := by
      have := (List.getElem?_eq_some_iff.mp hu).1
      simpa using this
    refine wpAny_pyNext_enum_itemC (Draws.list (A := X.A.in1) (I.ok.hd hc) it a hai its.toArray) he ⟨hit, p.isList⟩ hlt hne (by simp only [List.mem_cons, List.not_mem_nil, or_false, not_or]; exact ⟨hne, hae.symm⟩) fun x' h' tk hx' ho hst hT hsz hk => ?_
    have ex : x' = u := by
      have h1 : its.toArray[i]? = some u := by simpa using hu
      exact Option.some.inj (hx'.symm.trans h1)
    subst ex
    refine ⟨_, rfl, wpAny_letOwnedTupleGo_enum (s := { s with heap := h', toks := tk + 1 }) ho fun h'' he' sb => ?_⟩
    have hT2 : h''.get? s.heap.objs.size = some { cls := .type "tuple", data := .seq #[.int (c + (i : Int)) tk, x'] } := (sb.2 _ (Nat.ne_of_gt hel)).trans hT
    have new : ObjOk X.prog X.w (upd H s.heap.objs.size (.tup [.int (c + (i : Int)), x])) h'' s.heap.objs.size (.tup [.int (c + (i : Int)), x]) :=
      ⟨by show 2 ≤ sizeLine; decide, [.int (c + (i : Int)) tk, x'], .cons ⟨_, rfl⟩ (.cons ru .nil), ⟨_, hT2, rfl, _, rfl⟩⟩
    have I1 : Inv X pins σ (upd H s.heap.objs.size (.tup [.int (c + (i : Int)), x])) { s with heap := h'', toks := tk + 1 } :=
      I.turnedNew (ch := [e, it]) (fun b ob hb q => (sb.2 b (fun z => hb (by simp [z]))).trans (hk b ob (fun z => hb (by simp [z])) (fun z => hb (by simp [z])) q)) hf (Nat.le_refl _) new
    refine ⟨.ref s.heap.objs.size, _, I1, rfl, ⟨_, x, rfl, I.hok.fresh (Nat.le_refl _), rfl, fun ys hy => by rw [I.list_inj hy hq]; exact hx⟩, ⟨⟨x', ?_⟩, hst.1.at fun o q => (sb.2 it (Ne.symm hne)).trans q, hne, hai, hae⟩, fun b hb => ?_⟩
    · have e1 : c + ((i + 1 : Nat) : Int) = c + (i : Int) + 1 := by omega
      rw [e1]
      exact he'
    · have hb' : b < s.heap.objs.size := by
        rcases List.mem_cons.mp hb with z | z
        · rw [z]
          exact hel
        · rw [List.mem_singleton.mp z]
          exact hil
      rw [upd_ne (Nat.ne_of_lt hb')]
      exact (hf b hb).1
  done := by
    intro X hP hw hK hc i pins s σ H E I hf st hg
    subst hP hw hK
    obtain ⟨⟨old, he⟩, hit, hne, hai, hae⟩ := st
    obtain ⟨xs, hq, hx⟩ := hg
    obtain ⟨its, rv, p, hz⟩ := I.list hq
    obtain ⟨f0, f1, f2, f3, f4, f5⟩ := hf it (by simp)
    have hl := rv.length
    have hi : i = its.toArray.size := by rw [List.size_toArray]; omega
    subst hi
    exact wpAny_pyNext_enum_endD (Draws.list (A := X.A.in1) (I.ok.hd hc) it a hai its.toArray) he ⟨hit, p.isList⟩ fun h' eb => ⟨rfl, I.turned (t' := s.toks) (fun b o hb q => eb b o hb q) f0 f1 f3 f4 f5⟩
  self := fun A i s Q E st h => let ⟨⟨_, he⟩, _⟩ := st; wpAny_pyIter_enum he h
def iEnumC (K : PySem.W.Frag) (ta tk : TA) : TI := fun σ H R => ta σ H fun vs H1 => tk σ H1 fun zs H2 => ∃ (a : Addr) (xs : List V) (c : Int), vs = [.ref a] ∧ zs = [.int c] ∧ -(2 ^ 63) ≤ c ∧ c < 2 ^ 63 ∧ SqL K H2 a xs ∧ R (Itc K a c) H2
theorem pi_enumC {X : Cx} {e : Expr} {kws : List Keyword} {ta tk : TA} {p pos tpos : Pos} {elts : List Expr} {kk : Nat} (hg : Gl X "enumerate") (hm : X.mg "enumerate" = none) (ha : PA X [e] ta) (hk : PK X kws tk)
    (he : backTo pos (starEach [e] X.env) = (false, eval e X.env) :: backTo pos (starEach [] X.env) := by rfl) (hpl : (backTo pos (starEach [e] X.env)).any (·.1) = false := by rfl)
    (hall : (backToKw pos (keywordEach kws X.env)).all (·.1.isSome) = true := by rfl) (hnone : (backToKw pos (keywordEach kws X.env)).any (·.1.isNone) = false := by rfl) (hks : (backToKw pos (keywordEach kws X.env)).filterMap (·.1) = [Str.ofString "start"] := by rfl) :
    PI X (.Tuple elts kk tpos) (.Call (.Name "enumerate" p) [e] kws pos) (iEnumC X.K ta tk) := by
  refine ⟨fun pins s σ H R I h => ?_⟩
  refine wpAny_Call_Name_kw (ld_blt I hg hm boot_enumerate ?_)
  refine with_names (thn (ha.run pos pins s σ H _ I h) fun us s1 ⟨vs, H1, I1, r1, q1⟩ => thn (hk.run pos pins s1 σ H1 _ I1 q1) fun ws s2 ⟨zs, H2, I2, r2, q2⟩ => ?_) he hpl hall hnone
  rw [hks]
  obtain ⟨a, xs, c, ex, ez, c0, c1, hq, q⟩ := q2
  subst ex ez
  cases r1 with
  | cons r rr =>
    cases rr
    cases r
    cases r2 with
    | cons r' rr =>
      cases rr
      obtain ⟨t, rfl⟩ := r'
      obtain ⟨its, rv, p', hz⟩ := I2.list hq
      have hal : a < s2.heap.objs.size := p'.lt
      refine enum_begins_start (begins_list a its.toArray) p'.isList c0 c1 fun h' hE hO hsz hk => wpAny_pyIter_enum hE ?_
      have I3 : Inv X pins σ H2 { s2 with heap := h' } := I2.kept (t' := s2.toks) hk
      refine ⟨s2.heap.objs.size + 1, [s2.heap.objs.size + 1, s2.heap.objs.size], _, _, H2, rfl, I3, turn_c a (s2.heap.objs.size + 1) s2.heap.objs.size c,
        ⟨⟨.none, by have e0 : c + ((0 : Nat) : Int) = c := by omega
                    rw [e0]
                    exact hE⟩, ⟨_, hO, rfl, rfl⟩, Nat.succ_ne_self _, Nat.ne_of_lt hal, Nat.ne_of_lt (Nat.lt_succ_of_lt hal)⟩, fun b hb => ?_, q⟩
      have hle : s2.heap.objs.size ≤ b := by
        rcases List.mem_cons.mp hb with z | z
        · rw [z]
          exact Nat.le_succ _
        · rw [List.mem_singleton.mp z]
          exact Nat.le_refl _
      exact I2.fpOk hle (I2.hok.fresh hle)
theorem for_enumC {K : PySem.W.Frag} {a : Addr} {c : Int} {xs : List V} {g : TG} {tb : TS} {D : Ends} {σ : L2.St} {H : Hp} (Pv : Nat → L2.St → Hp → Prop) (h0 : Pv 0 σ H) (hq : ∀ i σ H, Pv i σ H → SqL K H a xs)
    (hs : ∀ (i : Nat) (x : V) (T : Addr) (σ : L2.St) (H : Hp), xs[i]? = some x → Pv i σ H → H T = none → g (.ref T) σ (upd H T (.tup [.int (c + (i : Int)), x])) fun σ2 H2 => tb { D with nx := Pv (i + 1), ct := Pv (i + 1), bk := D.nx } σ2 H2) (hd : ∀ σ H, Pv xs.length σ H → D.nx σ H) :
    ∃ W : Nat → Nat → L2.St → Hp → Prop, (∃ m, W 0 m σ H) ∧ ∀ i m σ H, W i m σ H →
      ((Itc K a c).stop i H ∧ D.nx σ H) ∨ ((Itc K a c).go i H ∧ ∃ N : L2.St → Hp → Prop, (∀ σ' H', N σ' H' → ∃ m', m' < m ∧ W (i + 1) m' σ' H') ∧ ∀ v H', (Itc K a c).yld i H v H' → g v σ H' fun σ2 H2 => tb { D with nx := N, ct := N, bk := D.nx } σ2 H2) := by
  refine ⟨fun i m σ H => m + i = xs.length ∧ Pv i σ H, ⟨xs.length, Nat.add_zero _, h0⟩, fun i m σ H => ?_⟩
  rintro ⟨hm, p⟩
  have qx := hq i σ H p
  cases m with
  | zero =>
    have e : i = xs.length := by omega
    subst e
    exact .inl ⟨⟨xs, qx, rfl⟩, hd σ H p⟩
  | succ m =>
    have l1 : i < xs.length := by omega
    refine .inr ⟨⟨xs, _, qx, List.getElem?_eq_getElem l1⟩, Pv (i + 1), fun σ' H' p' => ⟨m, Nat.lt_succ_self _, by omega, p'⟩, fun v H' y => ?_⟩
    obtain ⟨T, x', rfl, hT, rfl, f1⟩ := y
    exact hs i x' T σ H (f1 xs qx) p hT
end Enum1

/-! enumerate(tuple), enumerate(tuple, start=c); walks within a comprehension -/
namespace EnumT
open PySem PySem.Spec PyProof.Rows L2
/-- the tuple at a, each item behind its number -/
def Itd (K : PySem.W.Frag) (a : Addr) (c : Int) : It :=
  ⟨fun i H => ∃ (xs : List V) (x : V), SqT K H a xs ∧ xs[i]? = some x, fun i H v H' => ∃ T x, v = .ref T ∧ H T = none ∧ H' = upd H T (.tup [.int (c + (i : Int)), x]) ∧ ∀ xs, SqT K H a xs → xs[i]? = some x, fun i H => ∃ xs : List V, SqT K H a xs ∧ xs.length = i⟩
theorem turn_d {P : Program} {w : World} {K : PySem.W.Frag} {elts : List Expr} {kk : Nat} {tpos : Pos} (a e it : Addr) (c : Int) :
    Turn P w K (.Tuple elts kk tpos) (Itd K a c) [e, it] e (fun i h => (∃ old, IsEnum h e it (c + (i : Int)) old) ∧ h.IsTupleIter it a i ∧ e ≠ it ∧ a ≠ it ∧ a ≠ e) where
  mem := List.mem_cons_self
  obj := fun i h st b hb => by
    obtain ⟨⟨old, he⟩, ⟨o, ho, hc, hd⟩, _⟩ := st
    rcases List.mem_cons.mp hb with z | z
    · rw [z]
      exact ⟨_, he, fun v q => nomatch q⟩
    · rw [List.mem_singleton.mp z]
      exact ⟨o, ho, fun v q => by rw [hd] at q; cases q⟩
  keep := fun i h h' st k => let ⟨⟨old, he⟩, hi, ne⟩ := st; ⟨⟨old, k e (by simp) _ he⟩, hi.at fun o q => k it (by simp) o q, ne⟩
  item := by
    intro X hP hw hK hc i pins s σ H E I hf st hg
    subst hP hw hK
    obtain ⟨⟨old, he⟩, hit, hne, hai, hae⟩ := st
    obtain ⟨xs, x, hq, hx⟩ := hg
    obtain ⟨its, rv, p, hz⟩ := I.tuple hq
    have pt : s.heap.IsTuple a its.toArray := p
    obtain ⟨u, hu, ru⟩ := rv.get hx
    have hel : e < s.heap.objs.size := Heap.lt_size he
    have hil : it < s.heap.objs.size := by obtain ⟨_, q, _⟩ := hit; exact Heap.lt_size q
    have hlt : i < its.toArray.size := by
      have := (List.getElem?_eq_some_iff.mp hu).1
      simpa using this
    refine wpAny_pyNext_enum_itemC (Draws.tuple (A := X.A.in1) (I.ok.hd hc) it a hai its.toArray) he ⟨hit, pt⟩ hlt hne (by simp only [List.mem_cons, List.not_mem_nil, or_false, not_or]; exact ⟨hne, hae.symm⟩) fun x' h' tk hx' ho hst hT hsz hk => ?_
    have ex : x' = u := by
      have h1 : its.toArray[i]? = some u := by simpa using hu
      exact Option.some.inj (hx'.symm.trans h1)
    subst ex
    refine ⟨_, rfl, wpAny_letOwnedTupleGo_enum (s := { s with heap := h', toks := tk + 1 }) ho fun h'' he' sb => ?_⟩
    have hT2 : h''.get? s.heap.objs.size = some { cls := .type "tuple", data := .seq #[.int (c + (i : Int)) tk, x'] } := (sb.2 _ (Nat.ne_of_gt hel)).trans hT
    have new : ObjOk X.prog X.w (upd H s.heap.objs.size (.tup [.int (c + (i : Int)), x])) h'' s.heap.objs.size (.tup [.int (c + (i : Int)), x]) :=
      ⟨by show 2 ≤ sizeLine; decide, [.int (c + (i : Int)) tk, x'], .cons ⟨_, rfl⟩ (.cons ru .nil), ⟨_, hT2, rfl, _, rfl⟩⟩
    have I1 : Inv X pins σ (upd H s.heap.objs.size (.tup [.int (c + (i : Int)), x])) { s with heap := h'', toks := tk + 1 } :=
      I.turnedNew (ch := [e, it]) (fun b ob hb q => (sb.2 b (fun z => hb (by simp [z]))).trans (hk b ob (fun z => hb (by simp [z])) (fun z => hb (by simp [z])) q)) hf (Nat.le_refl _) new
    refine ⟨.ref s.heap.objs.size, _, I1, rfl, ⟨_, x, rfl, I.hok.fresh (Nat.le_refl _), rfl, fun ys hy => by rw [I.tuple_inj hy hq]; exact hx⟩, ⟨⟨x', ?_⟩, hst.1.at fun o q => (sb.2 it (Ne.symm hne)).trans q, hne, hai, hae⟩, fun b hb => ?_⟩
    · have e1 : c + ((i + 1 : Nat) : Int) = c + (i : Int) + 1 := by omega
      rw [e1]
      exact he'
    · have hb' : b < s.heap.objs.size := by
        rcases List.mem_cons.mp hb with z | z
        · rw [z]
          exact hel
        · rw [List.mem_singleton.mp z]
          exact hil
      rw [upd_ne (Nat.ne_of_lt hb')]
      exact (hf b hb).1
  done := by
    intro X hP hw hK hc i pins s σ H E I hf st hg
    subst hP hw hK
    obtain ⟨⟨old, he⟩, hit, hne, hai, hae⟩ := st
    obtain ⟨xs, hq, hx⟩ := hg
    obtain ⟨its, rv, p, hz⟩ := I.tuple hq
    have pt : s.heap.IsTuple a its.toArray := p
    obtain ⟨f0, f1, f2, f3, f4, f5⟩ := hf it (by simp)
    have hl := rv.length
    have hi : i = its.toArray.size := by rw [List.size_toArray]; omega
    subst hi
    exact wpAny_pyNext_enum_endD (Draws.tuple (A := X.A.in1) (I.ok.hd hc) it a hai its.toArray) he ⟨hit, pt⟩ fun h' eb => ⟨rfl, I.turned (t' := s.toks) (fun b o hb q => eb b o hb q) f0 f1 f3 f4 f5⟩
  self := fun A i s Q E st h => let ⟨⟨_, he⟩, _⟩ := st; wpAny_pyIter_enum he h
set_option maxHeartbeats 1000000 in
theorem makes1 {v : Value} {o : Obj} {G : Heap → Prop} (B : Begins v o G) :
    Meets (Builtin.«enumerate.__new__» ⟨[.type "enumerate", v], []⟩) (fun _ R s => G s.heap ∧
      R (.ok (.ret (.ref (s.heap.push o).objs.size))) { s with heap := (s.heap.push o).push { cls := .type "enumerate", data := .fields #[.none, .bool false, .ref s.heap.objs.size, rawInt 0, .none, .none] } }) :=
  .of_wp fun prog w A R s h => by
    obtain ⟨hp, g, d, tk, os⟩ := s; obtain ⟨g1, h⟩ := h
    have hsub := sub_enumerate
    have q1 : ∀ {A' : Around} {E : Value → Shared → Prop} {Q : Value → Shared → Prop}, Q (.ref hp.objs.size) ⟨hp.push o, g, d, tk, os⟩ → wpAny (model prog w) A' (pyIter v) Q E ⟨hp, g, d, tk, os⟩ :=
      fun q => B.iter prog w _ _ ⟨hp, g, d, tk, os⟩ _ g1 q
    wp_walk using q1
    refine wpAny_stack_any fun st => wpAny_pure ?_
    split
    · rename_i c _ _ _ _ _
      cases (c == Value.type "enumerate")
      · wp_walk using q1
        exact ⟨_, rfl, h⟩
      · wp_walk using q1
        exact ⟨_, rfl, h⟩
    · wp_walk using q1
      exact ⟨_, rfl, h⟩
theorem begins1 {prog : Program} {w : World} {A : Around} {E : Value → Shared → Prop} {s : Shared} {v : Value} {o : Obj} {G : Heap → Prop} {Q : Value → Shared → Prop} (B : Begins v o G) (g1 : G s.heap)
    (h : ∀ h', IsEnum h' (s.heap.objs.size + 1) s.heap.objs.size 0 .none → h'.get? s.heap.objs.size = some o → (∀ b ob, s.heap.get? b = some ob → h'.get? b = some ob) → Q (.ref (s.heap.objs.size + 1)) { s with heap := h' }) :
    wpAny (model prog w) A (call (.type "enumerate") [v]) Q E s := by
  refine callType_new F.called_enumerate (by decide) (F.typeCall_enumerate_1 _) (F.newCall_enumerate_1 _) (fun obj => F.args_object_init_2 obj _) F.entry_enumerate_new (makes1 B) ⟨g1, ?_⟩
  have hz : (s.heap.push o).objs.size = s.heap.objs.size + 1 := Heap.size_push ..
  show _ ∧ _
  rw [hz]
  have ee : IsEnum ((s.heap.push o).push { cls := .type "enumerate", data := .fields #[.none, .bool false, .ref s.heap.objs.size, rawInt 0, .none, .none] }) (s.heap.objs.size + 1) s.heap.objs.size 0 .none := by
    have y := Heap.get?_push_size (s.heap.push o) (o := { cls := .type "enumerate", data := .fields #[.none, .bool false, .ref s.heap.objs.size, rawInt 0, .none, .none] }) rfl
    rw [hz] at y
    exact y
  exact ⟨⟨_, ee, rfl⟩, h _ ee (Heap.get?_push_of_some _ (Heap.get?_push_size _ B.free)) fun b ob x => Heap.get?_push_of_some _ (Heap.get?_push_of_some _ x)⟩
def iEnumD (K : PySem.W.Frag) (ta tk : TA) : TI := fun σ H R => ta σ H fun vs H1 => tk σ H1 fun zs H2 => ∃ (a : Addr) (xs : List V) (c : Int), vs = [.ref a] ∧ zs = [.int c] ∧ -(2 ^ 63) ≤ c ∧ c < 2 ^ 63 ∧ SqT K H2 a xs ∧ R (Itd K a c) H2
theorem pi_enumD {X : Cx} {e : Expr} {kws : List Keyword} {ta tk : TA} {p pos tpos : Pos} {elts : List Expr} {kk : Nat} (hg : Gl X "enumerate") (hm : X.mg "enumerate" = none) (ha : PA X [e] ta) (hk : PK X kws tk)
    (he : backTo pos (starEach [e] X.env) = (false, eval e X.env) :: backTo pos (starEach [] X.env) := by rfl) (hpl : (backTo pos (starEach [e] X.env)).any (·.1) = false := by rfl)
    (hall : (backToKw pos (keywordEach kws X.env)).all (·.1.isSome) = true := by rfl) (hnone : (backToKw pos (keywordEach kws X.env)).any (·.1.isNone) = false := by rfl) (hks : (backToKw pos (keywordEach kws X.env)).filterMap (·.1) = [Str.ofString "start"] := by rfl) :
    PI X (.Tuple elts kk tpos) (.Call (.Name "enumerate" p) [e] kws pos) (iEnumD X.K ta tk) := by
  refine ⟨fun pins s σ H R I h => ?_⟩
  refine wpAny_Call_Name_kw (ld_blt I hg hm boot_enumerate ?_)
  refine Enum1.with_names (thn (ha.run pos pins s σ H _ I h) fun us s1 ⟨vs, H1, I1, r1, q1⟩ => thn (hk.run pos pins s1 σ H1 _ I1 q1) fun ws s2 ⟨zs, H2, I2, r2, q2⟩ => ?_) he hpl hall hnone
  rw [hks]
  obtain ⟨a, xs, c, ex, ez, c0, c1, hq, q⟩ := q2
  subst ex ez
  cases r1 with
  | cons r rr =>
    cases rr
    cases r
    cases r2 with
    | cons r' rr =>
      cases rr
      obtain ⟨t, rfl⟩ := r'
      obtain ⟨its, rv, p', hz⟩ := I2.tuple hq
      have pt : s2.heap.IsTuple a its.toArray := p'
      have hal : a < s2.heap.objs.size := p'.lt
      refine enum_begins_start (begins_tuple a its.toArray) pt c0 c1 fun h' hE hO hsz hk => wpAny_pyIter_enum hE ?_
      have I3 : Inv X pins σ H2 { s2 with heap := h' } := I2.kept (t' := s2.toks) hk
      refine ⟨s2.heap.objs.size + 1, [s2.heap.objs.size + 1, s2.heap.objs.size], _, _, H2, rfl, I3, turn_d a (s2.heap.objs.size + 1) s2.heap.objs.size c,
        ⟨⟨.none, by have e0 : c + ((0 : Nat) : Int) = c := by omega
                    rw [e0]
                    exact hE⟩, ⟨_, hO, rfl, rfl⟩, Nat.succ_ne_self _, Nat.ne_of_lt hal, Nat.ne_of_lt (Nat.lt_succ_of_lt hal)⟩, fun b hb => ?_, q⟩
      have hle : s2.heap.objs.size ≤ b := by
        rcases List.mem_cons.mp hb with z | z
        · rw [z]
          exact Nat.le_succ _
        · rw [List.mem_singleton.mp z]
          exact Nat.le_refl _
      exact I2.fpOk hle (I2.hok.fresh hle)
def iEnumE (K : PySem.W.Frag) (ta : TA) : TI := fun σ H R => ta σ H fun vs H1 => ∃ a xs, vs = [.ref a] ∧ SqT K H1 a xs ∧ R (Itd K a 0) H1
theorem pi_enumE {X : Cx} {e : Expr} {ta : TA} {p pos tpos : Pos} {elts : List Expr} {kk : Nat} (hg : Gl X "enumerate") (hm : X.mg "enumerate" = none) (ha : PA X [e] ta) (hs : starEach [e] X.env = [(false, eval e X.env)] := by rfl) :
    PI X (.Tuple elts kk tpos) (.Call (.Name "enumerate" p) [e] [] pos) (iEnumE X.K ta) := by
  refine ⟨fun pins s σ H R I h => ?_⟩
  refine Call_ (ld_blt I hg hm boot_enumerate (PyProof.Rows.callWith_type1 (thn (ha.run pos pins s σ H _ I h) fun us z1 ⟨vs, H1, I1, r1, q1⟩ => ?_) hs rfl))
  obtain ⟨a, xs, ex, hq, q⟩ := q1
  subst ex
  cases r1 with
  | cons r rr =>
    cases rr
    cases r
    obtain ⟨its, rv, p', hz⟩ := I1.tuple hq
    have pt : z1.heap.IsTuple a its.toArray := p'
    have hal : a < z1.heap.objs.size := p'.lt
    refine begins1 (begins_tuple a its.toArray) pt fun h' hE hO hk => wpAny_pyIter_enum hE ?_
    have I3 : Inv X pins σ H1 { z1 with heap := h' } := I1.kept (t' := z1.toks) hk
    refine ⟨z1.heap.objs.size + 1, [z1.heap.objs.size + 1, z1.heap.objs.size], _, _, H1, rfl, I3, turn_d a (z1.heap.objs.size + 1) z1.heap.objs.size 0, ⟨⟨.none, hE⟩, ⟨_, hO, rfl, rfl⟩, Nat.succ_ne_self _, Nat.ne_of_lt hal, Nat.ne_of_lt (Nat.lt_succ_of_lt hal)⟩, fun b hb => ?_, q⟩
    have hle : z1.heap.objs.size ≤ b := by
      rcases List.mem_cons.mp hb with z | z
      · rw [z]
        exact Nat.le_succ _
      · rw [List.mem_singleton.mp z]
        exact Nat.le_refl _
    exact I1.fpOk hle (I1.hok.fresh hle)
section
variable {K : PySem.W.Frag} {a : Addr} {xs : List V} {g : TG} {tt : TT} {σ : L2.St} {vs : List Nat} {H : Hp} {N : Hp → Prop} {B : L2.St → Hp → (Hp → Prop) → Prop}
/-- a clause over enumerate(tuple) -/
theorem walk_enum {c : Int} (Pv : Nat → Hp → Prop) (h0 : Pv 0 H) (hq : ∀ i H, Pv i H → SqT K H a xs)
    (hs : ∀ i x T H, xs[i]? = some x → Pv i H → H T = none → g (.ref T) (wipe σ vs) (upd H T (.tup [.int (c + (i : Nat)), x])) fun σ2 H2 => wipe σ2 vs = wipe σ vs ∧ tt σ2 H2 fun b H3 => if b = true then B σ2 H3 (Pv (i + 1)) else Pv (i + 1) H3) (hd : ∀ H, Pv xs.length H → N H) :
    ∃ W : Nat → Nat → Hp → Prop, (∃ m, W 0 m H) ∧ ∀ i m H, W i m H → ((Itd K a c).stop i H ∧ N H) ∨ ((Itd K a c).go i H ∧ ∃ Nx : Hp → Prop, (∀ H', Nx H' → ∃ m', m' < m ∧ W (i + 1) m' H') ∧ ∀ x H', (Itd K a c).yld i H x H' → g x (wipe σ vs) H' fun σ2 H2 => wipe σ2 vs = wipe σ vs ∧ tt σ2 H2 fun b H3 =>
      if b = true then B σ2 H3 Nx else Nx H3) := by
  refine ⟨fun i m H => m + i = xs.length ∧ Pv i H, ⟨xs.length, Nat.add_zero _, h0⟩, fun i m H hw => ?_⟩
  obtain ⟨hm, p⟩ := hw
  have qx := hq i H p
  cases m with
  | zero =>
    have e : i = xs.length := by omega
    subst e
    exact .inl ⟨⟨xs, qx, rfl⟩, hd H p⟩
  | succ m =>
    have l1 : i < xs.length := by omega
    refine .inr ⟨⟨xs, _, qx, List.getElem?_eq_getElem l1⟩, Pv (i + 1), fun H' p' => ⟨m, Nat.lt_succ_self _, by omega, p'⟩, fun v H' y => ?_⟩
    obtain ⟨T, x, ev, nT, eH, fx⟩ := y
    rw [ev, eH]
    exact hs i x T H (fx xs qx) p nT
/-- a clause over a tuple -/
theorem walk_tup (Pv : Nat → Hp → Prop) (h0 : Pv 0 H) (hq : ∀ i H, Pv i H → SqT K H a xs)
    (hs : ∀ i x H, xs[i]? = some x → Pv i H → g x (wipe σ vs) H fun σ2 H2 => wipe σ2 vs = wipe σ vs ∧ tt σ2 H2 fun b H3 => if b = true then B σ2 H3 (Pv (i + 1)) else Pv (i + 1) H3) (hd : ∀ H, Pv xs.length H → N H) :
    ∃ W : Nat → Nat → Hp → Prop, (∃ m, W 0 m H) ∧ ∀ i m H, W i m H → ((Itt K a).stop i H ∧ N H) ∨ ((Itt K a).go i H ∧ ∃ Nx : Hp → Prop, (∀ H', Nx H' → ∃ m', m' < m ∧ W (i + 1) m' H') ∧ ∀ x H', (Itt K a).yld i H x H' → g x (wipe σ vs) H' fun σ2 H2 => wipe σ2 vs = wipe σ vs ∧ tt σ2 H2 fun b H3 =>
      if b = true then B σ2 H3 Nx else Nx H3) := by
  refine ⟨fun i m H => m + i = xs.length ∧ Pv i H, ⟨xs.length, Nat.add_zero _, h0⟩, fun i m H hw => ?_⟩
  obtain ⟨hm, p⟩ := hw
  have qx := hq i H p
  cases m with
  | zero =>
    have e : i = xs.length := by omega
    subst e
    exact .inl ⟨⟨xs, qx, Nat.le_refl _⟩, hd H p⟩
  | succ m =>
    have l1 : i < xs.length := by omega
    refine .inr ⟨⟨xs, _, qx, List.getElem?_eq_getElem l1⟩, Pv (i + 1), fun H' p' => ⟨m, Nat.lt_succ_self _, by omega, p'⟩, fun v H' y => ?_⟩
    obtain ⟨eH, fx⟩ := y
    rw [eH]
    exact hs i v H (fx xs qx) p
end
/-! what a target's names hold is forgotten between the turns -/
theorem wipe_get (σ : L2.St) : ∀ (vs : List Nat) (j : Nat), (wipe σ vs)[j]? = if j ∈ vs ∧ j < σ.length then some none else σ[j]?
  | [], j => by
    rw [if_neg (fun z => nomatch z.1)]
    rfl
  | v :: vs, j => by
    have ih := wipe_get σ vs j
    show ((wipe σ vs).set v none)[j]? = _
    rw [List.getElem?_set, wipe_length, ih]
    by_cases e : v = j
    · subst e
      rw [if_pos rfl]
      by_cases l : v < σ.length
      · rw [if_pos l, if_pos ⟨List.mem_cons_self, l⟩]
      · rw [if_neg l, if_neg (fun z => l z.2), List.getElem?_eq_none (by omega)]
    · rw [if_neg e]
      by_cases m : j ∈ vs ∧ j < σ.length
      · rw [if_pos m, if_pos ⟨List.mem_cons_of_mem _ m.1, m.2⟩]
      · rw [if_neg m, if_neg (fun z => m ⟨(List.mem_cons.mp z.1).resolve_left (fun y => e y.symm), z.2⟩)]
theorem wipe_set {σ : L2.St} {vs : List Nat} {i : Nat} {x : Option V} (h : i ∈ vs) : wipe (σ.set i x) vs = wipe σ vs := by
  refine List.ext_getElem? fun j => ?_
  rw [wipe_get, wipe_get, List.length_set]
  by_cases m : j ∈ vs ∧ j < σ.length
  · rw [if_pos m, if_pos m]
  · rw [if_neg m, if_neg m, List.getElem?_set]
    by_cases e : i = j
    · subst e
      have l : ¬ i < σ.length := fun z => m ⟨h, z⟩
      rw [if_pos rfl, if_neg l, List.getElem?_eq_none (by omega)]
    · rw [if_neg e]
theorem wipe_wipe {σ : L2.St} {vs : List Nat} : wipe (wipe σ vs) vs = wipe σ vs := by
  refine List.ext_getElem? fun j => ?_
  rw [wipe_get, wipe_length, wipe_get]
  by_cases m : j ∈ vs ∧ j < σ.length
  · rw [if_pos m, if_pos m]
  · rw [if_neg m, if_neg m]
theorem wipe2 {σ : L2.St} {vs : List Nat} {a b : Nat} {x y : Option V} (ha : a ∈ vs) (hb : b ∈ vs) : wipe (((wipe σ vs).set a x).set b y) vs = wipe σ vs := (wipe_set hb).trans ((wipe_set ha).trans wipe_wipe)
theorem wipe3 {σ : L2.St} {vs : List Nat} {a b c : Nat} {x y z : Option V} (ha : a ∈ vs) (hb : b ∈ vs) (hc : c ∈ vs) : wipe ((((wipe σ vs).set a x).set b y).set c z) vs = wipe σ vs := (wipe_set hc).trans (wipe2 ha hb)
/-! the walks with their targets: the slots' own clause has no tests; the state is told by what is looked up -/
theorem look3 {σ : L2.St} {vs : List Nat} {i1 i2 i3 : Nat} {y1 y2 y3 : V} (m1 : i1 ∈ vs) (m2 : i2 ∈ vs) (m3 : i3 ∈ vs) (d12 : i1 ≠ i2) (d13 : i1 ≠ i3) (d23 : i2 ≠ i3) (l1 : i1 < σ.length) (l2 : i2 < σ.length) (l3 : i3 < σ.length) :
    let τ := (((wipe σ vs).set i1 (some y1)).set i2 (some y2)).set i3 (some y3)
    τ.length = σ.length ∧ (∀ j, j ∉ vs → τ[j]? = σ[j]?) ∧ τ[i1]? = some (some y1) ∧ τ[i2]? = some (some y2) ∧ τ[i3]? = some (some y3) := by
  refine ⟨by rw [List.length_set, List.length_set, List.length_set, wipe_length], fun j hj => ?_, ?_, ?_, ?_⟩
  · rw [List.getElem?_set_ne (show i3 ≠ j from fun z => hj (by rw [← z]; exact m3)), List.getElem?_set_ne (show i2 ≠ j from fun z => hj (by rw [← z]; exact m2)), List.getElem?_set_ne (show i1 ≠ j from fun z => hj (by rw [← z]; exact m1)), wipe_get, if_neg (fun z => hj z.1)]
  · rw [List.getElem?_set_ne d13.symm, List.getElem?_set_ne d12.symm, List.getElem?_set, if_pos rfl, if_pos (by rw [wipe_length]; exact l1)]
  · rw [List.getElem?_set_ne d23.symm, List.getElem?_set, if_pos rfl, if_pos (by rw [List.length_set, wipe_length]; exact l2)]
  · rw [List.getElem?_set, if_pos rfl, if_pos (by rw [List.length_set, List.length_set, wipe_length]; exact l3)]
theorem look2 {σ : L2.St} {vs : List Nat} {i1 i2 : Nat} {y1 y2 : V} (m1 : i1 ∈ vs) (m2 : i2 ∈ vs) (d12 : i1 ≠ i2) (l1 : i1 < σ.length) (l2 : i2 < σ.length) :
    let τ := ((wipe σ vs).set i1 (some y1)).set i2 (some y2)
    τ.length = σ.length ∧ (∀ j, j ∉ vs → τ[j]? = σ[j]?) ∧ τ[i1]? = some (some y1) ∧ τ[i2]? = some (some y2) := by
  refine ⟨by rw [List.length_set, List.length_set, wipe_length], fun j hj => ?_, ?_, ?_⟩
  · rw [List.getElem?_set_ne (show i2 ≠ j from fun z => hj (by rw [← z]; exact m2)), List.getElem?_set_ne (show i1 ≠ j from fun z => hj (by rw [← z]; exact m1)), wipe_get, if_neg (fun z => hj z.1)]
  · rw [List.getElem?_set_ne d12.symm, List.getElem?_set, if_pos rfl, if_pos (by rw [wipe_length]; exact l1)]
  · rw [List.getElem?_set, if_pos rfl, if_pos (by rw [List.length_set, wipe_length]; exact l2)]
section
variable {K : PySem.W.Frag} {a : Addr} {xs : List V} {σ : L2.St} {vs : List Nat} {H : Hp} {N : Hp → Prop} {B : L2.St → Hp → (Hp → Prop) → Prop}
theorem walk_three {i1 i2 i3 : Nat} (m1 : i1 ∈ vs) (m2 : i2 ∈ vs) (m3 : i3 ∈ vs) (d12 : i1 ≠ i2) (d13 : i1 ≠ i3) (d23 : i2 ≠ i3) (l1 : i1 < σ.length) (l2 : i2 < σ.length) (l3 : i3 < σ.length) (Pv : Nat → Hp → Prop) (h0 : Pv 0 H) (hq : ∀ i H, Pv i H → SqT K H a xs)
    (hs : ∀ i x H, xs[i]? = some x → Pv i H → ∃ p y1 y2 y3, x = .ref p ∧ SqT K H p [y1, y2, y3] ∧ ∀ τ : L2.St, τ.length = σ.length → (∀ j, j ∉ vs → τ[j]? = σ[j]?) → τ[i1]? = some (some y1) → τ[i2]? = some (some y2) → τ[i3]? = some (some y3) → B τ H (Pv (i + 1))) (hd : ∀ H, Pv xs.length H → N H) :
    ∃ W : Nat → Nat → Hp → Prop, (∃ m, W 0 m H) ∧ ∀ i m H, W i m H → ((Itt K a).stop i H ∧ N H) ∨ ((Itt K a).go i H ∧ ∃ Nx : Hp → Prop, (∀ H', Nx H' → ∃ m', m' < m ∧ W (i + 1) m' H') ∧ ∀ x H', (Itt K a).yld i H x H' → gTup K 3 (gCons (gName i1) (gCons (gName i2) (gCons (gName i3) gNil))) x (wipe σ vs) H' fun σ2 H2 => wipe σ2 vs = wipe σ vs ∧ tYes σ2 H2 fun b H3 =>
      if b = true then B σ2 H3 Nx else Nx H3) := by
  refine walk_tup Pv h0 hq (fun i x H hx p => ?_) hd
  obtain ⟨q, y1, y2, y3, e, sq, b⟩ := hs i x H hx p
  obtain ⟨e0, e1, e2, e3, e4⟩ := look3 (y1 := y1) (y2 := y2) (y3 := y3) m1 m2 m3 d12 d13 d23 l1 l2 l3
  exact ⟨q, _, e, sq, rfl, _, _, rfl, _, _, rfl, _, _, rfl, rfl, wipe3 m1 m2 m3, b _ e0 e1 e2 e3 e4⟩
theorem walk_enum_pair {c : Int} {i1 i2 i3 : Nat} (m1 : i1 ∈ vs) (m2 : i2 ∈ vs) (m3 : i3 ∈ vs) (d12 : i1 ≠ i2) (d13 : i1 ≠ i3) (d23 : i2 ≠ i3) (l1 : i1 < σ.length) (l2 : i2 < σ.length) (l3 : i3 < σ.length) (Pv : Nat → Hp → Prop) (h0 : Pv 0 H) (hq : ∀ i H, Pv i H → SqT K H a xs)
    (hs : ∀ i x T H, xs[i]? = some x → Pv i H → H T = none → ∃ p y1 y2, x = .ref p ∧ SqT K (upd H T (.tup [.int (c + (i : Nat)), x])) p [y1, y2] ∧ ∀ τ : L2.St, τ.length = σ.length → (∀ j, j ∉ vs → τ[j]? = σ[j]?) → τ[i1]? = some (some (.int (c + (i : Nat)))) → τ[i2]? = some (some y1) → τ[i3]? = some (some y2) → B τ (upd H T (.tup [.int (c + (i : Nat)), x])) (Pv (i + 1))) (hd : ∀ H, Pv xs.length H → N H) :
    ∃ W : Nat → Nat → Hp → Prop, (∃ m, W 0 m H) ∧ ∀ i m H, W i m H → ((Itd K a c).stop i H ∧ N H) ∨ ((Itd K a c).go i H ∧ ∃ Nx : Hp → Prop, (∀ H', Nx H' → ∃ m', m' < m ∧ W (i + 1) m' H') ∧ ∀ x H', (Itd K a c).yld i H x H' → gTup K 2 (gCons (gName i1) (gCons (gTup K 2 (gCons (gName i2) (gCons (gName i3) gNil))) gNil)) x (wipe σ vs) H' fun σ2 H2 => wipe σ2 vs = wipe σ vs ∧ tYes σ2 H2 fun b H3 =>
      if b = true then B σ2 H3 Nx else Nx H3) := by
  refine walk_enum Pv h0 hq (fun i x T H hx p nT => ?_) hd
  obtain ⟨q, y1, y2, e, sq, b⟩ := hs i x T H hx p nT
  obtain ⟨e0, e1, e2, e3, e4⟩ := look3 (y1 := .int (c + (i : Nat))) (y2 := y1) (y3 := y2) m1 m2 m3 d12 d13 d23 l1 l2 l3
  exact ⟨T, _, rfl, .inl (.inl upd_same), rfl, _, _, rfl, _, _, rfl, q, _, e, sq, rfl, _, _, rfl, _, _, rfl, rfl, rfl, wipe3 m1 m2 m3, b _ e0 e1 e2 e3 e4⟩
theorem walk_enum_two {c : Int} {i1 i2 : Nat} (m1 : i1 ∈ vs) (m2 : i2 ∈ vs) (d12 : i1 ≠ i2) (l1 : i1 < σ.length) (l2 : i2 < σ.length) (Pv : Nat → Hp → Prop) (h0 : Pv 0 H) (hq : ∀ i H, Pv i H → SqT K H a xs)
    (hs : ∀ i x T H, xs[i]? = some x → Pv i H → H T = none → ∀ τ : L2.St, τ.length = σ.length → (∀ j, j ∉ vs → τ[j]? = σ[j]?) → τ[i1]? = some (some (.int (c + (i : Nat)))) → τ[i2]? = some (some x) → B τ (upd H T (.tup [.int (c + (i : Nat)), x])) (Pv (i + 1))) (hd : ∀ H, Pv xs.length H → N H) :
    ∃ W : Nat → Nat → Hp → Prop, (∃ m, W 0 m H) ∧ ∀ i m H, W i m H → ((Itd K a c).stop i H ∧ N H) ∨ ((Itd K a c).go i H ∧ ∃ Nx : Hp → Prop, (∀ H', Nx H' → ∃ m', m' < m ∧ W (i + 1) m' H') ∧ ∀ x H', (Itd K a c).yld i H x H' → gTup K 2 (gCons (gName i1) (gCons (gName i2) gNil)) x (wipe σ vs) H' fun σ2 H2 => wipe σ2 vs = wipe σ vs ∧ tYes σ2 H2 fun b H3 =>
      if b = true then B σ2 H3 Nx else Nx H3) := by
  refine walk_enum Pv h0 hq (fun i x T H hx p nT => ?_) hd
  obtain ⟨e0, e1, e2, e3⟩ := look2 (y1 := .int (c + (i : Nat))) (y2 := x) m1 m2 d12 l1 l2
  exact ⟨T, _, rfl, .inl (.inl upd_same), rfl, _, _, rfl, _, _, rfl, rfl, wipe2 m1 m2, hs i x T H hx p nT _ e0 e1 e2 e3⟩
end
end EnumT

/-! [elt for a in xs for b in ys for c in zs]: three clauses -/
namespace Lc3
open PySem PySem.Spec PyProof.Rows L2
abbrev E3 (elt t0 i0 t1 i1 t2 i2 : Expr) (f0 f1 f2 : List Expr) (sc : Scope) (pos : Pos) : Expr := .ListComp elt [⟨t0, i0, f0, 0⟩, ⟨t1, i1, f1, 0⟩, ⟨t2, i2, f2, 0⟩] sc pos
/-- a turn of a clause ahead of the last one, and of the last one -/
def turnA (E : Expr) (k : Nat) (tg itr : Expr) (fs : List Expr) (nxt : Expr) (it acc : Value) (env : Env) : Sem Fin := do
  standAt itr.pos
  match ← pyNext it with
  | none => pure (.done .next)
  | some val =>
    letOwnedTupleGo tg it val
    assign tg env val
    let mut go := true
    for cnd in fs do
      if go then go ← isTrue cnd env (eval cnd env)
    if go then
      let src ← eval nxt env
      standAt nxt.pos
      let src ← foldedSetIterable nxt env src
      let _ ← runOwn (.compStart E (k + 1) (← holding [src] (pyIter src)) acc env) env
    again (.compLoop E k it acc env)
def turnZ (E : Expr) (k : Nat) (tg itr : Expr) (fs : List Expr) (elt : Expr) (it acc : Value) (env : Env) : Sem Fin := do
  standAt itr.pos
  match ← pyNext it with
  | none => pure (.done .next)
  | some val =>
    letOwnedTupleGo tg it val
    assign tg env val
    let mut go := true
    for cnd in fs do
      if go then go ← isTrue cnd env (eval cnd env)
    if go then
      (do let _ ← call (.builtin "list.append") [acc, ← eval elt env])
    again (.compLoop E k it acc env)
section
variable {elt t0 i0 t1 i1 t2 i2 : Expr} {f0 f1 f2 : List Expr} {sc : Scope} {pos : Pos}
theorem turn0 (it acc : Value) (env : Env) : compTurn (E3 elt t0 i0 t1 i1 t2 i2 f0 f1 f2 sc pos) 0 it acc env = turnA (E3 elt t0 i0 t1 i1 t2 i2 f0 f1 f2 sc pos) 0 t0 i0 f0 i1 it acc env := by rfl
theorem turn1 (it acc : Value) (env : Env) : compTurn (E3 elt t0 i0 t1 i1 t2 i2 f0 f1 f2 sc pos) 1 it acc env = turnA (E3 elt t0 i0 t1 i1 t2 i2 f0 f1 f2 sc pos) 1 t1 i1 f1 i2 it acc env := by rfl
theorem turn2 (it acc : Value) (env : Env) : compTurn (E3 elt t0 i0 t1 i1 t2 i2 f0 f1 f2 sc pos) 2 it acc env = turnZ (E3 elt t0 i0 t1 i1 t2 i2 f0 f1 f2 sc pos) 2 t2 i2 f2 elt it acc env := by rfl
end
abbrev tst (fs : List Expr) (env : Env) : Sem Bool := forIn fs true fun c r => if r = true then do let ok ← isTrue c env (eval c env); pure (ForInStep.yield ok) else pure (ForInStep.yield r)
section
variable {prog : Program} {w : World} {A : Around} {R : Result → Shared → Prop} {s : Shared} {el elt tg itr nxt : Expr} {gens : List Comprehension} {sc : Scope} {pos : Pos} {fs : List Expr} {it acc : Value} {env : Env} {k : Nat}
abbrev NB (prog : Program) (w : World) (A : Around) (env : Env) (R : Result → Shared → Prop) : Value → Shared → Prop := notedBy (model prog w) A env fun e z => R (.error e) z
theorem loopA (heq : ∀ it acc env, compTurn (.ListComp el gens sc pos) k it acc env = turnA (.ListComp el gens sc pos) k tg itr fs nxt it acc env) (hs : ∀ x, foldedSetIterable nxt env x = pure x) (I : Nat → Shared → Prop)
    (turn : ∀ n s, I n s → wpAny (model prog w) A (pyNext it) (fun r z1 => match r with
      | none => R (.ok .next) z1
      | some v => wpAny (model prog w) A (letOwnedTupleGo tg it v) (fun _ z2 => wpAny (model prog w) A (assign tg env v) (fun _ z3 => wpAny (model prog w) A (tst fs env) (fun ok z4 =>
            if ok = true then wpAny (model prog w) A (eval nxt env) (fun x z5 => wpAny (model prog w) A (pyIter x) (fun it1 z6 => codeAny (model prog w) A (.compStart (.ListComp el gens sc pos) (k + 1) it1 acc env) (fun r z7 => match r with
                | .ok _ => ∃ m, m < n ∧ I m z7
                | .error _ => False) z6) (NB prog w A env R) z5) (NB prog w A env R) z4
            else ∃ m, m < n ∧ I m z4) (NB prog w A env R) z3) (NB prog w A env R) z2) (NB prog w A env R) z1) (NB prog w A env R) s)
    (n : Nat) (h : I n s) : codeAny (model prog w) A (.compLoop (.ListComp el gens sc pos) k it acc env) R s := by
  refine codeAny_loop rfl I (fun n s hn => ?_) n h
  show wpAny _ A ((compTurn (.ListComp el gens sc pos) k it acc env).onRaise (fun x => do noteFrame x env; theTreesLotGoes x)) _ _ s
  refine wpAny_noted ?_
  rw [heq]
  unfold turnA
  refine wpAny_bind (wpAny_standAt (wpAny_bind (wpAny_mono (turn n s hn) (fun r z1 g1 => ?_) fun _ _ y => y)))
  cases r with
  | none => exact wpAny_pure g1
  | some v =>
    refine wpAny_bind (wpAny_mono g1 (fun _ z2 g2 => ?_) fun _ _ y => y)
    refine wpAny_bind (wpAny_mono g2 (fun _ z3 g3 => wpAny_bind (wpAny_mono g3 (fun ok z4 g4 => ?_) fun _ _ y => y)) fun _ _ y => y)
    cases ok with
    | false => exact wpAny_pure ⟨rfl, g4⟩
    | true =>
      refine wpAny_bind (wpAny_mono g4 (fun x z5 g5 => ?_) fun _ _ y => y)
      refine wpAny_bind (wpAny_standAt (wpAny_bind (wpAny_of_eq (hs x) (wpAny_bind (wpAny_holding (wpAny_mono g5 (fun it1 z6 g6 => ?_) fun _ _ y => y))))))
      refine wpAny_bind (wpAny_runOwn ?_)
      rw [Around.mark_none]
      refine codeAny_mono g6 fun r z7 hr => ?_
      cases r with
      | ok fl =>
        first
          | exact wpAny_pure ⟨rfl, hr⟩
          | exact wpAny_bind (wpAny_pure (wpAny_pure ⟨rfl, hr⟩))
      | error er => exact hr.elim
theorem loopZ (heq : ∀ it acc env, compTurn (.ListComp el gens sc pos) k it acc env = turnZ (.ListComp el gens sc pos) k tg itr fs elt it acc env) (I : Nat → Shared → Prop)
    (turn : ∀ n s, I n s → wpAny (model prog w) A (pyNext it) (fun r z1 => match r with
      | none => R (.ok .next) z1
      | some v => wpAny (model prog w) A (letOwnedTupleGo tg it v) (fun _ z2 => wpAny (model prog w) A (assign tg env v) (fun _ z3 => wpAny (model prog w) A (tst fs env) (fun ok z4 =>
            if ok = true then wpAny (model prog w) A (eval elt env) (fun x z5 => wpAny (model prog w) A (call (.builtin "list.append") [acc, x]) (fun _ z6 => ∃ m, m < n ∧ I m z6) (NB prog w A env R) z5) (NB prog w A env R) z4
            else ∃ m, m < n ∧ I m z4) (NB prog w A env R) z3) (NB prog w A env R) z2) (NB prog w A env R) z1) (NB prog w A env R) s)
    (n : Nat) (h : I n s) : codeAny (model prog w) A (.compLoop (.ListComp el gens sc pos) k it acc env) R s := by
  refine codeAny_loop rfl I (fun n s hn => ?_) n h
  show wpAny _ A ((compTurn (.ListComp el gens sc pos) k it acc env).onRaise (fun x => do noteFrame x env; theTreesLotGoes x)) _ _ s
  refine wpAny_noted ?_
  rw [heq]
  unfold turnZ
  refine wpAny_bind (wpAny_standAt (wpAny_bind (wpAny_mono (turn n s hn) (fun r z1 g1 => ?_) fun _ _ y => y)))
  cases r with
  | none => exact wpAny_pure g1
  | some v =>
    refine wpAny_bind (wpAny_mono g1 (fun _ z2 g2 => ?_) fun _ _ y => y)
    refine wpAny_bind (wpAny_mono g2 (fun _ z3 g3 => wpAny_bind (wpAny_mono g3 (fun ok z4 g4 => ?_) fun _ _ y => y)) fun _ _ y => y)
    cases ok with
    | false => exact wpAny_pure ⟨rfl, g4⟩
    | true => exact wpAny_bind (wpAny_bind (wpAny_mono g4 (fun x z5 g5 => wpAny_bind (wpAny_mono g5 (fun _ z6 g6 => wpAny_pure (wpAny_pure ⟨rfl, g6⟩)) fun _ _ y => y)) fun _ _ y => y))
end
section
variable {prog : Program} {w : World} {A : Around} {R : Result → Shared → Prop} {s : Shared} {elt t0 i0 t1 i1 t2 i2 : Expr} {f0 f1 f2 : List Expr} {sc : Scope} {pos : Pos} {it acc : Value} {env : Env}
theorem start1 (h0 : codeAny (model prog w) A (.compLoop (E3 elt t0 i0 t1 i1 t2 i2 f0 f1 f2 sc pos) 1 it acc env) R s)
    (h : wpAny (model prog w) A (pyIter it) (fun jt z => codeAny (model prog w) A (.compLoop (E3 elt t0 i0 t1 i1 t2 i2 f0 f1 f2 sc pos) 1 jt acc env) R z) (NB prog w A env R) s) :
    codeAny (model prog w) A (.compStart (E3 elt t0 i0 t1 i1 t2 i2 f0 f1 f2 sc pos) 1 it acc env) R s := by
  refine codeAny_of_tree ?_
  show wpAny _ _ ((compStart (E3 elt t0 i0 t1 i1 t2 i2 f0 f1 f2 sc pos) 1 it acc env).onRaise (fun x => do noteFrame x env; standAt theWindowsPlace)) _ _ s
  refine wpAny_notedAt ?_
  unfold compStart
  show wpAny _ _ (ask >>= _) _ _ s
  refine wpAny_bind (wpAny_askSetting (wpAny_ite ?_))
  split
  · first
      | exact wpAny_bind (wpAny_pure (wpAny_pure ⟨rfl, h0⟩))
      | exact wpAny_pure ⟨rfl, h0⟩
  · refine wpAny_bind (wpAny_rule ?_)
    show wpAny _ _ (standAt i1.pos >>= _) _ _ s
    exact wpAny_bind (wpAny_standAt (wpAny_bind (wpAny_mono h (fun jt z y => wpAny_pure ⟨rfl, y⟩) fun _ _ y => y)))
theorem start2 (h0 : codeAny (model prog w) A (.compLoop (E3 elt t0 i0 t1 i1 t2 i2 f0 f1 f2 sc pos) 2 it acc env) R s)
    (h : wpAny (model prog w) A (pyIter it) (fun jt z => codeAny (model prog w) A (.compLoop (E3 elt t0 i0 t1 i1 t2 i2 f0 f1 f2 sc pos) 2 jt acc env) R z) (NB prog w A env R) s) :
    codeAny (model prog w) A (.compStart (E3 elt t0 i0 t1 i1 t2 i2 f0 f1 f2 sc pos) 2 it acc env) R s := by
  refine codeAny_of_tree ?_
  show wpAny _ _ ((compStart (E3 elt t0 i0 t1 i1 t2 i2 f0 f1 f2 sc pos) 2 it acc env).onRaise (fun x => do noteFrame x env; standAt theWindowsPlace)) _ _ s
  refine wpAny_notedAt ?_
  unfold compStart
  show wpAny _ _ (ask >>= _) _ _ s
  refine wpAny_bind (wpAny_askSetting (wpAny_ite ?_))
  split
  · first
      | exact wpAny_bind (wpAny_pure (wpAny_pure ⟨rfl, h0⟩))
      | exact wpAny_pure ⟨rfl, h0⟩
  · refine wpAny_bind (wpAny_rule ?_)
    show wpAny _ _ (standAt i2.pos >>= _) _ _ s
    exact wpAny_bind (wpAny_standAt (wpAny_bind (wpAny_mono h (fun jt z y => wpAny_pure ⟨rfl, y⟩) fun _ _ y => y)))
end
/-- what a further clause does: the last one, one ahead of it -/
def tZ (wi : TI) (g : TG) (tt : TT) (te : TE) (vs : List Nat) (D : Addr) (σ : L2.St) (H : Hp) (N : Hp → Prop) : Prop := wi σ H fun J H1 => ∃ W : Nat → Nat → Hp → Prop, (∃ m, W 0 m H1) ∧ ∀ i m H, W i m H →
  (J.stop i H ∧ N H) ∨ (J.go i H ∧ ∃ Nx : Hp → Prop, (∀ H', Nx H' → ∃ m', m' < m ∧ W (i + 1) m' H') ∧ ∀ x H', J.yld i H x H' → g x (wipe σ vs) H' fun σ2 H2 => wipe σ2 vs = wipe σ vs ∧ tt σ2 H2 fun b H3 =>
    if b = true then te σ2 H3 fun y H4 => ∃ acc, H4 D = some (.lst acc) ∧ acc.length < sizeLine ∧ Nx (upd H4 D (.lst (acc ++ [y]))) else Nx H3)
def tA (wi : TI) (g : TG) (tt : TT) (vs : List Nat) (inner : L2.St → Hp → (Hp → Prop) → Prop) (σ : L2.St) (H : Hp) (N : Hp → Prop) : Prop := wi σ H fun J H1 => ∃ W : Nat → Nat → Hp → Prop, (∃ m, W 0 m H1) ∧ ∀ i m H, W i m H →
  (J.stop i H ∧ N H) ∨ (J.go i H ∧ ∃ Nx : Hp → Prop, (∀ H', Nx H' → ∃ m', m' < m ∧ W (i + 1) m' H') ∧ ∀ x H', J.yld i H x H' → g x (wipe σ vs) H' fun σ2 H2 => wipe σ2 vs = wipe σ vs ∧ tt σ2 H2 fun b H3 =>
    if b = true then inner σ2 H3 Nx else Nx H3)
/-- the whole of it: the first clause's store and tests, then the others -/
def tLc3 (wi : TI) (g : TG) (tt : TT) (vs : List Nat) (inner : Addr → L2.St → Hp → (Hp → Prop) → Prop) : TE := fun σ H Q => wi σ H fun J H1 => ∀ D, H1 D = none → ∃ W : Nat → Nat → Hp → Prop, (∃ m, W 0 m (upd H1 D (.lst []))) ∧ ∀ i m H, W i m H →
  (J.stop i H ∧ Q (.ref D) H) ∨ (J.go i H ∧ ∃ Nx : Hp → Prop, (∀ H', Nx H' → ∃ m', m' < m ∧ W (i + 1) m' H') ∧ ∀ x H', J.yld i H x H' → g x (wipe σ vs) H' fun σ2 H2 => wipe σ2 vs = wipe σ vs ∧ tt σ2 H2 fun b H3 =>
    if b = true then inner D σ2 H3 Nx else Nx H3)
section
variable {X : Cx} {s0 : Shared} {H0 : Hp} {scope : Scope} {ce : Env} {fp : List Addr} {elt t0 i0 t1 i1 t2 i2 : Expr} {f0 f1 f2 : List Expr} {sc : Scope} {pos : Pos}
/-- what is known at a turn's end -/
theorem weaken {σ σ' : L2.St} {vs us : List Nat} (e : wipe σ' vs = wipe σ vs) (sub : ∀ i ∈ us, i ∈ vs) (j : Nat) (v : V) (h : (wipe σ vs)[j]? = some (some v)) : (wipe σ' us)[j]? = some (some v) := by
  rw [← e] at h
  obtain ⟨a, b⟩ := wipe_some h
  rw [wipe_out fun z => b (sub j z)]
  exact a
theorem runZ {g : TG} {tt : TT} {te : TE} {wi : TI} {vs : List Nat} {pins : List (Addr × Obj)} {σ : L2.St} {H : Hp} {s : Shared} {D : Addr} {N : Hp → Prop} (hc : X.calm = true)
    (pi : PI (X.blk s0 H0 scope ce fp) t2 i2 wi) (pg : PG (X.blk s0 H0 scope ce fp) t2 g) (pt : PTs (X.blk s0 H0 scope ce fp) f2 tt) (pe : PE (X.blk s0 H0 scope ce fp) elt te)
    (I : Inv (X.blk s0 H0 scope ce fp) pins σ H s) (h : tZ wi g tt te vs D σ H N) :
    wpAny (model X.prog X.w) X.A (eval i2 ce) (fun x z1 => wpAny (model X.prog X.w) X.A (pyIter x) (fun jt z2 => codeAny (model X.prog X.w) X.A (.compStart (E3 elt t0 i0 t1 i1 t2 i2 f0 f1 f2 sc pos) 2 jt (.ref D) ce) (fun r z3 => match r with
      | .ok _ => ∃ H', Inv (X.blk s0 H0 scope ce fp) pins (wipe σ vs) H' z3 ∧ N H'
      | .error _ => False) z2) (fun _ _ => False) z1) (fun _ _ => False) s := by
  refine thnF (pi.run _ s σ H _ I h) fun xv z1 hx => thnF hx fun jv z2 h2 => ?_
  obtain ⟨jt, fq, tn, J, H1, ej, I1, T, st1, fr, W, ⟨m1, w1⟩, turn⟩ := h2
  subst ej
  have stat : ∀ {H' : Hp}, (∀ b ∈ fq, H' b = none) → ∀ b ∈ fq, FpOk (X.blk s0 H0 scope ce fp) pins H' b := fun hn b hb => ⟨hn b hb, (fr b hb).2⟩
  have lp : codeAny (model X.prog X.w) X.A (.compLoop (E3 elt t0 i0 t1 i1 t2 i2 f0 f1 f2 sc pos) 2 (.ref jt) (.ref D) ce) (fun r z3 => match r with
      | .ok _ => ∃ H', Inv (X.blk s0 H0 scope ce fp) pins (wipe σ vs) H' z3 ∧ N H'
      | .error _ => False) z2 := by
    refine loopZ turn2 (fun k z => ∃ j H', Inv (X.blk s0 H0 scope ce fp) pins (wipe σ vs) H' z ∧ tn j z.heap ∧ (∀ b ∈ fq, H' b = none) ∧ W j k H') ?_ m1 ⟨0, H1, I1.weak (wipe_length _ _) (fun j v e => (wipe_some e).1), st1, fun b hb => (fr b hb).1, w1⟩
    rintro k z3 ⟨j, H3, I3, st3, n3, w3⟩
    rcases turn j k H3 w3 with ⟨stp, nx⟩ | ⟨go, Nx, hNx, step⟩
    · refine thnF (T.done (X.blk s0 H0 scope ce fp) rfl rfl rfl hc j _ z3 (wipe σ vs) H3 (fun _ _ => False) I3 (stat n3) st3 stp) fun r z4 ⟨hr, I4⟩ => ?_
      subst hr
      exact ⟨H3, I4, nx⟩
    · refine thnF (T.item (X.blk s0 H0 scope ce fp) rfl rfl rfl hc j _ z3 (wipe σ vs) H3 (fun _ _ => False) I3 (stat n3) st3 go) fun r z4 ⟨u, hr, h4⟩ => ?_
      subst hr
      refine thnF h4 fun _ z5 ⟨x, H5, I5, rv5, yd5, st5, n5⟩ => ?_
      have I5p := I5.pinned (stat n5) (T.obj _ _ st5)
      refine thnF (pg.run _ z5 (wipe σ vs) H5 x u _ I5p rv5 (step x H5 yd5)) fun _ z6 ⟨σ6, H6, I6, hw6, q6⟩ => ?_
      refine thnF (pt.run _ z6 σ6 H6 _ I6 q6) fun b z7 ⟨H7, I7, q7⟩ => ?_
      have fin : ∀ {z : Shared} {H' : Hp}, Inv (X.blk s0 H0 scope ce fp) (pins ++ pinsAt fq z5.heap) σ6 H' z → Nx H' → ∃ m, m < k ∧ ∃ j H', Inv (X.blk s0 H0 scope ce fp) pins (wipe σ vs) H' z ∧ tn j z.heap ∧ (∀ b ∈ fq, H' b = none) ∧ W j m H' := fun {z H'} I' nx => by
        obtain ⟨m', lt, w'⟩ := hNx H' nx
        have held : ∀ b ∈ fq, ∀ o, z5.heap.get? b = some o → z.heap.get? b = some o ∧ H' b = none := fun b hb o e =>
          let y := I'.pin (b, o) (List.mem_append_right _ (List.mem_append_right _ (mem_pinsAt hb e)))
          ⟨y.1, y.2.1⟩
        refine ⟨m', lt, j + 1, H', I'.unpinned.weak (by rw [← hw6, wipe_length]) (fun j v e => by rw [← hw6] at e; exact (wipe_some e).1), T.keep _ _ _ st5 fun b hb o e => (held b hb o e).1, fun b hb => ?_, w'⟩
        obtain ⟨o, e, _⟩ := T.obj _ _ st5 b hb
        exact (held b hb o e).2
      cases b with
      | false =>
        simp only [Bool.false_eq_true, if_false] at q7 ⊢
        exact fin I7 q7
      | true =>
        simp only [if_true] at q7 ⊢
        refine thnF (pe.run _ z7 σ6 H7 _ I7 q7) fun y z8 ⟨yv, H8, I8, rv8, acc, hD8, lt8, nx⟩ => ?_
        exact app_ok (X := X.blk s0 H0 scope ce fp) I8 hD8 lt8 rv8 fun z9 I9 => fin I9 nx
  exact start2 lp (T.self X.A 0 _ _ _ st1 lp)
theorem runA {g : TG} {tt : TT} {wi : TI} {vs us : List Nat} {inner : L2.St → Hp → (Hp → Prop) → Prop} {pins : List (Addr × Obj)} {σ : L2.St} {H : Hp} {s : Shared} {D : Addr} {N : Hp → Prop} (hc : X.calm = true) (sub : ∀ i ∈ us, i ∈ vs)
    (pi : PI (X.blk s0 H0 scope ce fp) t1 i1 wi) (pg : PG (X.blk s0 H0 scope ce fp) t1 g) (pt : PTs (X.blk s0 H0 scope ce fp) f1 tt) (hs : ∀ x, foldedSetIterable i2 ce x = pure x)
    (pn : ∀ (pins : List (Addr × Obj)) (σ : L2.St) (H : Hp) (s : Shared) (N : Hp → Prop), Inv (X.blk s0 H0 scope ce fp) pins σ H s → inner σ H N →
      wpAny (model X.prog X.w) X.A (eval i2 ce) (fun x z1 => wpAny (model X.prog X.w) X.A (pyIter x) (fun jt z2 => codeAny (model X.prog X.w) X.A (.compStart (E3 elt t0 i0 t1 i1 t2 i2 f0 f1 f2 sc pos) 2 jt (.ref D) ce) (fun r z3 => match r with
        | .ok _ => ∃ H', Inv (X.blk s0 H0 scope ce fp) pins (wipe σ us) H' z3 ∧ N H'
        | .error _ => False) z2) (fun _ _ => False) z1) (fun _ _ => False) s)
    (I : Inv (X.blk s0 H0 scope ce fp) pins σ H s) (h : tA wi g tt vs inner σ H N) :
    wpAny (model X.prog X.w) X.A (eval i1 ce) (fun x z1 => wpAny (model X.prog X.w) X.A (pyIter x) (fun jt z2 => codeAny (model X.prog X.w) X.A (.compStart (E3 elt t0 i0 t1 i1 t2 i2 f0 f1 f2 sc pos) 1 jt (.ref D) ce) (fun r z3 => match r with
      | .ok _ => ∃ H', Inv (X.blk s0 H0 scope ce fp) pins (wipe σ vs) H' z3 ∧ N H'
      | .error _ => False) z2) (fun _ _ => False) z1) (fun _ _ => False) s := by
  refine thnF (pi.run _ s σ H _ I h) fun xv z1 hx => thnF hx fun jv z2 h2 => ?_
  obtain ⟨jt, fq, tn, J, H1, ej, I1, T, st1, fr, W, ⟨m1, w1⟩, turn⟩ := h2
  subst ej
  have stat : ∀ {H' : Hp}, (∀ b ∈ fq, H' b = none) → ∀ b ∈ fq, FpOk (X.blk s0 H0 scope ce fp) pins H' b := fun hn b hb => ⟨hn b hb, (fr b hb).2⟩
  have lp : codeAny (model X.prog X.w) X.A (.compLoop (E3 elt t0 i0 t1 i1 t2 i2 f0 f1 f2 sc pos) 1 (.ref jt) (.ref D) ce) (fun r z3 => match r with
      | .ok _ => ∃ H', Inv (X.blk s0 H0 scope ce fp) pins (wipe σ vs) H' z3 ∧ N H'
      | .error _ => False) z2 := by
    refine loopA turn1 hs (fun k z => ∃ j H', Inv (X.blk s0 H0 scope ce fp) pins (wipe σ vs) H' z ∧ tn j z.heap ∧ (∀ b ∈ fq, H' b = none) ∧ W j k H') ?_ m1 ⟨0, H1, I1.weak (wipe_length _ _) (fun j v e => (wipe_some e).1), st1, fun b hb => (fr b hb).1, w1⟩
    rintro k z3 ⟨j, H3, I3, st3, n3, w3⟩
    rcases turn j k H3 w3 with ⟨stp, nx⟩ | ⟨go, Nx, hNx, step⟩
    · refine thnF (T.done (X.blk s0 H0 scope ce fp) rfl rfl rfl hc j _ z3 (wipe σ vs) H3 (fun _ _ => False) I3 (stat n3) st3 stp) fun r z4 ⟨hr, I4⟩ => ?_
      subst hr
      exact ⟨H3, I4, nx⟩
    · refine thnF (T.item (X.blk s0 H0 scope ce fp) rfl rfl rfl hc j _ z3 (wipe σ vs) H3 (fun _ _ => False) I3 (stat n3) st3 go) fun r z4 ⟨u, hr, h4⟩ => ?_
      subst hr
      refine thnF h4 fun _ z5 ⟨x, H5, I5, rv5, yd5, st5, n5⟩ => ?_
      have I5p := I5.pinned (stat n5) (T.obj _ _ st5)
      refine thnF (pg.run _ z5 (wipe σ vs) H5 x u _ I5p rv5 (step x H5 yd5)) fun _ z6 ⟨σ6, H6, I6, hw6, q6⟩ => ?_
      refine thnF (pt.run _ z6 σ6 H6 _ I6 q6) fun b z7 ⟨H7, I7, q7⟩ => ?_
      have fin : ∀ {σ9 : L2.St} {z : Shared} {H' : Hp}, Inv (X.blk s0 H0 scope ce fp) (pins ++ pinsAt fq z5.heap) σ9 H' z → (wipe σ vs).length = σ9.length → (∀ (j : Nat) (v : V), (wipe σ vs)[j]? = some (some v) → σ9[j]? = some (some v)) → Nx H' →
          ∃ m, m < k ∧ ∃ j H', Inv (X.blk s0 H0 scope ce fp) pins (wipe σ vs) H' z ∧ tn j z.heap ∧ (∀ b ∈ fq, H' b = none) ∧ W j m H' := fun {σ9 z H'} I' hl hk nx => by
        obtain ⟨m', lt, w'⟩ := hNx H' nx
        have held : ∀ b ∈ fq, ∀ o, z5.heap.get? b = some o → z.heap.get? b = some o ∧ H' b = none := fun b hb o e =>
          let y := I'.pin (b, o) (List.mem_append_right _ (List.mem_append_right _ (mem_pinsAt hb e)))
          ⟨y.1, y.2.1⟩
        refine ⟨m', lt, j + 1, H', I'.unpinned.weak hl hk, T.keep _ _ _ st5 fun b hb o e => (held b hb o e).1, fun b hb => ?_, w'⟩
        obtain ⟨o, e, _⟩ := T.obj _ _ st5 b hb
        exact (held b hb o e).2
      have l6 : (wipe σ vs).length = σ6.length := by rw [← hw6, wipe_length]
      cases b with
      | false =>
        simp only [Bool.false_eq_true, if_false] at q7 ⊢
        exact fin I7 l6 (fun j v e => by rw [← hw6] at e; exact (wipe_some e).1) q7
      | true =>
        simp only [if_true] at q7 ⊢
        refine thnF (pn _ σ6 H7 z7 Nx I7 q7) fun y z8 h8 => thnF h8 fun jt2 z9 h9 => codeAny_mono h9 fun r z hr => ?_
        cases r with
        | error er => exact hr.elim
        | ok fl =>
          obtain ⟨H', I', n'⟩ := hr
          exact fin I' (l6.trans (wipe_length σ6 us).symm) (weaken hw6 sub) n'
  exact start1 lp (T.self X.A 0 _ _ _ st1 lp)
end
section
variable {X : Cx}
theorem pe_lc3 {elt t0 i0 t1 i1 t2 i2 : Expr} {f0 f1 f2 : List Expr} {scope : Scope} {own : List (Str × Nat)} {vs1 vs2 : List Nat} {pos : Pos} {wi wi1 wi2 : TI} {g g1 g2 : TG} {tt tt1 tt2 : TT} {te : TE}
    (hc : X.calm = true) (hN : X.N.Nodup) (hi : PI X t0 i0 wi) (ok : BlkOk X.N X.env.scope scope own) (hv : ∀ i ∈ vs1, i ∈ own.map (·.2)) (hw : ∀ i ∈ vs2, i ∈ vs1)
    (hg : ∀ (s : Shared) (H : Hp) (C : Addr) (cl : List (Str × Addr)) (fp : List Addr), PG (X.blk s H scope (compEnvC scope cl C X.env) fp) t0 g)
    (ht : ∀ (s : Shared) (H : Hp) (C : Addr) (cl : List (Str × Addr)) (fp : List Addr), PTs (X.blk s H scope (compEnvC scope cl C X.env) fp) f0 tt)
    (hi1 : ∀ (s : Shared) (H : Hp) (C : Addr) (cl : List (Str × Addr)) (fp : List Addr), PI (X.blk s H scope (compEnvC scope cl C X.env) fp) t1 i1 wi1)
    (hg1 : ∀ (s : Shared) (H : Hp) (C : Addr) (cl : List (Str × Addr)) (fp : List Addr), PG (X.blk s H scope (compEnvC scope cl C X.env) fp) t1 g1)
    (ht1 : ∀ (s : Shared) (H : Hp) (C : Addr) (cl : List (Str × Addr)) (fp : List Addr), PTs (X.blk s H scope (compEnvC scope cl C X.env) fp) f1 tt1)
    (hi2 : ∀ (s : Shared) (H : Hp) (C : Addr) (cl : List (Str × Addr)) (fp : List Addr), PI (X.blk s H scope (compEnvC scope cl C X.env) fp) t2 i2 wi2)
    (hg2 : ∀ (s : Shared) (H : Hp) (C : Addr) (cl : List (Str × Addr)) (fp : List Addr), PG (X.blk s H scope (compEnvC scope cl C X.env) fp) t2 g2)
    (ht2 : ∀ (s : Shared) (H : Hp) (C : Addr) (cl : List (Str × Addr)) (fp : List Addr), PTs (X.blk s H scope (compEnvC scope cl C X.env) fp) f2 tt2)
    (he : ∀ (s : Shared) (H : Hp) (C : Addr) (cl : List (Str × Addr)) (fp : List Addr), PE (X.blk s H scope (compEnvC scope cl C X.env) fp) elt te)
    (hs : ∀ x, foldedSetIterable i0 X.env x = pure x := by intro _; rfl) (hs1 : ∀ env x, foldedSetIterable i1 env x = pure x := by intro _ _; rfl) (hs2 : ∀ env x, foldedSetIterable i2 env x = pure x := by intro _ _; rfl) :
    PE X (.ListComp elt [⟨t0, i0, f0, 0⟩, ⟨t1, i1, f1, 0⟩, ⟨t2, i2, f2, 0⟩] scope pos) (tLc3 wi g tt (own.map (·.2)) fun D => tA wi1 g1 tt1 vs1 (tZ wi2 g2 tt2 te vs2 D)) := by
  refine ⟨fun pins s σ H Q I h => ?_⟩
  rw [eval_ListComp]
  have free_ : ∀ p ∈ scope.names, p.2 = .free → ∃ c, X.env.cells.lookup p.1 = some c := fun p hp e => by
    rcases ok.free p hp e with y | y
    · exact I.ok.has _ (.inl y)
    · exact I.ok.has _ (.inr y)
  refine wpAny_comprehension_free (use := none) rfl hs (closure_ok free_) ok.kind (fun p hp e => by rw [ok.uniq p hp, e])
    (thn (hi.run pins s σ H _ I h) fun xv z1 hx => thn hx fun jv z2 h2 => ?_)
  obtain ⟨jt, fp, tn, J, H2, ej, I2, T, st2, fr2, q⟩ := h2
  subst ej
  refine wpAny_newObj_type (newEnv_comp ?_) (by show 0 ≤ sizeLine; decide)
  generalize hD : z2.heap.objs.size = D
  have nD : H2 D = none := I2.hok.fresh (Nat.le_of_eq hD)
  obtain ⟨W, ⟨m0, w0⟩, turn⟩ := q D nD
  generalize hz3 : ({ z2 with heap := z2.heap.push { cls := .type "list", data := .seq ([] : List Value).toArray } } : Shared) = z3
  have I3 : Inv X pins σ (upd H2 D (.lst [])) z3 := by
    rw [← hz3]
    refine I2.laid (t' := z2.toks) (fun b o e => Heap.get?_push_of_some _ e) (Nat.le_of_eq hD) ⟨Nat.zero_le _, [], 0, .nil, ?_⟩
    rw [← hD]
    exact Heap.get?_push_size _ rfl
  have hp3 : z3.heap = z2.heap.push { cls := .type "list", data := .seq ([] : List Value).toArray } := by rw [← hz3]
  have old : ∀ b ∈ fp, b < z2.heap.objs.size := fun b hb => by
    obtain ⟨o, e, _⟩ := T.obj _ _ st2 b hb
    exact Heap.lt_size e
  have fr3 : ∀ b ∈ fp, FpOk X pins (upd H2 D (.lst [])) b ∧ b < z3.heap.objs.size := fun b hb => by
    have lt := old b hb
    refine ⟨⟨?_, (fr2 b hb).2⟩, by rw [hp3, Heap.size_push]; exact Nat.lt_succ_of_lt lt⟩
    rw [upd_ne (by rw [← hD]; exact Nat.ne_of_lt lt)]
    exact (fr2 b hb).1
  have st3 : tn 0 z3.heap := T.keep _ _ _ st2 fun b _ o e => by rw [hp3]; exact Heap.get?_push_of_some _ e
  have I4 := block_start I3 ok hN fr3
  generalize hcl : cellsFrom (z3.heap.objs.size + 1) scope.names (cloFrom X.env.cells scope.names []) = cl at I4 ⊢
  have pg := hg z3 (upd H2 D (.lst [])) z3.heap.objs.size cl fp
  have pt := ht z3 (upd H2 D (.lst [])) z3.heap.objs.size cl fp
  have pe := he z3 (upd H2 D (.lst [])) z3.heap.objs.size cl fp
  have pi1 := hi1 z3 (upd H2 D (.lst [])) z3.heap.objs.size cl fp
  have pg1 := hg1 z3 (upd H2 D (.lst [])) z3.heap.objs.size cl fp
  have pt1 := ht1 z3 (upd H2 D (.lst [])) z3.heap.objs.size cl fp
  have pi2 := hi2 z3 (upd H2 D (.lst [])) z3.heap.objs.size cl fp
  have pg2 := hg2 z3 (upd H2 D (.lst [])) z3.heap.objs.size cl fp
  have pt2 := ht2 z3 (upd H2 D (.lst [])) z3.heap.objs.size cl fp
  show codeAny _ _ (.compStart (E3 elt t0 i0 t1 i1 t2 i2 f0 f1 f2 scope pos) 0 (.ref jt) (.ref D) (compEnvC scope cl z3.heap.objs.size X.env)) (compPost (model X.prog X.w) X.A X.xe none (EP X pins σ Q) (.ref D) z3.heap.objs.size) { z3 with heap := pushCells (z3.heap.push { cls := .type "dict", data := .dict #[] }) scope.names }
  have nfp : ∀ b ∈ fp, (upd H2 D (.lst [])) b = none := fun b hb => (fr3 b hb).1.1
  generalize hce : compEnvC scope cl z3.heap.objs.size X.env = ce at I4 pg pt pe pi1 pg1 pt1 pi2 pg2 pt2 ⊢
  have cL : ce.locals = z3.heap.objs.size := by subst hce; rfl
  generalize hH3 : upd H2 D (.lst []) = H3 at I3 I4 pg pt pe pi1 pg1 pt1 pi2 pg2 pt2 w0 nfp fr3
  generalize hz4 : ({ z3 with heap := pushCells (z3.heap.push { cls := .type "dict", data := .dict #[] }) scope.names } : Shared) = z4 at I4 ⊢
  have st4 : tn 0 z4.heap := T.keep _ _ _ st3 fun b _ o e => by rw [← hz4]; exact pushCells_keeps _ _ _ _ (Heap.get?_push_of_some _ e)
  have stat : ∀ {σ' : L2.St} {H' : Hp} {z : Shared}, Inv (X.blk z3 H3 scope ce fp) [] σ' H' z → (∀ b ∈ fp, H' b = none) → ∀ b ∈ fp, FpOk (X.blk z3 H3 scope ce fp) [] H' b := fun {σ' H' z} I' hn b hb =>
    ⟨hn b hb, (I'.ok.exf b hb).1, I'.ok.exfs b hb, .inl hb, fun x c e => (I'.ok.exf b hb).2 x c e, fun p hp => absurd (show p ∈ ([] : List (Addr × Obj)) ++ [] from hp) (by simp)⟩
  have lp : codeAny (model X.prog X.w) X.A (.compLoop (E3 elt t0 i0 t1 i1 t2 i2 f0 f1 f2 scope pos) 0 (.ref jt) (.ref D) ce) (compPost (model X.prog X.w) X.A X.xe none (EP X pins σ Q) (.ref D) z3.heap.objs.size) z4 := by
    refine loopA turn0 (hs1 ce) (fun n z => ∃ i H', Inv (X.blk z3 H3 scope ce fp) [] (wipe σ (own.map (·.2))) H' z ∧ tn i z.heap ∧ (∀ b ∈ fp, H' b = none) ∧ W i n H') ?_ m0 ⟨0, H3, I4, st4, nfp, w0⟩
    rintro n z5 ⟨i, H5, I5, st5, n5, w5⟩
    rcases turn i n H5 w5 with ⟨stp, qq⟩ | ⟨go, Nx, hNx, step⟩
    · refine thnF (T.done (X.blk z3 H3 scope ce fp) rfl rfl rfl hc i [] z5 _ H5 (fun _ _ => False) I5 (stat I5 n5) st5 stp) fun r z6 ⟨hr, I6⟩ => ?_
      subst hr
      have I7 : Inv X pins σ H5 z6 := I3.call' (ch := fp) I6.os I6.base I6.hok I6.bare fun b hb => ⟨(fr3 b hb).1.2.2.2.1, (fr3 b hb).1.2.1, (fr3 b hb).1.2.2.2.2.1, (fr3 b hb).1.2.2.2.2.2⟩
      have nC : H5 z3.heap.objs.size = none := by
        have y : H5 ce.locals = none := I6.free
        rw [cL] at y
        exact y
      obtain ⟨m, hn, _⟩ := I6.loc
      have hn : z6.heap.Ns ce.locals m := hn
      rw [cL] at hn
      obtain ⟨a0, a1, a2, a3, a4, a5⟩ := I3.fpOk (Nat.le_refl _) nC
      exact ⟨m, hn, fun hh sb => ⟨.ref D, H5, I7.turned (t' := z6.toks) (fun b o hb e => (sb.2 b hb).trans e) a0 a1 a3 a4 a5, rfl, qq⟩⟩
    · refine thnF (T.item (X.blk z3 H3 scope ce fp) rfl rfl rfl hc i [] z5 _ H5 (fun _ _ => False) I5 (stat I5 n5) st5 go) fun r z6 ⟨u, hr, h6⟩ => ?_
      subst hr
      refine thnF h6 fun _ z7 ⟨x, H7, I7, rv7, yd7, st7, n7⟩ => ?_
      have I7p := I7.pinned (stat I7 n7) (T.obj _ _ st7)
      refine thnF (pg.run _ z7 _ H7 x u _ I7p rv7 (step x H7 yd7)) fun _ z8 ⟨σ8, H8, I8, hw8, q8⟩ => ?_
      refine thnF (pt.run _ z8 σ8 H8 _ I8 q8) fun b z9 ⟨H9, I9, q9⟩ => ?_
      have fin : ∀ {σ9 : L2.St} {z : Shared} {H' : Hp}, Inv (X.blk z3 H3 scope ce fp) ([] ++ pinsAt fp z7.heap) σ9 H' z → (wipe σ (own.map (·.2))).length = σ9.length → (∀ (j : Nat) (v : V), (wipe σ (own.map (·.2)))[j]? = some (some v) → σ9[j]? = some (some v)) → Nx H' →
          ∃ m, m < n ∧ ∃ i H', Inv (X.blk z3 H3 scope ce fp) [] (wipe σ (own.map (·.2))) H' z ∧ tn i z.heap ∧ (∀ b ∈ fp, H' b = none) ∧ W i m H' := fun {σ9 z H'} I' hl hk nx => by
        obtain ⟨m', lt, w'⟩ := hNx H' nx
        have held : ∀ b ∈ fp, ∀ o, z7.heap.get? b = some o → z.heap.get? b = some o ∧ H' b = none := fun b hb o e =>
          let y := I'.pin (b, o) (List.mem_append_right _ (List.mem_append_right _ (mem_pinsAt hb e)))
          ⟨y.1, y.2.1⟩
        refine ⟨m', lt, i + 1, H', (I'.unpinned (pins := [])).weak hl hk, T.keep _ _ _ st7 fun b hb o e => (held b hb o e).1, fun b hb => ?_, w'⟩
        obtain ⟨o, e, _⟩ := T.obj _ _ st7 b hb
        exact (held b hb o e).2
      have l8 : (wipe σ (own.map (·.2))).length = σ8.length := by rw [← hw8, wipe_length]
      cases b with
      | false =>
        simp only [Bool.false_eq_true, if_false] at q9 ⊢
        exact fin I9 l8 (fun j v e => by rw [← hw8] at e; exact (wipe_some e).1) q9
      | true =>
        simp only [if_true] at q9 ⊢
        refine thnF (runA (us := vs2) hc hw pi1 pg1 pt1 (hs2 ce) (fun pins σ H s N I h => runZ hc pi2 pg2 pt2 pe I h) I9 q9) fun y z10 h10 => thnF h10 fun jt2 z11 h11 => codeAny_mono h11 fun r z hr => ?_
        cases r with
        | error er => exact hr.elim
        | ok fl =>
          obtain ⟨H', I', n'⟩ := hr
          exact fin I' (l8.trans (wipe_length σ8 vs1).symm) (weaken hw8 hv) n'
  exact codeAny_compStart_list lp (T.self X.A 0 _ _ _ st4 lp)
end
end Lc3

namespace TT
open PySem PySem.Spec PyProof.Rows L2
variable {X : Cx}
/-- t[lo:hi] of a tuple that is told: a told tuple -/
def rSlT2 (K : PySem.W.Frag) : V → Option Int → Option Int → Hp → VK → Prop := fun x lo hi H Q => ∃ a xs, x = .ref a ∧ H a = some (.tup xs) ∧ ∀ (p : Addr) (H' : Hp), Same H H' → H' p = some (.tup (cutV xs lo hi)) → Q (.ref p) H'
theorem sl_t : SlR X (rSlT2 X.K) := by
  intro pins s σ H x v vl vu lo hi sl Q I rx hs pl pu ⟨a, xs, ex, hx, q⟩
  refine sl_tupA pins s σ H x v vl vu lo hi sl Q I rx hs pl pu ⟨a, xs, ex, .inl (.inl hx), fun hw => q a H (Same.refl H) (by rw [TX.cut_whole hw]; exact hx), fun _ p np => q p _ (fun b o e => ?_) upd_same⟩
  rw [upd_ne (ne_of_none e np)]
  exact e
/-- t + u of told tuples -/
def rCatT2 (K : PySem.W.Frag) : R2 := fun x y H Q => ∃ a b xs ys, x = .ref a ∧ y = .ref b ∧ H a = some (.tup xs) ∧ H b = some (.tup ys) ∧ xs.length + ys.length ≤ sizeLine ∧ ∀ (p : Addr) (H' : Hp), Same H H' → H' p = some (.tup (xs ++ ys)) → Q (.ref p) H'
theorem op_cat_t : OpR X (binaryOp .Add) (rCatT2 X.K) := by
  intro pins s σ H x y v u Q I rx ry ⟨a, b, xs, ys, ex, ey, ha, hb, hz, q⟩
  refine op_catA pins s σ H x y v u Q I rx ry ⟨a, b, xs, ys, ex, ey, .inl (.inl ha), .inl (.inl hb), hz, fun e => q b H (Same.refl H) (by rw [e]; exact hb), fun _ e => q a H (Same.refl H) (by rw [e, List.append_nil]; exact ha), fun _ _ p np => q p _ (fun b o e => ?_) upd_same⟩
  rw [upd_ne (ne_of_none e np)]
  exact e
end TT

namespace InT
open PySem PySem.Spec PyProof.Rows L2
variable {X : Cx}
/-- x in t, t a tuple of data -/
def rInT (K : PySem.W.Frag) : R2 := fun x y H Q => ∃ d ds, Dp K H x d ∧ Dp K H y (.tuple ds) ∧ SeqAt.shaped d = true ∧ SeqAt.shaped (.tuple ds) = true ∧ Q (.bl (ds.any fun z => PyData.eqv z d)) H
theorem op_inT (hu : X.A.units + 65 < cLine) : OpR X (compareOp .In) (rInT X.K) := by
  intro pins s σ H x y v u Q I rx ry h
  obtain ⟨d, ds, hd, he, sd, se, q⟩ := h
  obtain ⟨as, r1⟩ := Dp.reads I d x v hd rx
  obtain ⟨bs, r2⟩ := Dp.reads I (.tuple ds) y u he ry
  exact SeqAt.in_tuple_reads r2 r1 (SeqAt.canLay_of_shaped se) (SeqAt.canLay_of_shaped sd) (room_in_shaped sd hu) ⟨.bl _, H, I, rfl, q⟩
theorem u65 {k : Nat} {A : Around} (r : Room k A) : A.units + 65 < cLine := by have := r.un; omega
end InT

/-! a for over a list or a tuple -/
namespace Eith
open PySem PySem.Spec PyProof.Rows L2
variable {X : Cx} {tg l : Expr} {tl : TE}
theorem pi_either (hl : PE X l tl) : PI X tg l (fun σ H R => iList X.K tl σ H R ∨ iTup X.K tl σ H R) :=
  ⟨fun pins s σ H R I h => h.elim ((pi_list hl).run pins s σ H R I) ((pi_tup hl).run pins s σ H R I)⟩
end Eith

namespace Tw
open PySem PySem.Spec PyProof.Rows L2
/-! what the laws' helpers do to the heap: the draws at d shrink, all else stands -/
def DrA (H : Hp) (d : Addr) : Prop := ∃ ns : List Int, H d = some (.lst (ns.map V.int))
structure Dr (d : Addr) (H H' : Hp) : Prop where
  keep : ∀ b o, b ≠ d → H b = some o → H' b = some o
  at_ : DrA H' d
theorem Dr.refl {d : Addr} {H : Hp} (h : DrA H d) : Dr d H H := ⟨fun _ _ _ e => e, h⟩
theorem Dr.trans {d : Addr} {H H1 H2 : Hp} (a : Dr d H H1) (b : Dr d H1 H2) : Dr d H H2 := ⟨fun c o n e => b.keep c o n (a.keep c o n e), b.at_⟩
theorem Dr.then {d : Addr} {H H1 H2 : Hp} (a : Dr d H H1) (b : Same H1 H2) : Dr d H H2 := ⟨fun c o n e => b c o (a.keep c o n e), let ⟨ns, q⟩ := a.at_; ⟨ns, b d _ q⟩⟩
theorem Dr.of {d : Addr} {H H1 : Hp} (h : DrA H d) (b : Same H H1) : Dr d H H1 := (Dr.refl h).then b
theorem Dr.free {d : Addr} {H H' : Hp} (a : Dr d H H') (h : DrA H d) {l : Addr} (n : H' l = none) : H l = none := by
  cases q : H l with
  | none => rfl
  | some o =>
    by_cases e : l = d
    · obtain ⟨_, z⟩ := a.at_
      rw [e, z] at n
      cases n
    · rw [a.keep l o e q] at n
      cases n
theorem Dr.ne {d : Addr} {H H' : Hp} (a : Dr d H H') {l : Addr} (n : H' l = none) : l ≠ d := fun e => by
  obtain ⟨_, z⟩ := a.at_
  rw [e, z] at n
  cases n
theorem Dr.seq {K : PySem.W.Frag} {d a : Addr} {H H' : Hp} {xs : List V} (r : Dr d H H') (ne : a ≠ d) (h : SqL K H a xs) : SqL K H' a xs := by
  rcases h with (h | ⟨o, h⟩) | h
  · exact .inl (.inl (r.keep _ _ ne h))
  · exact .inl (.inr ⟨o, r.keep _ _ ne h⟩)
  · exact .inr h
theorem same_new {H : Hp} {p : Addr} {o : HO} (h : H p = none) : Same H (upd H p o) := fun b x e => by
  rw [upd_ne (ne_of_none e h)]
  exact e
theorem drA_upd {H : Hp} {d : Addr} (ns : List Int) : DrA (upd H d (.lst (ns.map V.int))) d := ⟨ns, upd_same⟩
theorem dr_upd {H : Hp} {d : Addr} (ns : List Int) : Dr d H (upd H d (.lst (ns.map V.int))) := ⟨fun b o n e => by rw [upd_ne n]; exact e, drA_upd ns⟩
theorem at_last {α : Type} {xs : List α} (h : xs ≠ []) : xs[xs.length - 1]? = some (xs.getLast h) := by
  rw [← List.getLast?_eq_getElem?, List.getLast?_eq_getLast h]
theorem map_at {ns : List Int} {i : Nat} (h : i < ns.length) : (ns.map V.int)[i]? = some (.int ns[i]) := by
  rw [List.getElem?_map, List.getElem?_eq_getElem h]
  rfl
theorem sline : (2000 : Nat) < sizeLine := by decide
theorem small {n : Nat} (h : n ≤ 2000) : n < sizeLine := Nat.lt_of_le_of_lt h sline
theorem small' {n : Nat} (h : n ≤ 2000) : n ≤ sizeLine := Nat.le_of_lt (small h)
theorem atI_z {α : Type} {xs : List α} {z : Int} {j : Nat} {v : α} (e : z = (j : Int)) (h : xs[j]? = some v) : atI xs z = some v := by
  rw [e]
  exact atI_nat h
theorem atI_pos {α : Type} {xs : List α} {z : Int} (h0 : 0 ≤ z) (h1 : z < xs.length) : atI xs z = some (xs[z.toNat]'(by omega)) :=
  atI_z (j := z.toNat) (by omega) (List.getElem?_eq_getElem (by omega))
theorem atM_pos {ns : List Int} {z : Int} (h0 : 0 ≤ z) (h1 : z < ns.length) : atI (ns.map V.int) z = some (.int (ns[z.toNat]'(by omega))) :=
  atI_z (j := z.toNat) (by omega) (map_at (by omega))
/-- an address that was not there at the beginning may be written -/
theorem Dr.keepNew {d p : Addr} {H H' : Hp} {o : HO} (r : Dr d H H') (ne : p ≠ d) (n : H p = none) : Dr d H (upd H' p o) :=
  ⟨fun b x nb e => by rw [upd_ne (ne_of_none e n)]; exact r.keep b x nb e, let ⟨ns, z⟩ := r.at_; ⟨ns, by rw [upd_ne ne.symm]; exact z⟩⟩
/-- the script is read behind every draw -/
theorem Dr.script {K : PySem.W.Frag} {d a : Addr} {H H1 H' : Hp} {xs : List V} (h : SqL K H a xs) (n : H d = none) (s : Same H H1) (r : Dr d H1 H') : SqL K H' a xs := by
  rcases h with (h | ⟨o, h⟩) | h
  · exact .inl (.inl (r.keep _ _ (ne_of_none h n) (s _ _ h)))
  · exact .inl (.inr ⟨o, r.keep _ _ (ne_of_none h n) (s _ _ h)⟩)
  · exact .inr h
theorem same_keep {H H' : Hp} {p : Addr} {o : HO} (s : Same H H') (n : H p = none) : Same H (upd H' p o) := fun b x e => by
  rw [upd_ne (ne_of_none e n)]
  exact s b x e

/-! a plan in the heap -/
structure Mt where
  name : Str
  low : Int
  high : Int
  err : Int
structure Pl where
  len : Int
  ms : List Mt
def MtAt (H : Hp) (t : Addr) (m : Mt) : Prop := H t = some (.tup [.str m.name, .int m.low, .int m.high, .int m.err])
structure PlanAt (H : Hp) (p tm : Addr) (ts : List Addr) (P : Pl) : Prop where
  top : H p = some (.tup [.int P.len, .ref tm])
  mid : H tm = some (.tup (ts.map V.ref))
  low : Paired (MtAt H) ts P.ms
/-- the names in the order of the alphabet, each once -/
def Risen (l : List Str) : Prop := sortedS l = true ∧ l.Nodup
structure MtOk (c : Int) (m : Mt) : Prop where
  order : m.low ≤ m.high
  err0 : 0 ≤ m.err
  err1 : m.err ≤ 60
  lowB : m.low.natAbs ≤ c.natAbs + 3
  highB : m.high.natAbs ≤ 2 * c.natAbs + 3 + 10 ^ 20
structure PlanOk (c : Int) (P : Pl) : Prop where
  len : 1 ≤ P.len
  lenB : P.len ≤ c.natAbs + 60
  some_ : P.ms ≠ []
  few : P.ms.length ≤ 6
  risen : Risen (P.ms.map Mt.name)
  each : ∀ m ∈ P.ms, MtOk c m
theorem Dr.tup {d t : Addr} {H H' : Hp} {xs : List V} (r : Dr d H H') (h : DrA H d) (e : H t = some (.tup xs)) : H' t = some (.tup xs) := by
  obtain ⟨ns, z⟩ := h
  exact r.keep _ _ (ne_of e z (fun q => nomatch q)) e
theorem Dr.mts {d : Addr} {H H' : Hp} (r : Dr d H H') (h : DrA H d) : ∀ {ts : List Addr} {ms : List Mt}, Paired (MtAt H) ts ms → Paired (MtAt H') ts ms
  | _, _, .nil => .nil
  | _, _, .cons a b => .cons (r.tup h a) (Dr.mts r h b)
theorem Dr.plan {d p tm : Addr} {H H' : Hp} {ts : List Addr} {P : Pl} (r : Dr d H H') (h : DrA H d) (x : PlanAt H p tm ts P) : PlanAt H' p tm ts P := ⟨r.tup h x.top, r.tup h x.mid, r.mts h x.low⟩
theorem same_mts {H H' : Hp} (r : Same H H') : ∀ {ts : List Addr} {ms : List Mt}, Paired (MtAt H) ts ms → Paired (MtAt H') ts ms
  | _, _, .nil => .nil
  | _, _, .cons a b => .cons (r _ _ a) (same_mts r b)
theorem PlanAt.same {p tm : Addr} {H H' : Hp} {ts : List Addr} {P : Pl} (r : Same H H') (x : PlanAt H p tm ts P) : PlanAt H' p tm ts P := ⟨r _ _ x.top, r _ _ x.mid, same_mts r x.low⟩
theorem pick {xs : List Int} {vs : List V} {k : Int} (e : vs = xs.map V.int) (h0 : 0 ≤ k) (h1 : k < xs.length) : ∃ v, v ∈ xs ∧ atI vs k = some (.int v) := by
  rw [e]
  exact ⟨_, List.getElem_mem _, atM_pos h0 h1⟩
theorem abs_eq (c : Int) : (if c < 0 then -c else c) = (c.natAbs : Int) := by
  by_cases h : c < 0
  · rw [if_pos h]
    omega
  · rw [if_neg h]
    omega
theorem paired_snoc {α β : Type} {R : α → β → Prop} {xs : List α} {ys : List β} {a : α} {b : β} (h : Paired R xs ys) (r : R a b) : Paired R (xs ++ [a]) (ys ++ [b]) := h.snoc r
theorem map_snoc {ts : List Addr} {t : Addr} : ts.map V.ref ++ [V.ref t] = (ts ++ [t]).map V.ref := by
  rw [List.map_append]
  rfl
/-- a name: letters a to z, one or more, not many -/
def IsW (w : Str) : Prop := w.cps.toList ≠ [] ∧ (∀ c ∈ w.cps.toList, 97 ≤ c ∧ c ≤ 122) ∧ w.length ≤ 200
theorem mts_at {H : Hp} : ∀ {ts : List Addr} {ms : List Mt} {i : Nat} {t : Addr}, Paired (MtAt H) ts ms → ts[i]? = some t → ∃ m, ms[i]? = some m ∧ MtAt H t m
  | _, _, _, _, .nil, h => by simp at h
  | _, _, 0, _, .cons a _, h => by
    cases (Option.some.inj h)
    exact ⟨_, rfl, a⟩
  | _, _, i + 1, _, .cons _ r, h => mts_at (i := i) r h
def mtOf (H : Hp) (t : Addr) : Mt := match H t with
  | some (.tup [.str n, .int a, .int b, .int c]) => ⟨n, a, b, c⟩
  | _ => ⟨⟨#[]⟩, 0, 0, 0⟩
theorem mtOf_at {H : Hp} {t : Addr} {m : Mt} (h : MtAt H t m) : mtOf H t = m := by
  unfold mtOf
  rw [show H t = some (.tup [.str m.name, .int m.low, .int m.high, .int m.err]) from h]
theorem mts_map {H : Hp} : ∀ {ts : List Addr} {ms : List Mt}, Paired (MtAt H) ts ms → ms = ts.map (mtOf H) ∧ ∀ t ∈ ts, MtAt H t (mtOf H t)
  | _, _, .nil => ⟨rfl, fun _ z => nomatch z⟩
  | t :: ts, _ :: ms, .cons a r => by
    obtain ⟨e, k⟩ := mts_map r
    refine ⟨by rw [List.map_cons, mtOf_at a, ← e], fun x hx => ?_⟩
    rcases List.mem_cons.mp hx with rfl | z
    · rw [mtOf_at a]
      exact a
    · exact k x z
theorem mts_of {H : Hp} : ∀ (ts : List Addr), (∀ t ∈ ts, MtAt H t (mtOf H t)) → Paired (MtAt H) ts (ts.map (mtOf H))
  | [], _ => .nil
  | t :: ts, h => .cons (h t List.mem_cons_self) (mts_of ts fun x hx => h x (List.mem_cons_of_mem _ hx))
theorem refs_perm {ys : List V} {ts : List Addr} (p : ys.Perm (ts.map V.ref)) : ∃ us : List Addr, ys = us.map V.ref ∧ us.Perm ts := by
  have g : ∀ ys : List V, (∀ y ∈ ys, ∃ t, y = V.ref t) → ∃ us : List Addr, ys = us.map V.ref := by
    intro ys
    induction ys with
    | nil => exact fun _ => ⟨[], rfl⟩
    | cons y ys ih =>
      intro h
      obtain ⟨t, rfl⟩ := h y List.mem_cons_self
      obtain ⟨us, e⟩ := ih fun u hu => h u (List.mem_cons_of_mem _ hu)
      exact ⟨t :: us, by rw [e]; rfl⟩
  obtain ⟨us, rfl⟩ := g ys fun y hy => by
    obtain ⟨t, _, e⟩ := List.mem_map.mp (p.mem_iff.mp hy)
    exact ⟨t, e.symm⟩
  refine ⟨us, rfl, ?_⟩
  have q := p.map (fun v => match v with | .ref a => a | _ => 0)
  rw [List.map_map, List.map_map] at q
  have e : ∀ l : List Addr, l.map ((fun v => match v with | .ref a => a | _ => 0) ∘ V.ref) = l := fun l => by
    have : ((fun v => match v with | V.ref a => a | _ => 0) ∘ V.ref) = (id : Addr → Addr) := rfl
    rw [this, List.map_id]
  rw [e, e] at q
  exact q
theorem in_names {x : Str} : ∀ ns : List Str, inV (.str x) (ns.map V.str) = decide (x ∈ ns)
  | [] => by simp [inV]
  | n :: ns => by
    have ih := in_names (x := x) ns
    unfold inV at ih ⊢
    rw [List.map_cons, List.any_cons, ih]
    by_cases e : n = x
    · subst e
      simp [eqV]
    · have e1 : eqV (.str n) (.str x) = false := beq_eq_false_iff_ne.mpr e
      have e2 : ¬ x = n := fun z => e z.symm
      rw [e1, Bool.false_or, decide_eq_decide]
      simp [List.mem_cons, e2]
theorem flat_names (ns : List Str) : (ns.map V.str).all flatV = true := by
  rw [List.all_map, List.all_eq_true]
  exact fun _ _ => rfl

/-! a list or a tuple, walked -/
theorem pi_either {X : Cx} {tg l : Expr} {tl : TE} (hl : PE X l tl) : PI X tg l (fun σ H R => iList X.K tl σ H R ∨ iTup X.K tl σ H R) :=
  ⟨fun pins s σ H R I h => h.elim ((pi_list hl).run pins s σ H R I) ((pi_tup hl).run pins s σ H R I)⟩
/-! texts -/
theorem str_ext {a b : Str} (h : a.cps.toList = b.cps.toList) : a = b := by
  cases a with
  | mk x =>
    cases b with
    | mk y =>
      congr 1
      exact Array.ext' h
theorem cps_app (a b : Str) : (a ++ b).cps.toList = a.cps.toList ++ b.cps.toList := by
  show (a.cps ++ b.cps).toList = _
  simp
theorem len_app (a b : Str) : (a ++ b).length = a.length + b.length := by
  show (a.cps ++ b.cps).size = a.cps.size + b.cps.size
  simp
theorem app_assoc (a b c : Str) : a ++ b ++ c = a ++ (b ++ c) := str_ext (by simp only [cps_app, List.append_assoc])
theorem app_empty (a : Str) : a ++ Str.empty = a := str_ext (by rw [cps_app]; exact List.append_nil _)
theorem empty_app (a : Str) : Str.empty ++ a = a := str_ext (by rw [cps_app]; rfl)
/-! letters of a bag -/
inductive Lt where
  | read (n : Str) (slot ver at_ : Int) (v : Option Int)
  | close (n : Str) (aft at_ wit : Int)
  | clock (n : Str) (lo hi : Int)
def optV : Option Int → V
  | none => .non
  | some i => .int i
def Lt.vals : Lt → List V
  | .read n s v a x => [.str "read", .str n, .int s, .int v, .int a, optV x]
  | .close n f a w => [.str "close", .str n, .int f, .int a, .int w]
  | .clock n l h => [.str "clock", .str n, .int l, .int h]
def Lt.name : Lt → Str
  | .read n _ _ _ _ => n
  | .close n _ _ _ => n
  | .clock n _ _ => n
abbrev intT (i : Int) : Str := ((toString i : String) : Str)
def optT : Option Int → Str
  | none => "void"
  | some i => intT i
def Lt.words : Lt → List Str
  | .read n s v a x => ["read", n, "slot", intT s, "version", intT v, "at", intT a, "is", optT x]
  | .close n f a w => ["close", n, "after", intT f, "at", intT a, "with", intT w]
  | .clock n l h => ["clock", n, "from", intT l, "to", intT h]
def Lt.line (l : Lt) : Str := Txt.join " " l.words
/-- a number of at most 60 digits -/
def Nr (i : Int) : Prop := i.natAbs < 10 ^ 60
def Lt.Ok : Lt → Prop
  | .read n s v a x => IsW n ∧ 1 ≤ s ∧ 0 ≤ v ∧ Nr s ∧ Nr v ∧ Nr a ∧ ∀ i, x = some i → Nr i
  | .close n f a w => IsW n ∧ 0 ≤ f ∧ 0 ≤ w ∧ Nr f ∧ Nr a ∧ Nr w
  | .clock n l h => IsW n ∧ Nr l ∧ Nr h
def LtAt (H : Hp) (t : Addr) (l : Lt) : Prop := H t = some (.tup l.vals)
theorem Nr.log {i : Int} (h : Nr i) : i.natAbs.log2 < 1920 := by
  by_cases e : i.natAbs = 0
  · rw [e]
    decide
  · refine (Nat.log2_lt e).mpr (Nat.lt_trans h ?_)
    decide
theorem Nr.len {i : Int} (h : Nr i) : (intT i).length ≤ 61 := by
  have e := int_text_length_le10 (k := 60) (by decide) h
  show (Str.ofString (toString i)).length ≤ 61
  rw [PySem.ofString_length]
  exact e
theorem optT_len {x : Option Int} (h : ∀ i, x = some i → Nr i) : (optT x).length ≤ 61 := by
  cases x with
  | none => decide +kernel
  | some i => exact (h i rfl).len
/-- the line of a letter and its newline -/
def Lt.row (l : Lt) : Str := l.line ++ ("\n" : Str)
def rows (ls : List Lt) : Str := Txt.join "" (ls.map Lt.row)
theorem join_one (s a : Str) : Txt.join s [a] = a := rfl
theorem line_read (n : Str) (s v a : Int) (x : Option Int) : (Lt.read n s v a x).line = ("read " : Str) ++ n ++ (" slot " : Str) ++ intT s ++ (" version " : Str) ++ intT v ++ (" at " : Str) ++ intT a ++ (" is " : Str) ++ optT x := by
  have c1 : ("read " : Str) = ("read" : Str) ++ (" " : Str) := by decide +kernel
  have c2 : (" slot " : Str) = (" " : Str) ++ ("slot" : Str) ++ (" " : Str) := by decide +kernel
  have c3 : (" version " : Str) = (" " : Str) ++ ("version" : Str) ++ (" " : Str) := by decide +kernel
  have c4 : (" at " : Str) = (" " : Str) ++ ("at" : Str) ++ (" " : Str) := by decide +kernel
  have c5 : (" is " : Str) = (" " : Str) ++ ("is" : Str) ++ (" " : Str) := by decide +kernel
  rw [c1, c2, c3, c4, c5]
  show ("read" : Str) ++ (" " : Str) ++ n ++ (" " : Str) ++ ("slot" : Str) ++ (" " : Str) ++ intT s ++ (" " : Str) ++ ("version" : Str) ++ (" " : Str) ++ intT v ++ (" " : Str) ++ ("at" : Str) ++ (" " : Str) ++ intT a ++ (" " : Str) ++ ("is" : Str) ++ (" " : Str) ++ optT x = _
  simp only [app_assoc]
theorem line_close (n : Str) (f a w : Int) : (Lt.close n f a w).line = ("close " : Str) ++ n ++ (" after " : Str) ++ intT f ++ (" at " : Str) ++ intT a ++ (" with " : Str) ++ intT w := by
  have c1 : ("close " : Str) = ("close" : Str) ++ (" " : Str) := by decide +kernel
  have c2 : (" after " : Str) = (" " : Str) ++ ("after" : Str) ++ (" " : Str) := by decide +kernel
  have c4 : (" at " : Str) = (" " : Str) ++ ("at" : Str) ++ (" " : Str) := by decide +kernel
  have c5 : (" with " : Str) = (" " : Str) ++ ("with" : Str) ++ (" " : Str) := by decide +kernel
  rw [c1, c2, c4, c5]
  show ("close" : Str) ++ (" " : Str) ++ n ++ (" " : Str) ++ ("after" : Str) ++ (" " : Str) ++ intT f ++ (" " : Str) ++ ("at" : Str) ++ (" " : Str) ++ intT a ++ (" " : Str) ++ ("with" : Str) ++ (" " : Str) ++ intT w = _
  simp only [app_assoc]
theorem line_clock (n : Str) (l h : Int) : (Lt.clock n l h).line = ("clock " : Str) ++ n ++ (" from " : Str) ++ intT l ++ (" to " : Str) ++ intT h := by
  have c1 : ("clock " : Str) = ("clock" : Str) ++ (" " : Str) := by decide +kernel
  have c2 : (" from " : Str) = (" " : Str) ++ ("from" : Str) ++ (" " : Str) := by decide +kernel
  have c4 : (" to " : Str) = (" " : Str) ++ ("to" : Str) ++ (" " : Str) := by decide +kernel
  rw [c1, c2, c4]
  show ("clock" : Str) ++ (" " : Str) ++ n ++ (" " : Str) ++ ("from" : Str) ++ (" " : Str) ++ intT l ++ (" " : Str) ++ ("to" : Str) ++ (" " : Str) ++ intT h = _
  simp only [app_assoc]
theorem Lt.Ok.word {l : Lt} (h : l.Ok) : IsW l.name := by
  cases l <;> exact h.1
theorem Lt.Ok.row_len {l : Lt} (h : l.Ok) : l.row.length ≤ 1000 := by
  show (l.line ++ ("\n" : Str)).length ≤ 1000
  have w := h.word.2.2
  have k1 : (("\n" : Str)).length ≤ 10 := by decide +kernel
  cases l with
  | read n s v a x =>
    obtain ⟨_, _, _, a1, a2, a3, a4⟩ := h
    have b1 := a1.len
    have b2 := a2.len
    have b3 := a3.len
    have b4 := optT_len a4
    have d1 : (("read " : Str)).length ≤ 10 := by decide +kernel
    have d2 : ((" slot " : Str)).length ≤ 10 := by decide +kernel
    have d3 : ((" version " : Str)).length ≤ 10 := by decide +kernel
    have d4 : ((" at " : Str)).length ≤ 10 := by decide +kernel
    have d5 : ((" is " : Str)).length ≤ 10 := by decide +kernel
    have w' : n.length ≤ 200 := w
    rw [line_read]
    simp only [len_app]
    omega
  | close n f a v =>
    obtain ⟨_, _, _, a1, a2, a3⟩ := h
    have b1 := a1.len
    have b2 := a2.len
    have b3 := a3.len
    have d1 : (("close " : Str)).length ≤ 10 := by decide +kernel
    have d2 : ((" after " : Str)).length ≤ 10 := by decide +kernel
    have d3 : ((" with " : Str)).length ≤ 10 := by decide +kernel
    have d4 : ((" at " : Str)).length ≤ 10 := by decide +kernel
    have w' : n.length ≤ 200 := w
    rw [line_close]
    simp only [len_app]
    omega
  | clock n lo hi =>
    obtain ⟨_, a1, a2⟩ := h
    have b1 := a1.len
    have b2 := a2.len
    have d1 : (("clock " : Str)).length ≤ 10 := by decide +kernel
    have d2 : ((" from " : Str)).length ≤ 10 := by decide +kernel
    have d3 : ((" to " : Str)).length ≤ 10 := by decide +kernel
    have w' : n.length ≤ 200 := w
    rw [line_clock]
    simp only [len_app]
    omega
theorem isW_no10 {n : Str} (h : IsW n) : 10 ∉ n.cps.toList := fun z => by
  have := h.2.1 10 z
  omega
theorem int_no10 (i : Int) : 10 ∉ (intT i).cps.toList := PyProof.Rows.int_text_free' 10 ⟨by decide, .inl (by decide)⟩ i
theorem opt_no10 (x : Option Int) : 10 ∉ (optT x).cps.toList := by
  cases x with
  | none => decide +kernel
  | some i => exact int_no10 i
theorem Lt.Ok.no10 {l : Lt} (h : l.Ok) : 10 ∉ l.line.cps.toList := by
  have w := isW_no10 h.word
  cases l with
  | read n s v a x =>
    have w' : 10 ∉ n.cps.toList := w
    rw [line_read]
    simp only [cps_app, List.mem_append, not_or]
    exact ⟨⟨⟨⟨⟨⟨⟨⟨⟨by decide +kernel, w'⟩, by decide +kernel⟩, int_no10 _⟩, by decide +kernel⟩, int_no10 _⟩, by decide +kernel⟩, int_no10 _⟩, by decide +kernel⟩, opt_no10 _⟩
  | close n f a v =>
    have w' : 10 ∉ n.cps.toList := w
    rw [line_close]
    simp only [cps_app, List.mem_append, not_or]
    exact ⟨⟨⟨⟨⟨⟨⟨by decide +kernel, w'⟩, by decide +kernel⟩, int_no10 _⟩, by decide +kernel⟩, int_no10 _⟩, by decide +kernel⟩, int_no10 _⟩
  | clock n lo hi =>
    have w' : 10 ∉ n.cps.toList := w
    rw [line_clock]
    simp only [cps_app, List.mem_append, not_or]
    exact ⟨⟨⟨⟨⟨by decide +kernel, w'⟩, by decide +kernel⟩, int_no10 _⟩, by decide +kernel⟩, int_no10 _⟩
theorem rows_eq (ls : List Lt) : rows ls = Str.join "" (ls.map Lt.row) := PySem.StrLaws.glued_eq_join _ _
theorem rows_cons (l : Lt) (ls : List Lt) : rows (l :: ls) = l.row ++ rows ls := by
  rw [rows_eq, rows_eq]
  cases ls with
  | nil =>
    show l.row = l.row ++ Str.empty
    rw [app_empty]
  | cons m ms =>
    show l.row ++ ("" : Str) ++ Str.join "" (m.row :: ms.map Lt.row) = l.row ++ Str.join "" (m.row :: ms.map Lt.row)
    have e : ("" : Str) = Str.empty := by decide +kernel
    rw [e, app_empty]
theorem sum_rows : ∀ {ls : List Lt}, (∀ l ∈ ls, l.Ok) → ((ls.map Lt.row).map (·.length)).sum ≤ ls.length * 1000
  | [], _ => Nat.le_refl 0
  | l :: ls, h => by
    have a := (h l List.mem_cons_self).row_len
    have b := sum_rows (ls := ls) fun m hm => h m (List.mem_cons_of_mem _ hm)
    simp only [List.map_cons, List.sum_cons, List.length_cons]
    omega
theorem rows_fit {ls : List Lt} {n : Nat} (h : ∀ l ∈ ls, l.Ok) (hn : ls.length ≤ n) (h2 : n ≤ 16000) : ((ls.map Lt.row).map (·.length)).sum + (ls.map Lt.row).length * (("" : Str)).length ≤ 16777216 := by
  have a := sum_rows h
  have e : (("" : Str)).length = 0 := by decide +kernel
  rw [e, Nat.mul_zero, Nat.add_zero]
  omega
theorem same_lts {H H' : Hp} (r : Same H H') : ∀ {ts : List Addr} {ls : List Lt}, Paired (LtAt H) ts ls → Paired (LtAt H') ts ls
  | _, _, .nil => .nil
  | _, _, .cons a b => .cons (r _ _ a) (same_lts r b)
theorem Dr.lts {d : Addr} {H H' : Hp} (r : Dr d H H') (h : DrA H d) : ∀ {ts : List Addr} {ls : List Lt}, Paired (LtAt H) ts ls → Paired (LtAt H') ts ls
  | _, _, .nil => .nil
  | _, _, .cons a b => .cons (r.tup h a) (Dr.lts r h b)
theorem lts_at {H : Hp} : ∀ {ts : List Addr} {ls : List Lt} {i : Nat} {t : Addr}, Paired (LtAt H) ts ls → ts[i]? = some t → ∃ l, ls[i]? = some l ∧ LtAt H t l
  | _, _, _, _, .nil, h => by simp at h
  | _, _, 0, _, .cons a _, h => by
    cases (Option.some.inj h)
    exact ⟨_, rfl, a⟩
  | _, _, i + 1, _, .cons _ r, h => lts_at (i := i) r h
theorem nl_eq : ("\n" : Str) = ⟨#[10]⟩ := by decide +kernel
theorem find_nl {z : Str} {a b : List Nat} (h : z.cps.toList = a ++ 10 :: b) (h0 : 10 ∉ a) : Txt.find z "\n" = (a.length : Int) := by
  rw [nl_eq]
  have at_ : z.cps.toList[a.length]? = some 10 := by rw [h]; simp
  rcases PyProof.Rows.find_whole z ⟨#[10]⟩ with ⟨_, n⟩ | ⟨i, e, hi, n⟩
  · exact absurd ((StrLaws.subAt_one z 10 a.length).mpr at_) (n a.length)
  · have q := (StrLaws.subAt_one z 10 i).mp hi
    rw [e]
    rcases Nat.lt_trichotomy i a.length with z' | z' | z'
    · exfalso
      rw [h, List.getElem?_append_left z', List.getElem?_eq_getElem z'] at q
      exact h0 (by rw [← Option.some.inj q]; exact List.getElem_mem z')
    · rw [z']
    · exact absurd ((StrLaws.subAt_one z 10 a.length).mpr at_) (n a.length z')
theorem find_nil : Txt.find Str.empty "\n" = -1 := by
  rw [nl_eq]
  rcases PyProof.Rows.find_whole Str.empty ⟨#[10]⟩ with ⟨e, _⟩ | ⟨i, e, hi, n⟩
  · exact e
  · have q := (StrLaws.subAt_one Str.empty 10 i).mp hi
    exact absurd q (by simp [Str.empty])
theorem cut_to (z : Str) (k : Nat) : cutS z none (some (k : Int)) = ⟨(z.cps.toList.take k).toArray⟩ := by
  have e : z.cps.size = z.cps.toList.length := by simp
  show Str.mk ((z.cps.toList.drop (HT.sIx z.length 0 none)).take (HT.sIx z.length z.length (some (k : Int)) - HT.sIx z.length 0 none)).toArray = _
  rw [HT.sIx_none, HT.sIx_nat, List.drop_zero, Nat.sub_zero]
  have e2 : z.cps.toList.take (min k z.length) = z.cps.toList.take k := by
    show z.cps.toList.take (min k z.cps.size) = _
    rw [e, ← List.take_eq_take_min]
  rw [e2]
/-- a text up to its first newline -/
theorem cut_find {ls : List Lt} (ok : ∀ l ∈ ls, l.Ok) : cutS (rows ls) none (some (Txt.find (rows ls) "\n" + 1)) = rows (ls.take 1) := by
  cases ls with
  | nil =>
    show cutS (rows []) none (some (Txt.find Str.empty "\n" + 1)) = rows []
    rw [find_nil]
    show cutS (rows []) none (some ((0 : Nat) : Int)) = rows []
    rw [cut_to]
    rfl
  | cons l r =>
    have e : (rows (l :: r)).cps.toList = l.line.cps.toList ++ 10 :: (rows r).cps.toList := by
      rw [rows_cons, cps_app]
      show (l.line ++ ("\n" : Str)).cps.toList ++ _ = _
      rw [cps_app, nl_eq, List.append_assoc]
      rfl
    rw [find_nl e (ok l List.mem_cons_self).no10]
    have c : ((l.line.cps.toList.length : Int) + 1) = ((l.line.cps.toList.length + 1 : Nat) : Int) := by omega
    rw [c, cut_to, e]
    show _ = rows [l]
    rw [rows_cons]
    show _ = l.row ++ Str.empty
    rw [app_empty]
    refine str_ext ?_
    show (((l.line.cps.toList ++ 10 :: (rows r).cps.toList).take (l.line.cps.toList.length + 1)).toArray).toList = (l.line ++ ("\n" : Str)).cps.toList
    rw [cps_app, nl_eq, List.take_append]
    simp
    exact List.take_of_length_le (by simp)
/-- lists cut and put one behind the other -/
theorem paired_take {α β : Type} {R : α → β → Prop} : ∀ {us : List α} {ls : List β} (k : Nat), Paired R us ls → Paired R (us.take k) (ls.take k)
  | _, _, 0, _ => by simp only [List.take_zero]; exact .nil
  | _, _, k + 1, .nil => .nil
  | _, _, k + 1, .cons a b => .cons a (paired_take k b)
theorem paired_app {α β : Type} {R : α → β → Prop} : ∀ {us : List α} {ls : List β} {us' : List α} {ls' : List β}, Paired R us ls → Paired R us' ls' → Paired R (us ++ us') (ls ++ ls')
  | _, _, _, _, .nil, h => h
  | _, _, _, _, .cons a b, h => .cons a (paired_app b h)
theorem paired_rep {α β : Type} {R : α → β → Prop} {us : List α} {ls : List β} (h : Paired R us ls) : ∀ k : Nat, Paired R (List.replicate k us).flatten (List.replicate k ls).flatten
  | 0 => .nil
  | k + 1 => paired_app h (paired_rep h k)
theorem map_rep {α β : Type} (f : α → β) (xs : List α) : ∀ k : Nat, (List.replicate k (xs.map f)).flatten = ((List.replicate k xs).flatten).map f
  | 0 => rfl
  | k + 1 => by
    show xs.map f ++ (List.replicate k (xs.map f)).flatten = (xs ++ (List.replicate k xs).flatten).map f
    rw [map_rep f xs k, List.map_append]
theorem mem_rep {α : Type} {xs : List α} {x : α} : ∀ {k : Nat}, x ∈ (List.replicate k xs).flatten → x ∈ xs
  | 0, h => by simp at h
  | k + 1, h => by
    have h' : x ∈ xs ++ (List.replicate k xs).flatten := h
    rcases List.mem_append.mp h' with z | z
    · exact z
    · exact mem_rep z
theorem len_rep {α : Type} (xs : List α) : ∀ k : Nat, ((List.replicate k xs).flatten).length = k * xs.length
  | 0 => by simp
  | k + 1 => by
    show (xs ++ (List.replicate k xs).flatten).length = _
    rw [List.length_append, len_rep xs k, Nat.succ_mul, Nat.add_comm]
theorem cutV_to (xs : List V) (k : Nat) : cutV xs none (some (k : Int)) = xs.take k := by
  show (xs.drop (HT.sIx xs.length 0 none)).take (HT.sIx xs.length xs.length (some (k : Int)) - HT.sIx xs.length 0 none) = _
  rw [HT.sIx_none, HT.sIx_nat, List.drop_zero, Nat.sub_zero, ← List.take_eq_take_min]
/-! letters as data -/
def optD : Option Int → PyData
  | none => .none
  | some i => .int i
def ltD : Lt → PyData
  | .read n s v a x => .tuple [.str "read", .str n, .int s, .int v, .int a, optD x]
  | .close n f a w => .tuple [.str "close", .str n, .int f, .int a, .int w]
  | .clock n l h => .tuple [.str "clock", .str n, .int l, .int h]
theorem opt_dp {K : PySem.W.Frag} {H : Hp} (x : Option Int) : Dp K H (optV x) (optD x) := by
  cases x with
  | none => exact .non
  | some i => exact .int i
theorem lt_dp {K : PySem.W.Frag} {H : Hp} {t : Addr} {l : Lt} (h : LtAt H t l) : Dp K H (.ref t) (ltD l) := by
  cases l with
  | read n s v a x => exact .tup (.inl (.inl h)) (.cons (.str _) (.cons (.str _) (.cons (.int _) (.cons (.int _) (.cons (.int _) (.cons (opt_dp x) .nil))))))
  | close n f a w => exact .tup (.inl (.inl h)) (.cons (.str _) (.cons (.str _) (.cons (.int _) (.cons (.int _) (.cons (.int _) .nil)))))
  | clock n l h' => exact .tup (.inl (.inl h)) (.cons (.str _) (.cons (.str _) (.cons (.int _) (.cons (.int _) .nil))))
theorem lts_dp {K : PySem.W.Frag} {H : Hp} : ∀ {ts : List Addr} {ls : List Lt}, Paired (LtAt H) ts ls → DpAll K H (ts.map V.ref) (ls.map ltD)
  | _, _, .nil => .nil
  | _, _, .cons a b => .cons (lt_dp a) (lts_dp b)
theorem isW_ok {n : Str} (h : IsW n) : PyData.strOk n = true := by
  unfold PyData.strOk
  rw [Array.all_eq_true]
  intro i hi
  have := h.2.1 n.cps[i] (by simp)
  exact decide_eq_true (by omega)
theorem lt_lay {l : Lt} (h : l.Ok) : (ltD l).canLay0 = true := by
  have w := isW_ok h.word
  cases l with
  | read n s v a x =>
    have w' : PyData.strOk n = true := w
    have k : PyData.strOk "read" = true := by decide +kernel
    cases x <;> simp [ltD, optD, PyData.canLay0, PyData.canLayAll0, w', k]
  | close n f a v =>
    have w' : PyData.strOk n = true := w
    have k : PyData.strOk "close" = true := by decide +kernel
    simp [ltD, PyData.canLay0, PyData.canLayAll0, w', k]
  | clock n lo hi =>
    have w' : PyData.strOk n = true := w
    have k : PyData.strOk "clock" = true := by decide +kernel
    simp [ltD, PyData.canLay0, PyData.canLayAll0, w', k]
theorem lt_deep (l : Lt) : (ltD l).depth = 1 := by
  cases l with
  | read n s v a x => cases x <;> rfl
  | close => rfl
  | clock => rfl
theorem lts_lay : ∀ {ls : List Lt}, (∀ l ∈ ls, l.Ok) → PyData.canLayAll0 (ls.map ltD) = true
  | [], _ => rfl
  | l :: ls, h => by
    show ((ltD l).canLay0 && PyData.canLayAll0 (ls.map ltD)) = true
    rw [lt_lay (h l List.mem_cons_self), lts_lay fun m hm => h m (List.mem_cons_of_mem _ hm)]
    rfl
theorem lts_deep : ∀ ls : List Lt, PyData.depthAll (ls.map ltD) ≤ 1
  | [] => Nat.zero_le _
  | l :: ls => by
    show max (ltD l).depth (PyData.depthAll (ls.map ltD)) ≤ 1
    rw [lt_deep]
    exact Nat.max_le.mpr ⟨Nat.le_refl _, lts_deep ls⟩
theorem bag_shaped {ls : List Lt} (h : ∀ l ∈ ls, l.Ok) : SeqAt.shaped (.list (ls.map ltD)) = true := by
  unfold SeqAt.shaped
  rw [Bool.and_eq_true]
  refine ⟨lts_lay h, decide_eq_true ?_⟩
  have := lts_deep ls
  show PyData.depthAll (ls.map ltD) + 1 ≤ 64
  omega
theorem bag_same {ls : List Lt} (h : ∀ l ∈ ls, l.Ok) : PyData.eqv (.list (ls.map ltD)) (.list (ls.map ltD)) = true := SeqAt.eqv_refl _ (lts_lay h)
/-- the words of the written form, as the module's dict has them -/
def WordsAt (K : PySem.W.Frag) (w : World) (a : Addr) : Prop := ∃ tr tc tk : Addr, KDct K w a "read" (.ref tr) ∧ KDct K w a "close" (.ref tc) ∧ KDct K w a "clock" (.ref tk) ∧
  (∀ H, SqT K H tr [.str "slot", .str "version", .str "at", .str "is"]) ∧ (∀ H, SqT K H tc [.str "after", .str "at", .str "with"]) ∧ ∀ H, SqT K H tk [.str "from", .str "to"]
def Lt.kind : Lt → Str
  | .read .. => "read"
  | .close .. => "close"
  | .clock .. => "clock"
def Lt.mid : Lt → List Str
  | .read .. => ["slot", "version", "at", "is"]
  | .close .. => ["after", "at", "with"]
  | .clock .. => ["from", "to"]
def Lt.nums : Lt → List (Option Int)
  | .read _ s v a x => [some s, some v, some a, x]
  | .close _ f a w => [some f, some a, some w]
  | .clock _ l h => [some l, some h]
theorem Lt.vals_eq (l : Lt) : l.vals = .str l.kind :: .str l.name :: l.nums.map optV := by
  cases l <;> rfl
/-- the parts of a line, up to the i-th number -/
def Lt.upto (l : Lt) (i : Nat) : List Str := l.kind :: l.name :: ((l.mid.zip (l.nums.map optT)).take i).flatMap fun p => [p.1, p.2]
theorem Lt.upto_all (l : Lt) : l.upto l.mid.length = l.words := by
  cases l <;> rfl
theorem Lt.mid_nums (l : Lt) : l.mid.length = l.nums.length := by
  cases l <;> rfl
theorem Lt.mid_le (l : Lt) : l.mid.length ≤ 4 := by
  cases l
  · exact (by decide : 4 ≤ 4)
  · exact (by decide : 3 ≤ 4)
  · exact (by decide : 2 ≤ 4)
theorem Lt.upto_succ {l : Lt} {i : Nat} {a : Str} {x : Option Int} (h1 : l.mid[i]? = some a) (h2 : l.nums[i]? = some x) : l.upto (i + 1) = l.upto i ++ [a] ++ [optT x] := by
  have e : (l.mid.zip (l.nums.map optT))[i]? = some (a, optT x) := by
    rw [List.getElem?_zip_eq_some]
    exact ⟨h1, by rw [List.getElem?_map, h2]; rfl⟩
  unfold Lt.upto
  rw [List.take_add_one, e, List.flatMap_append, ← List.cons_append, ← List.cons_append, List.append_assoc]
  rfl
theorem Lt.upto_len (l : Lt) (i : Nat) (h : i ≤ 4) : (l.upto i).length ≤ 10 := by
  have e : ∀ (m : List (Str × Str)), (m.flatMap fun p => [p.1, p.2]).length = 2 * m.length := fun m => by
    induction m with
    | nil => rfl
    | cons p r ih =>
      rw [List.flatMap_cons, List.length_append, ih]
      show 2 + 2 * r.length = 2 * (r.length + 1)
      omega
  show (((l.mid.zip (l.nums.map optT)).take i).flatMap fun p => [p.1, p.2]).length + 2 ≤ 10
  rw [e, List.length_take]
  omega
theorem Lt.Ok.nr {l : Lt} (h : l.Ok) : ∀ i, some i ∈ l.nums → Nr i := by
  cases l with
  | read n s v a x =>
    obtain ⟨_, _, _, a1, a2, a3, a4⟩ := h
    intro i hi
    simp only [Lt.nums, List.mem_cons, List.not_mem_nil, or_false, Option.some.injEq] at hi
    rcases hi with rfl | rfl | rfl | z
    · exact a1
    · exact a2
    · exact a3
    · exact a4 i z.symm
  | close n f a v =>
    obtain ⟨_, _, _, a1, a2, a3⟩ := h
    intro i hi
    simp only [Lt.nums, List.mem_cons, List.not_mem_nil, or_false, Option.some.injEq] at hi
    rcases hi with rfl | rfl | rfl
    · exact a1
    · exact a2
    · exact a3
  | clock n lo hi' =>
    obtain ⟨_, a1, a2⟩ := h
    intro i hi
    simp only [Lt.nums, List.mem_cons, List.not_mem_nil, or_false, Option.some.injEq] at hi
    rcases hi with rfl | rfl
    · exact a1
    · exact a2
theorem Lt.Ok.words_fit {l : Lt} (h : l.Ok) : (l.words.map (·.length)).sum + l.words.length * ((" " : Str)).length ≤ 16777216 := by
  have w := h.word.2.2
  have e0 : ((" " : Str)).length ≤ 10 := by decide +kernel
  have m0 : ∀ k : Nat, k ≤ 10 → k * ((" " : Str)).length ≤ 100 := fun k hk => Nat.le_trans (Nat.mul_le_mul hk e0) (by decide)
  cases l with
  | read n s v a x =>
    obtain ⟨_, _, _, a1, a2, a3, a4⟩ := h
    have b1 := a1.len
    have b2 := a2.len
    have b3 := a3.len
    have b4 := optT_len a4
    have d1 : (("read" : Str)).length ≤ 10 := by decide +kernel
    have d2 : (("slot" : Str)).length ≤ 10 := by decide +kernel
    have d3 : (("version" : Str)).length ≤ 10 := by decide +kernel
    have d4 : (("at" : Str)).length ≤ 10 := by decide +kernel
    have d5 : (("is" : Str)).length ≤ 10 := by decide +kernel
    have w' : n.length ≤ 200 := w
    have m := m0 10 (by decide)
    simp only [Lt.words, List.map_cons, List.map_nil, List.sum_cons, List.sum_nil, List.length_cons, List.length_nil]
    omega
  | close n f a v =>
    obtain ⟨_, _, _, a1, a2, a3⟩ := h
    have b1 := a1.len
    have b2 := a2.len
    have b3 := a3.len
    have d1 : (("close" : Str)).length ≤ 10 := by decide +kernel
    have d2 : (("after" : Str)).length ≤ 10 := by decide +kernel
    have d3 : (("with" : Str)).length ≤ 10 := by decide +kernel
    have d4 : (("at" : Str)).length ≤ 10 := by decide +kernel
    have w' : n.length ≤ 200 := w
    have m := m0 8 (by decide)
    simp only [Lt.words, List.map_cons, List.map_nil, List.sum_cons, List.sum_nil, List.length_cons, List.length_nil]
    omega
  | clock n lo hi =>
    obtain ⟨_, a1, a2⟩ := h
    have b1 := a1.len
    have b2 := a2.len
    have d1 : (("clock" : Str)).length ≤ 10 := by decide +kernel
    have d2 : (("from" : Str)).length ≤ 10 := by decide +kernel
    have d3 : (("to" : Str)).length ≤ 10 := by decide +kernel
    have w' : n.length ≤ 200 := w
    have m := m0 6 (by decide)
    simp only [Lt.words, List.map_cons, List.map_nil, List.sum_cons, List.sum_nil, List.length_cons, List.length_nil]
    omega
theorem lts_kept {H H' : Hp} (k : ∀ b xs, H b = some (.tup xs) → H' b = some (.tup xs)) {us : List Addr} {ls : List Lt} (h : Paired (LtAt H) us ls) : Paired (LtAt H') us ls := L2.Paired.mapP h fun _ _ y => k _ _ y
theorem sqL_same {K : PySem.W.Frag} {H H' : Hp} {a : Addr} {xs : List V} (s : Same H H') (h : SqL K H a xs) : SqL K H' a xs := by
  rcases h with (h | ⟨o, h⟩) | h
  · exact .inl (.inl (s _ _ h))
  · exact .inl (.inr ⟨o, s _ _ h⟩)
  · exact .inr h
theorem sqT_same {K : PySem.W.Frag} {H H' : Hp} {a : Addr} {xs : List V} (s : Same H H') (h : SqT K H a xs) : SqT K H' a xs := by
  rcases h with (h | ⟨o, h⟩) | h
  · exact .inl (.inl (s _ _ h))
  · exact .inl (.inr ⟨o, s _ _ h⟩)
  · exact .inr h

/-! histories in the heap -/
structure Sl where
  stamp : Int
  vers : List (Option Int)
def SlAt (H : Hp) (s : Addr) (x : Sl) : Prop := ∃ tv, H s = some (.tup [.int x.stamp, .ref tv]) ∧ H tv = some (.tup (x.vers.map optV))
structure Lg where
  name : Str
  off : Int
  slots : List Sl
def LgAt (H : Hp) (g : Addr) (x : Lg) : Prop := ∃ ts us, H g = some (.tup [.str x.name, .int x.off, .ref ts]) ∧ H ts = some (.tup (us.map V.ref)) ∧ Paired (SlAt H) us x.slots
def HistAt (H : Hp) (h : Addr) (ls : List Lg) : Prop := ∃ gs, H h = some (.tup (gs.map V.ref)) ∧ Paired (LgAt H) gs ls
/-- the versions of a slot of this meter -/
structure VersOk (m : Mt) (vs : List (Option Int)) : Prop where
  head : ∃ v r, vs = some v :: r
  few : vs.length ≤ 12
  each : ∀ v, some v ∈ vs → m.low ≤ v ∧ v ≤ m.high
/-- slots whose stamps never fall, none above st, none far from the cell -/
structure SlsOk (m : Mt) (c st : Int) (xs : List Sl) : Prop where
  up : (xs.map Sl.stamp).Pairwise (· ≤ ·)
  top : ∀ x ∈ xs, x.stamp ≤ st
  near : ∀ x ∈ xs, x.stamp.natAbs ≤ c.natAbs + 1000
  vers : ∀ x ∈ xs, VersOk m x.vers
theorem SlsOk.nil (m : Mt) (c st : Int) : SlsOk m c st [] := ⟨.nil, (fun _ z => nomatch z), (fun _ z => nomatch z), fun _ z => nomatch z⟩
theorem SlsOk.snoc {m : Mt} {c st : Int} {xs : List Sl} {x : Sl} (h : SlsOk m c st xs) (a : st ≤ x.stamp) (n : x.stamp.natAbs ≤ c.natAbs + 1000) (v : VersOk m x.vers) : SlsOk m c x.stamp (xs ++ [x]) := by
  refine ⟨?_, fun y hy => ?_, fun y hy => ?_, fun y hy => ?_⟩
  · rw [List.map_append]
    refine List.pairwise_append.mpr ⟨h.up, List.pairwise_singleton _ _, fun y hy z hz => ?_⟩
    obtain ⟨w, hw, rfl⟩ := List.mem_map.mp hy
    rw [List.mem_singleton.mp hz]
    exact Int.le_trans (h.top w hw) a
  · rcases List.mem_append.mp hy with z | z
    · exact Int.le_trans (h.top y z) a
    · rw [List.mem_singleton.mp z]
      exact Int.le_refl _
  · rcases List.mem_append.mp hy with z | z
    · exact h.near y z
    · rw [List.mem_singleton.mp z]
      exact n
  · rcases List.mem_append.mp hy with z | z
    · exact h.vers y z
    · rw [List.mem_singleton.mp z]
      exact v
theorem SlsOk.take {m : Mt} {c st : Int} {xs : List Sl} (h : SlsOk m c st xs) (k : Nat) : SlsOk m c st (xs.take k) :=
  ⟨by rw [List.map_take]; exact h.up.sublist (List.take_sublist _ _), fun x hx => h.top x (List.mem_of_mem_take hx), fun x hx => h.near x (List.mem_of_mem_take hx), fun x hx => h.vers x (List.mem_of_mem_take hx)⟩
/-- a log of this meter -/
structure LgOk (m : Mt) (c : Int) (x : Lg) : Prop where
  name : x.name = m.name
  lo : -m.err ≤ x.off
  hi : x.off ≤ m.err
  slots : ∃ st, SlsOk m c st x.slots
  few : x.slots.length ≤ 50
/-- what keeps tuples keeps slots, logs and histories -/
def KT (H H' : Hp) : Prop := ∀ b xs, H b = some (.tup xs) → H' b = some (.tup xs)
theorem SlAt.kept {H H' : Hp} (k : KT H H') {s : Addr} {x : Sl} (h : SlAt H s x) : SlAt H' s x := let ⟨tv, a, b⟩ := h; ⟨tv, k _ _ a, k _ _ b⟩
theorem sls_kept {H H' : Hp} (k : KT H H') {us : List Addr} {xs : List Sl} (h : Paired (SlAt H) us xs) : Paired (SlAt H') us xs := L2.Paired.mapP h fun _ _ y => y.kept k
theorem LgAt.kept {H H' : Hp} (k : KT H H') {s : Addr} {x : Lg} (h : LgAt H s x) : LgAt H' s x := let ⟨ts, us, a, b, c⟩ := h; ⟨ts, us, k _ _ a, k _ _ b, sls_kept k c⟩
theorem lgs_kept {H H' : Hp} (k : KT H H') {us : List Addr} {xs : List Lg} (h : Paired (LgAt H) us xs) : Paired (LgAt H') us xs := L2.Paired.mapP h fun _ _ y => y.kept k
theorem HistAt.kept {H H' : Hp} (k : KT H H') {h : Addr} {ls : List Lg} (x : HistAt H h ls) : HistAt H' h ls := let ⟨gs, a, b⟩ := x; ⟨gs, k _ _ a, lgs_kept k b⟩
theorem Dr.kt {d : Addr} {H H' : Hp} (r : Dr d H H') (h : DrA H d) : KT H H' := fun _ _ e => r.tup h e
theorem Same.kt {H H' : Hp} (s : Same H H') : KT H H' := fun _ _ e => s _ _ e
theorem kt_lst {H : Hp} {G : Addr} {xs ys : List V} (hG : H G = some (.lst xs)) : KT H (upd H G (.lst ys)) := fun b zs e => by
  rw [upd_ne (ne_of e hG (fun z => nomatch z))]
  exact e
theorem KT.trans {H H1 H2 : Hp} (a : KT H H1) (b : KT H1 H2) : KT H H2 := fun c x e => b c x (a c x e)
def versFrom (n : Str) (j st : Int) : Nat → List (Option Int) → List Lt
  | _, [] => []
  | i, v :: r => .read n j (i : Int) st v :: versFrom n j st (i + 1) r
def slotsFrom (n : Str) : Nat → List Sl → List (List Lt)
  | _, [] => []
  | j, s :: r => versFrom n ((j : Int) + 1) s.stamp 0 s.vers :: slotsFrom n (j + 1) r
/-- the "read" letters of a history, in their order -/
def dueL (ls : List Lg) : List Lt := (ls.map fun g => (slotsFrom g.name 0 g.slots).flatten).flatten
theorem versFrom_at (n : Str) (j st : Int) : ∀ (k : Nat) (vs : List (Option Int)) (i : Nat), (versFrom n j st k vs)[i]? = vs[i]?.map fun v => .read n j (((k + i : Nat)) : Int) st v
  | _, [], i => by simp [versFrom]
  | k, v :: r, 0 => by simp [versFrom]
  | k, v :: r, i + 1 => by
    have h := versFrom_at n j st (k + 1) r i
    rw [show k + 1 + i = k + (i + 1) by omega] at h
    simpa [versFrom] using h
theorem versFrom_len (n : Str) (j st : Int) : ∀ (k : Nat) (vs : List (Option Int)), (versFrom n j st k vs).length = vs.length
  | _, [] => rfl
  | k, v :: r => congrArg (· + 1) (versFrom_len n j st (k + 1) r)
theorem slotsFrom_at (n : Str) : ∀ (k : Nat) (xs : List Sl) (i : Nat), (slotsFrom n k xs)[i]? = xs[i]?.map fun s => versFrom n (((k + i : Nat) : Int) + 1) s.stamp 0 s.vers
  | _, [], i => by simp [slotsFrom]
  | k, v :: r, 0 => by simp [slotsFrom]
  | k, v :: r, i + 1 => by
    have h := slotsFrom_at n (k + 1) r i
    rw [show k + 1 + i = k + (i + 1) by omega] at h
    simpa [slotsFrom] using h
theorem slotsFrom_len (n : Str) : ∀ (k : Nat) (xs : List Sl), (slotsFrom n k xs).length = xs.length
  | _, [] => rfl
  | k, v :: r => congrArg (· + 1) (slotsFrom_len n (k + 1) r)
theorem flat_take {α : Type} {ls : List (List α)} {i : Nat} {x : List α} (h : ls[i]? = some x) : (ls.take (i + 1)).flatten = (ls.take i).flatten ++ x := by
  rw [List.take_add_one, h, List.flatten_append]
  simp
theorem sls_at {H : Hp} : ∀ {us : List Addr} {xs : List Sl} {i : Nat} {u : Addr}, Paired (SlAt H) us xs → us[i]? = some u → ∃ x, xs[i]? = some x ∧ SlAt H u x
  | _, _, _, _, .nil, h => by simp at h
  | _, _, 0, _, .cons a _, h => by
    cases (Option.some.inj h)
    exact ⟨_, rfl, a⟩
  | _, _, i + 1, _, .cons _ r, h => sls_at (i := i) r h
theorem lgs_at {H : Hp} : ∀ {us : List Addr} {xs : List Lg} {i : Nat} {u : Addr}, Paired (LgAt H) us xs → us[i]? = some u → ∃ x, xs[i]? = some x ∧ LgAt H u x
  | _, _, _, _, .nil, h => by simp at h
  | _, _, 0, _, .cons a _, h => by
    cases (Option.some.inj h)
    exact ⟨_, rfl, a⟩
  | _, _, i + 1, _, .cons _ r, h => lgs_at (i := i) r h
/-- a history of few logs, slots, versions -/
structure HistFew (ls : List Lg) : Prop where
  logs : ls.length ≤ 20
  slots : ∀ g ∈ ls, g.slots.length ≤ 60
  vers : ∀ g ∈ ls, ∀ s ∈ g.slots, s.vers.length ≤ 24
/-- the logs of a history, meter by meter -/
def HistOk (P : Pl) (c : Int) (ls : List Lg) : Prop := Paired (fun m x => LgOk m c x) P.ms ls
theorem paired_mem {α β : Type} {R : α → β → Prop} : ∀ {xs : List α} {ys : List β}, Paired R xs ys → ∀ y ∈ ys, ∃ x ∈ xs, R x y
  | _, _, .nil, _, h => nomatch h
  | _, _, .cons a r, y, h => by
    rcases List.mem_cons.mp h with rfl | z
    · exact ⟨_, List.mem_cons_self, a⟩
    · obtain ⟨x, hx, k⟩ := paired_mem r y z
      exact ⟨x, List.mem_cons_of_mem _ hx, k⟩
theorem HistOk.few {P : Pl} {c : Int} {ls : List Lg} (h : HistOk P c ls) (n : P.ms.length ≤ 20) : HistFew ls := by
  refine ⟨by have := (show Paired (fun m x => LgOk m c x) P.ms ls from h).length; omega, fun g hg => ?_, fun g hg s hs => ?_⟩
  · obtain ⟨m, _, k⟩ := paired_mem h g hg
    have := k.few
    omega
  · obtain ⟨m, _, k⟩ := paired_mem h g hg
    obtain ⟨st, z⟩ := k.slots
    exact Nat.le_trans (z.vers s hs).few (by decide)
theorem HistOk.names {P : Pl} {c : Int} {ls : List Lg} (h : HistOk P c ls) (iw : ∀ m ∈ P.ms, IsW m.name) : ∀ g ∈ ls, IsW g.name := fun g hg => by
  obtain ⟨m, hm, k⟩ := paired_mem h g hg
  rw [k.name]
  exact iw m hm
theorem HistFew.take {ls : List Lg} (h : HistFew ls) (k : Nat) : HistFew (ls.take k) :=
  ⟨by rw [List.length_take]; have := h.logs; omega, fun g hg => h.slots g (List.mem_of_mem_take hg), fun g hg => h.vers g (List.mem_of_mem_take hg)⟩
theorem versFrom_mem {n : Str} {j st : Int} : ∀ {k : Nat} {vs : List (Option Int)} {l : Lt}, l ∈ versFrom n j st k vs → ∃ s v a x, l = .read n s v a x
  | _, [], _, h => nomatch h
  | k, v :: r, l, h => by
    rcases List.mem_cons.mp h with rfl | z
    · exact ⟨_, _, _, _, rfl⟩
    · exact versFrom_mem z
theorem slotsFrom_mem {n : Str} : ∀ {k : Nat} {xs : List Sl} {r : List Lt} {l : Lt}, r ∈ slotsFrom n k xs → l ∈ r → ∃ s v a x, l = .read n s v a x
  | _, [], _, _, h, _ => nomatch h
  | k, x :: xs, r, l, h, hl => by
    rcases List.mem_cons.mp h with rfl | z
    · exact versFrom_mem hl
    · exact slotsFrom_mem z hl
theorem due_mem {ls : List Lg} {l : Lt} (h : l ∈ dueL ls) : ∃ g ∈ ls, ∃ s v a x, l = .read g.name s v a x := by
  unfold dueL at h
  obtain ⟨r, hr, hl⟩ := List.mem_flatten.mp h
  obtain ⟨g, hg, rfl⟩ := List.mem_map.mp hr
  obtain ⟨r2, hr2, hl2⟩ := List.mem_flatten.mp hl
  exact ⟨g, hg, slotsFrom_mem hr2 hl2⟩
theorem due_empty (ls : List Lg) : dueL (ls.map fun g => ⟨g.name, g.off, []⟩) = [] := by
  unfold dueL
  rw [List.map_map]
  induction ls with
  | nil => rfl
  | cons g r ih =>
    rw [List.map_cons, List.flatten_cons, ih]
    rfl
theorem read_lay {n : Str} {s v a : Int} {x : Option Int} (w : IsW n) : (ltD (.read n s v a x)).canLay0 = true := by
  have w' : PyData.strOk n = true := isW_ok w
  have k : PyData.strOk "read" = true := by decide +kernel
  cases x <;> simp [ltD, optD, PyData.canLay0, PyData.canLayAll0, w', k]
theorem lt_shaped {l : Lt} (h : (ltD l).canLay0 = true) : SeqAt.shaped (ltD l) = true := by
  unfold SeqAt.shaped
  rw [Bool.and_eq_true]
  exact ⟨h, decide_eq_true (by rw [lt_deep]; decide)⟩
theorem dues_lay : ∀ {ds : List Lt}, (∀ l ∈ ds, (ltD l).canLay0 = true) → PyData.canLayAll0 (ds.map ltD) = true
  | [], _ => rfl
  | l :: ds, h => by
    show ((ltD l).canLay0 && PyData.canLayAll0 (ds.map ltD)) = true
    rw [h l List.mem_cons_self, dues_lay fun m hm => h m (List.mem_cons_of_mem _ hm)]
    rfl
theorem dues_shaped {ds : List Lt} (h : ∀ l ∈ ds, (ltD l).canLay0 = true) : SeqAt.shaped (.tuple (ds.map ltD)) = true := by
  unfold SeqAt.shaped
  rw [Bool.and_eq_true]
  refine ⟨dues_lay h, decide_eq_true ?_⟩
  have := lts_deep ds
  show PyData.depthAll (ds.map ltD) + 1 ≤ 64
  omega
theorem dues_same {ds : List Lt} (h : ∀ l ∈ ds, (ltD l).canLay0 = true) : PyData.eqv (.tuple (ds.map ltD)) (.tuple (ds.map ltD)) = true := SeqAt.eqv_refl _ (dues_lay h)
theorem slots_len {n : Str} : ∀ {k : Nat} {xs : List Sl}, (∀ s ∈ xs, s.vers.length ≤ 24) → (slotsFrom n k xs).flatten.length ≤ 24 * xs.length
  | _, [], _ => Nat.zero_le _
  | k, x :: xs, h => by
    have a := h x List.mem_cons_self
    have b := slots_len (n := n) (k := k + 1) fun s hs => h s (List.mem_cons_of_mem _ hs)
    show (versFrom n ((k : Int) + 1) x.stamp 0 x.vers ++ (slotsFrom n (k + 1) xs).flatten).length ≤ _
    rw [List.length_append, versFrom_len, List.length_cons]
    omega
theorem due_len : ∀ {ls : List Lg}, (∀ g ∈ ls, g.slots.length ≤ 60) → (∀ g ∈ ls, ∀ s ∈ g.slots, s.vers.length ≤ 24) → (dueL ls).length ≤ 1440 * ls.length
  | [], _, _ => Nat.zero_le _
  | g :: ls, h1, h2 => by
    have a := h1 g List.mem_cons_self
    have b := slots_len (n := g.name) (k := 0) (h2 g List.mem_cons_self)
    have c := due_len (ls := ls) (fun g' hg => h1 g' (List.mem_cons_of_mem _ hg)) fun g' hg => h2 g' (List.mem_cons_of_mem _ hg)
    show ((slotsFrom g.name 0 g.slots).flatten ++ dueL ls).length ≤ _
    rw [List.length_append, List.length_cons]
    omega
/-- len(..) of a list or a tuple -/
def rLenK (K : PySem.W.Frag) : List V → Hp → VK → Prop := fun xs H Q => ∃ p ys, xs = [V.ref p] ∧ (SqL K H p ys ∨ SqT K H p ys) ∧ Q (.int (ys.length : Nat)) H

/-! which letters are true of a log -/
def vsum (xs : List Sl) : Int := (xs.map fun s => (s.vers.length : Int)).sum
def belowB (a : Int) (s : Sl) : Bool := decide (s.stamp < a)
def fromB (a : Int) (s : Sl) : Bool := decide (s.stamp ≥ a)
def readOf (xs : List Sl) (s v a : Int) (x : Option Int) : Bool := match xs[(s - 1).toNat]? with
  | none => false
  | some z => if z.stamp = a then (if v < z.vers.length then (match z.vers[v.toNat]? with | some y => decide (optV y = optV x) | none => false) else false) else false
def closeOf (xs : List Sl) (f a w : Int) : Bool := (xs.take f.toNat).all (belowB a) && ((xs.drop f.toNat).all (fromB a) && decide (V.int (vsum (xs.take f.toNat)) = V.int w))
def trueIn (g : Lg) : Lt → Bool
  | .clock _ lo hi => if lo ≤ g.off then decide (g.off ≤ hi) else false
  | .read _ s v a x => if s > (g.slots.length : Int) then false else readOf g.slots s v a x
  | .close _ f a w => if f > (g.slots.length : Int) then false else closeOf g.slots f a w
def Lt.Nn : Lt → Prop
  | .read _ s v _ _ => 1 ≤ s ∧ 0 ≤ v
  | .close _ f _ _ => 0 ≤ f
  | .clock .. => True
theorem close_false {xs : List Sl} {f a w : Int} {j : Nat} {s : Sl} (f0 : 0 ≤ f) (hj : xs[j]? = some s) (n : ¬ decide (s.stamp < a) = decide ((j : Int) < f)) : closeOf xs f a w = false := by
  unfold closeOf
  by_cases jf : (j : Int) < f
  · have m : s ∈ xs.take f.toNat := List.mem_of_getElem? (i := j) (by rw [List.getElem?_take, if_pos (by omega)]; exact hj)
    have e : (xs.take f.toNat).all (belowB a) = false := by
      rw [List.all_eq_false]
      exact ⟨s, m, fun z => n (by rw [show decide (s.stamp < a) = true from z, decide_eq_true jf])⟩
    rw [e, Bool.false_and]
  · have m : s ∈ xs.drop f.toNat := List.mem_of_getElem? (i := j - f.toNat) (by rw [List.getElem?_drop, show f.toNat + (j - f.toNat) = j by omega]; exact hj)
    have e : (xs.drop f.toNat).all (fromB a) = false := by
      rw [List.all_eq_false]
      refine ⟨s, m, fun z => n ?_⟩
      have c : s.stamp ≥ a := of_decide_eq_true z
      rw [decide_eq_false jf, decide_eq_false (by omega)]
    rw [e, Bool.false_and, Bool.and_false]
theorem close_sum {xs : List Sl} {f a w : Int} (f0 : 0 ≤ f) (h : ∀ (j : Nat) (s : Sl), xs[j]? = some s → decide (s.stamp < a) = decide ((j : Int) < f)) : closeOf xs f a w = decide (V.int (vsum (xs.take f.toNat)) = V.int w) := by
  unfold closeOf
  have e1 : (xs.take f.toNat).all (belowB a) = true := by
    rw [List.all_eq_true]
    intro s hs
    obtain ⟨j, hj⟩ := List.getElem?_of_mem hs
    rw [List.getElem?_take] at hj
    split at hj
    · have := h j s hj
      show decide (s.stamp < a) = true
      rw [this]
      exact decide_eq_true (by omega)
    · cases hj
  have e2 : (xs.drop f.toNat).all (fromB a) = true := by
    rw [List.all_eq_true]
    intro s hs
    obtain ⟨j, hj⟩ := List.getElem?_of_mem hs
    rw [List.getElem?_drop] at hj
    have c := h _ s hj
    rw [decide_eq_false (show ¬ ((f.toNat + j : Nat) : Int) < f by omega)] at c
    have c' := of_decide_eq_false c
    exact decide_eq_true (by omega)
  rw [e1, e2, Bool.true_and, Bool.true_and]
theorem vsum_snoc {xs : List Sl} {i : Nat} {s : Sl} (h : xs[i]? = some s) : (xs.take (i + 1)).map (fun s => (s.vers.length : Int)) = (xs.take i).map (fun s => (s.vers.length : Int)) ++ [(s.vers.length : Int)] := by
  rw [List.take_add_one, h, List.map_append]
  rfl
theorem map_take_snoc {α β : Type} {xs : List α} {i : Nat} {x : α} (f : α → β) (h : xs[i]? = some x) : (xs.take (i + 1)).map f = (xs.take i).map f ++ [f x] := by
  rw [List.take_add_one, h, List.map_append]
  rfl
theorem all_map_id {α : Type} (f : α → Bool) (xs : List α) : (xs.map f).all id = xs.all f := by
  rw [List.all_map]
  rfl
theorem filter_first {α : Type} {f : α → Bool} {xs : List α} {i : Nat} {x g : α} {r : List α} (h : xs.filter f = g :: r) (h0 : (xs.take i).filter f = []) (hx : xs[i]? = some x) (fx : f x = true) : x = g := by
  have il := (List.getElem?_eq_some_iff.mp hx).1
  have e : xs = xs.take i ++ (x :: xs.drop (i + 1)) := by
    obtain ⟨_, rfl⟩ := List.getElem?_eq_some_iff.mp hx
    rw [← List.drop_eq_getElem_cons il, List.take_append_drop]
  rw [e, List.filter_append, h0, List.nil_append, List.filter_cons, if_pos fx] at h
  exact (List.cons.inj h).1
theorem filter_none_snoc {α : Type} {f : α → Bool} {xs : List α} {i : Nat} {x : α} (h0 : (xs.take i).filter f = []) (hx : xs[i]? = some x) (fx : ¬ f x = true) : (xs.take (i + 1)).filter f = [] := by
  rw [List.take_add_one, hx, List.filter_append, h0, List.nil_append]
  show List.filter f [x] = []
  rw [List.filter_cons, if_neg fx, List.filter_nil]
theorem cutV_from (xs : List V) (k : Nat) : cutV xs (some (k : Int)) none = xs.drop k := by
  show (xs.drop (HT.sIx xs.length 0 (some (k : Int)))).take (HT.sIx xs.length xs.length none - HT.sIx xs.length 0 (some (k : Int))) = _
  rw [HT.sIx_none, HT.sIx_nat]
  rcases Nat.le_total k xs.length with h | h
  · rw [Nat.min_eq_left h, List.take_of_length_le (by rw [List.length_drop]; exact Nat.le_refl _)]
  · rw [Nat.min_eq_right h, List.drop_length, List.drop_eq_nil_of_le h, List.take_nil]
/-- cut of mapped rows -/
theorem cut_toM {α : Type} (f : α → V) (xs : List α) (n : Int) (h : 0 ≤ n) : cutV (xs.map f) none (some n) = (xs.take n.toNat).map f := by
  have e := cutV_to (xs.map f) n.toNat
  rw [Int.toNat_of_nonneg h] at e
  rw [e, List.map_take]
theorem cut_fromM {α : Type} (f : α → V) (xs : List α) (n : Int) (h : 0 ≤ n) : cutV (xs.map f) (some n) none = (xs.drop n.toNat).map f := by
  have e := cutV_from (xs.map f) n.toNat
  rw [Int.toNat_of_nonneg h] at e
  rw [e, List.map_drop]
/-- a list of letters at F that grows; the list at L stays -/
structure NearI (d : Addr) (H HF : Hp) (F L : Addr) (P : Lt → Prop) (Hc : Hp) (us : List Addr) (ls : List Lt) (k : Nat) : Prop where
  dr : Dr d H Hc
  kt : KT HF Hc
  ll : ∀ xs, HF L = some (.lst xs) → Hc L = some (.lst xs)
  lst : Hc F = some (.lst (us.map V.ref))
  all : Paired (LtAt Hc) us ls
  good : ∀ l ∈ ls, P l
  few : us.length ≤ k
theorem NearI.add {d F L p : Addr} {H HF Hc Hn : Hp} {P : Lt → Prop} {us : List Addr} {ls : List Lt} {k : Nat} {l : Lt} (I : NearI d H HF F L P Hc us ls k) (s : Same Hc Hn) (hp : Hn p = some (.tup l.vals)) (hl : P l) (nd : F ≠ d) (nH : H F = none) (nL : L ≠ F) :
    NearI d H HF F L P (upd Hn F (.lst (us.map V.ref ++ [.ref p]))) (us ++ [p]) (ls ++ [l]) (k + 1) := by
  have hF := s _ _ I.lst
  have kk := KT.trans (Same.kt s) (kt_lst (ys := us.map V.ref ++ [.ref p]) hF)
  refine ⟨(I.dr.then s).keepNew nd nH, KT.trans I.kt kk, fun xs e => ?_, by rw [upd_same, List.map_append]; rfl, (lts_kept kk I.all).snoc ?_, fun x hx => ?_, by rw [List.length_append]; have := I.few; show _ + 1 ≤ _; omega⟩
  · rw [upd_ne nL]
    exact s _ _ (I.ll xs e)
  · exact kt_lst (ys := us.map V.ref ++ [.ref p]) hF _ _ hp
  · rcases List.mem_append.mp hx with z | z
    · exact I.good x z
    · rw [List.mem_singleton.mp z]
      exact hl
theorem NearI.draw {d F L : Addr} {H HF Hc Hn : Hp} {P : Lt → Prop} {us : List Addr} {ls : List Lt} {k : Nat} (I : NearI d H HF F L P Hc us ls k) (r : Dr d Hc Hn) (nd : F ≠ d) (nL : L ≠ d) : NearI d H HF F L P Hn us ls k :=
  ⟨I.dr.trans r, KT.trans I.kt (r.kt I.dr.at_), fun xs e => r.keep _ _ nL (I.ll xs e), r.keep _ _ nd I.lst, lts_kept (r.kt I.dr.at_) I.all, I.good, I.few⟩
theorem NearI.more {d F L : Addr} {H HF Hc : Hp} {P : Lt → Prop} {us : List Addr} {ls : List Lt} {k m : Nat} (I : NearI d H HF F L P Hc us ls k) (h : k ≤ m) : NearI d H HF F L P Hc us ls m :=
  ⟨I.dr, I.kt, I.ll, I.lst, I.all, I.good, Nat.le_trans I.few h⟩
theorem NearI.same {d F L : Addr} {H HF Hc Hn : Hp} {P : Lt → Prop} {us : List Addr} {ls : List Lt} {k : Nat} (I : NearI d H HF F L P Hc us ls k) (s : Same Hc Hn) : NearI d H HF F L P Hn us ls k :=
  ⟨I.dr.then s, KT.trans I.kt (Same.kt s), fun xs e => s _ _ (I.ll xs e), s _ _ I.lst, lts_kept (Same.kt s) I.all, I.good, I.few⟩
def ReadOfN (n : Str) (l : Lt) : Prop := ∃ s v a x, l = .read n s v a x ∧ 1 ≤ s ∧ 0 ≤ v
def CloseOfN (n : Str) (l : Lt) : Prop := ∃ f a w, l = .close n f a w ∧ 0 ≤ f
def ClockOfN (n : Str) (l : Lt) : Prop := ∃ lo hi, l = .clock n lo hi
theorem cut_mem {xs : List V} {lo hi : Option Int} {x : V} (h : x ∈ cutV xs lo hi) : x ∈ xs := by
  unfold cutV at h
  exact List.mem_of_mem_drop (List.mem_of_mem_take h)
theorem cut_at {H : Hp} {us : List Addr} {xs : List Sl} {lo hi : Option Int} {i : Nat} {x : V} (hp : Paired (SlAt H) us xs) (h : (cutV (us.map V.ref) lo hi)[i]? = some x) : ∃ (u : Addr) (z : Sl), x = .ref u ∧ SlAt H u z ∧ z ∈ xs := by
  have m := cut_mem (List.mem_of_getElem? h)
  obtain ⟨u, hu, rfl⟩ := List.mem_map.mp m
  obtain ⟨j, hj⟩ := List.getElem?_of_mem hu
  obtain ⟨z, hz, hz2⟩ := sls_at hp hj
  exact ⟨u, z, rfl, hz2, List.mem_of_getElem? hz⟩
theorem int_atL {xs : List Int} {i : Nat} {x : V} (h : (xs.map V.int)[i]? = some x) : ∃ k, xs[i]? = some k ∧ x = .int k := by
  rw [List.getElem?_map] at h
  obtain ⟨a, e1, e2⟩ := Option.map_eq_some_iff.mp h
  exact ⟨a, e1, e2.symm⟩
theorem sqT_dr0 {K : PySem.W.Frag} {d a : Addr} {H H' : Hp} {xs : List V} (r : Dr d H H') (hd : DrA H d) (h : SqT K H a xs) : SqT K H' a xs := by
  rcases h with (h | ⟨o, h⟩) | h
  · exact .inl (.inl (r.tup hd h))
  · refine .inl (.inr ⟨o, r.keep _ _ (fun z => ?_) h⟩)
    obtain ⟨ns, e⟩ := hd
    rw [z, e] at h
    cases h
  · exact .inr h
theorem hist_firstL {ls : List Lg} {n : Str} {x : Lg} (h : x ∈ ls) (e : x.name = n) : ∃ g r, ls.filter (fun g => decide (V.str g.name = V.str n)) = g :: r := by
  have m : x ∈ ls.filter (fun g => decide (V.str g.name = V.str n)) := List.mem_filter.mpr ⟨h, decide_eq_true (by rw [e])⟩
  cases hf : ls.filter (fun g => decide (V.str g.name = V.str n)) with
  | nil => rw [hf] at m; cases m
  | cons g r => exact ⟨g, r, rfl⟩
theorem pickL {xs : List Int} {vs : List V} {k : Int} (e : vs = xs.map V.int) (h0 : 0 ≤ k) (h1 : k < xs.length) : ∃ v, v ∈ xs ∧ atI vs k = some (.int v) := by
  rw [e]
  exact ⟨_, List.getElem_mem _, atM_pos h0 h1⟩

/-! tuples of versions as data -/
theorem opts_dp {K : PySem.W.Frag} {H : Hp} : ∀ (xs : List (Option Int)), DpAll K H (xs.map optV) (xs.map optD)
  | [] => .nil
  | x :: r => .cons (opt_dp x) (opts_dp r)
theorem opts_lay : ∀ (xs : List (Option Int)), PyData.canLayAll0 (xs.map optD) = true
  | [] => rfl
  | x :: r => by
    show ((optD x).canLay0 && PyData.canLayAll0 (r.map optD)) = true
    rw [opts_lay r, Bool.and_true]
    cases x <;> simp [optD, PyData.canLay0]
theorem opts_deep : ∀ (xs : List (Option Int)), PyData.depthAll (xs.map optD) ≤ 1
  | [] => Nat.zero_le _
  | x :: r => by
    have a := opts_deep r
    have b : (optD x).depth ≤ 1 := by cases x <;> simp [optD, PyData.depth]
    simp only [List.map_cons, PyData.depthAll]
    omega
theorem vers_shaped (xs : List (Option Int)) : SeqAt.shaped (.tuple (xs.map optD)) = true := by
  unfold SeqAt.shaped
  rw [Bool.and_eq_true]
  refine ⟨opts_lay xs, decide_eq_true ?_⟩
  have := opts_deep xs
  show PyData.depthAll (xs.map optD) + 1 ≤ 64
  omega
theorem opt_eqv (a b : Option Int) : PyData.eqv (optD a) (optD b) = decide (a = b) := by
  cases a <;> cases b <;> simp [optD, PyData.eqv]
  rfl
theorem opts_eqv : ∀ (xs ys : List (Option Int)), PyData.eqvAll (xs.map optD) (ys.map optD) = decide (xs = ys)
  | [], [] => by simp [PyData.eqvAll]
  | [], _ :: _ => by simp [PyData.eqvAll]
  | _ :: _, [] => by simp [PyData.eqvAll]
  | x :: r, y :: s => by
    show PyData.eqvAll (optD x :: r.map optD) (optD y :: s.map optD) = _
    rw [PyData.eqvAll, opt_eqv, opts_eqv r s]
    by_cases a : x = y <;> by_cases b : r = s <;> simp [a, b]
theorem vers_eqv (xs ys : List (Option Int)) : PyData.eqv (.tuple (xs.map optD)) (.tuple (ys.map optD)) = decide (xs = ys) := by
  rw [PyData.eqv, opts_eqv]

/-! which histories go on another one -/
theorem vers_mem {n : Str} {j st : Int} {vs : List (Option Int)} {l : Lt} : l ∈ versFrom n j st 0 vs ↔ ∃ (i : Nat) (v : Option Int), vs[i]? = some v ∧ l = .read n j (i : Int) st v := by
  rw [List.mem_iff_getElem?]
  constructor
  · rintro ⟨i, h⟩
    rw [versFrom_at, Nat.zero_add] at h
    obtain ⟨v, hv, e⟩ := Option.map_eq_some_iff.mp h
    exact ⟨i, v, hv, e.symm⟩
  · rintro ⟨i, v, hv, rfl⟩
    refine ⟨i, ?_⟩
    rw [versFrom_at, Nat.zero_add, hv]
    rfl
theorem slots_mem {n : Str} {xs : List Sl} {r : List Lt} : r ∈ slotsFrom n 0 xs ↔ ∃ (j : Nat) (s : Sl), xs[j]? = some s ∧ r = versFrom n ((j : Int) + 1) s.stamp 0 s.vers := by
  rw [List.mem_iff_getElem?]
  constructor
  · rintro ⟨i, h⟩
    rw [slotsFrom_at, Nat.zero_add] at h
    obtain ⟨v, hv, e⟩ := Option.map_eq_some_iff.mp h
    exact ⟨i, v, hv, e.symm⟩
  · rintro ⟨i, v, hv, rfl⟩
    refine ⟨i, ?_⟩
    rw [slotsFrom_at, Nat.zero_add, hv]
    rfl
theorem due_iff {ls : List Lg} {l : Lt} : l ∈ dueL ls ↔ ∃ g ∈ ls, ∃ (j : Nat) (s : Sl) (i : Nat) (v : Option Int), g.slots[j]? = some s ∧ s.vers[i]? = some v ∧ l = .read g.name ((j : Int) + 1) (i : Int) s.stamp v := by
  unfold dueL
  rw [List.mem_flatten]
  constructor
  · rintro ⟨r, hr, hl⟩
    obtain ⟨g, hg, rfl⟩ := List.mem_map.mp hr
    obtain ⟨q, hq, hl2⟩ := List.mem_flatten.mp hl
    obtain ⟨j, s, hs, rfl⟩ := slots_mem.mp hq
    obtain ⟨i, v, hv, e⟩ := vers_mem.mp hl2
    exact ⟨g, hg, j, s, i, v, hs, hv, e⟩
  · rintro ⟨g, hg, j, s, i, v, hs, hv, e⟩
    exact ⟨_, List.mem_map.mpr ⟨g, hg, rfl⟩, List.mem_flatten.mpr ⟨_, slots_mem.mpr ⟨j, s, hs, rfl⟩, vers_mem.mpr ⟨i, v, hv, e⟩⟩⟩
theorem one_log : ∀ {ls : List Lg} {g : Lg}, (ls.map Lg.name).Nodup → g ∈ ls → ls.filter (fun x => decide (V.str x.name = V.str g.name)) = [g]
  | [], _, _, h => nomatch h
  | x :: r, g, nd, h => by
    rw [List.map_cons, List.nodup_cons] at nd
    rcases List.mem_cons.mp h with rfl | z
    · rw [List.filter_cons, if_pos (decide_eq_true rfl)]
      congr 1
      rw [List.filter_eq_nil_iff]
      intro y hy e
      have e2 : y.name = g.name := V.str.inj (of_decide_eq_true e)
      exact nd.1 (by rw [← e2]; exact List.mem_map_of_mem hy)
    · rw [List.filter_cons, if_neg, one_log nd.2 z]
      intro e
      have e2 : x.name = g.name := V.str.inj (of_decide_eq_true e)
      exact nd.1 (by rw [e2]; exact List.mem_map_of_mem z)
theorem read_iff {g : Lg} {n : Str} {j i : Nat} {a : Int} {v : Option Int} : trueIn g (.read n ((j : Int) + 1) (i : Int) a v) = true ↔ ∃ s, g.slots[j]? = some s ∧ s.stamp = a ∧ s.vers[i]? = some v := by
  unfold trueIn
  dsimp only
  by_cases c : (j : Int) + 1 > (g.slots.length : Int)
  · rw [if_pos c]
    refine ⟨fun z => absurd z Bool.false_ne_true, ?_⟩
    rintro ⟨s, hs, _⟩
    have := (List.getElem?_eq_some_iff.mp hs).1
    omega
  · rw [if_neg c]
    unfold readOf
    rw [show ((j : Int) + 1 - 1).toNat = j by omega]
    have jl : j < g.slots.length := by omega
    rw [List.getElem?_eq_getElem jl]
    dsimp only
    by_cases c2 : g.slots[j].stamp = a
    · rw [if_pos c2]
      by_cases c3 : (i : Int) < (g.slots[j].vers.length : Int)
      · have il : i < g.slots[j].vers.length := by omega
        rw [if_pos c3, show ((i : Int)).toNat = i from rfl, List.getElem?_eq_getElem il]
        dsimp only
        constructor
        · intro e
          refine ⟨_, rfl, c2, ?_⟩
          have e2 := of_decide_eq_true e
          rw [List.getElem?_eq_getElem il]
          congr 1
          cases h1 : g.slots[j].vers[i] <;> cases v <;> rw [h1] at e2 <;> first | rfl | exact congrArg some (V.int.inj e2) | exact V.noConfusion e2
        · rintro ⟨s, e, _, hv⟩
          cases e
          rw [List.getElem?_eq_getElem il] at hv
          cases hv
          exact decide_eq_true rfl
      · rw [if_neg c3]
        refine ⟨fun z => absurd z Bool.false_ne_true, ?_⟩
        rintro ⟨s, e, _, hv⟩
        cases e
        have := (List.getElem?_eq_some_iff.mp hv).1
        omega
    · rw [if_neg c2]
      refine ⟨fun z => absurd z Bool.false_ne_true, ?_⟩
      rintro ⟨s, e, h, _⟩
      cases e
      exact absurd h c2

/-! full bags: which logs they tell -/
def ccOne (g : Lg) (z : Int) : List Lt := [.close g.name (g.slots.length : Nat) z (vsum g.slots), .clock g.name g.off g.off]
def ccL (ls : List Lg) (zs : List Int) : List Lt := (List.zipWith ccOne ls zs).flatten
theorem ccL_snoc {ls : List Lg} {zs : List Int} {i : Nat} {g : Lg} {z : Int} (h : ls[i]? = some g) (l : zs.length = i) : ccL (ls.take (i + 1)) (zs ++ [z]) = ccL (ls.take i) zs ++ ccOne g z := by
  have il := (List.getElem?_eq_some_iff.mp h).1
  unfold ccL
  rw [List.take_add_one, h]
  show (List.zipWith ccOne (ls.take i ++ [g]) (zs ++ [z])).flatten = _
  rw [List.zipWith_append (by rw [List.length_take]; omega), List.flatten_append]
  show _ ++ (ccOne g z ++ []) = _
  rw [List.append_nil]
theorem cc_mem {l : Lt} : ∀ {ls : List Lg} {zs : List Int}, l ∈ ccL ls zs ↔ ∃ (k : Nat) (g : Lg) (z : Int), ls[k]? = some g ∧ zs[k]? = some z ∧ l ∈ ccOne g z
  | [], zs => by
    constructor
    · intro h; unfold ccL at h; rw [List.zipWith_nil_left] at h; cases h
    · rintro ⟨k, g, z, h, _⟩; simp at h
  | g :: ls, [] => by
    constructor
    · intro h; unfold ccL at h; rw [List.zipWith_nil_right] at h; cases h
    · rintro ⟨k, g', z, _, h, _⟩; simp at h
  | g :: ls, z :: zs => by
    have ih := cc_mem (l := l) (ls := ls) (zs := zs)
    have e : ccL (g :: ls) (z :: zs) = ccOne g z ++ ccL ls zs := rfl
    rw [e, List.mem_append, ih]
    constructor
    · rintro (h | ⟨k, g', z', h1, h2, h3⟩)
      · exact ⟨0, g, z, rfl, rfl, h⟩
      · exact ⟨k + 1, g', z', h1, h2, h3⟩
    · rintro ⟨k, g', z', h1, h2, h3⟩
      cases k with
      | zero =>
        cases h1
        cases h2
        exact .inl h3
      | succ k => exact .inr ⟨k, g', z', h1, h2, h3⟩
/-- a stamp behind all slots -/
def StOk (g : Lg) (z : Int) : Prop := ∀ s ∈ g.slots, s.stamp < z
def SameLg (g o : Lg) (z : Int) : Prop := o.off = g.off ∧ o.slots.take g.slots.length = g.slots ∧ ∀ s ∈ o.slots.drop g.slots.length, z ≤ s.stamp
def SameL (ls lo : List Lg) (zs : List Int) : Prop := ∀ (k : Nat) (g o : Lg) (z : Int), ls[k]? = some g → lo[k]? = some o → zs[k]? = some z → SameLg g o z
/-! slots as data -/
def slD (s : Sl) : PyData := .tuple [.int s.stamp, .tuple (s.vers.map optD)]
theorem sls_dp {K : PySem.W.Frag} {H : Hp} : ∀ {us : List Addr} {xs : List Sl}, Paired (SlAt H) us xs → DpAll K H (us.map V.ref) (xs.map slD)
  | _, _, .nil => .nil
  | _, _, .cons ⟨tv, h1, h2⟩ r => .cons (.tup (.inl (.inl h1)) (.cons (.int _) (.cons (.tup (.inl (.inl h2)) (opts_dp _)) .nil))) (sls_dp r)
theorem sls_lay : ∀ (xs : List Sl), PyData.canLayAll0 (xs.map slD) = true
  | [] => rfl
  | x :: r => by
    have h := opts_lay x.vers
    show ((slD x).canLay0 && PyData.canLayAll0 (r.map slD)) = true
    rw [sls_lay r, Bool.and_true]
    simp [slD, PyData.canLay0, PyData.canLayAll0, h]
theorem sls_deep : ∀ (xs : List Sl), PyData.depthAll (xs.map slD) ≤ 3
  | [] => Nat.zero_le _
  | x :: r => by
    have a := sls_deep r
    have h := opts_deep x.vers
    have b : (slD x).depth ≤ 3 := by
      simp only [slD, PyData.depth, PyData.depthAll]
      omega
    simp only [List.map_cons, PyData.depthAll]
    omega
theorem sls_shaped (xs : List Sl) : SeqAt.shaped (.tuple (xs.map slD)) = true := by
  unfold SeqAt.shaped
  rw [Bool.and_eq_true]
  refine ⟨sls_lay xs, decide_eq_true ?_⟩
  have := sls_deep xs
  show PyData.depthAll (xs.map slD) + 1 ≤ 64
  omega
theorem sl_eqv (a b : Sl) : PyData.eqv (slD a) (slD b) = true ↔ a = b := by
  have h := vers_eqv a.vers b.vers
  constructor
  · intro e
    unfold slD at e
    simp only [PyData.eqv, PyData.eqvAll, Bool.and_true, Bool.and_eq_true] at e
    obtain ⟨e1, e2⟩ := e
    have e3 : PyData.eqv (.tuple (a.vers.map optD)) (.tuple (b.vers.map optD)) = true := by
      rw [PyData.eqv]
      exact e2
    rw [h] at e3
    have e4 := of_decide_eq_true e3
    have e5 : a.stamp = b.stamp := by simpa using e1
    cases a
    cases b
    cases e4
    cases e5
    rfl
  · rintro rfl
    exact SeqAt.eqv_refl _ (by
      have := opts_lay a.vers
      simp [slD, PyData.canLay0, PyData.canLayAll0, this])
theorem sls_eqvA : ∀ (xs ys : List Sl), PyData.eqvAll (xs.map slD) (ys.map slD) = true ↔ xs = ys
  | [], [] => by simp [PyData.eqvAll]
  | [], _ :: _ => by simp [PyData.eqvAll]
  | _ :: _, [] => by simp [PyData.eqvAll]
  | x :: r, y :: s => by
    show PyData.eqvAll (slD x :: r.map slD) (slD y :: s.map slD) = true ↔ _
    rw [PyData.eqvAll, Bool.and_eq_true, sl_eqv, sls_eqvA r s, List.cons.injEq]
theorem sls_eqv (xs ys : List Sl) : PyData.eqv (.tuple (xs.map slD)) (.tuple (ys.map slD)) = true ↔ xs = ys := by
  rw [PyData.eqv, sls_eqvA]
theorem cutM {α : Type} (f : α → V) (xs : List α) (a b : Nat) (h : a ≤ b) (h2 : b ≤ xs.length) : cutV (xs.map f) (some (a : Int)) (some (b : Int)) = ((xs.drop a).take (b - a)).map f := by
  show ((xs.map f).drop (HT.sIx (xs.map f).length 0 (some (a : Int)))).take (HT.sIx (xs.map f).length (xs.map f).length (some (b : Int)) - HT.sIx (xs.map f).length 0 (some (a : Int))) = _
  rw [HT.sIx_nat, HT.sIx_nat, List.length_map, Nat.min_eq_left (show a ≤ xs.length by omega), Nat.min_eq_left h2, List.map_take, List.map_drop]
theorem paired_rev {α β : Type} {R : α → β → Prop} : ∀ {xs : List α} {ys : List β}, Paired R xs ys → Paired R xs.reverse ys.reverse
  | _, _, .nil => .nil
  | x :: xs, y :: ys, .cons a r => by
    rw [List.reverse_cons, List.reverse_cons]
    exact (paired_rev r).snoc a
theorem paired_drp {α β : Type} {R : α → β → Prop} : ∀ {xs : List α} {ys : List β} (n : Nat), Paired R xs ys → Paired R (xs.drop n) (ys.drop n)
  | _, _, 0, h => h
  | _, _, _ + 1, .nil => .nil
  | _, _, n + 1, .cons _ r => paired_drp n r

def topS (i : Nat) : Stmt := PySem.Challenge.pw_toldwhensure_k15_whole_full_bags_tell_lo.main.body.getD i (.Pass ⟨0, 0, 0, 0⟩)
abbrev s_is_true : Stmt := topS 1
theorem sc_is_true : FnScope ["letter", "history", "kind", "name", "told", "offset", "slots", "low", "high"] ["letter", "history"] (defScope s_is_true) := ⟨rfl, rfl, rfl, by decide +kernel, rfl, by decide +kernel, by decide +kernel⟩
abbrev s_log_of : Stmt := topS 2
theorem sc_log_of : FnScope ["history", "name", "owner", "offset", "slots"] ["history", "name"] (defScope s_log_of) := ⟨rfl, rfl, rfl, by decide +kernel, rfl, by decide +kernel, by decide +kernel⟩
abbrev s_is_read_true : Stmt := topS 3
theorem sc_is_read_true : FnScope ["slots", "slot", "version", "stamp", "value", "true_stamp", "versions"] ["slots", "slot", "version", "stamp", "value"] (defScope s_is_read_true) := ⟨rfl, rfl, rfl, by decide +kernel, rfl, by decide +kernel, by decide +kernel⟩
abbrev s_is_close_true : Stmt := topS 4
theorem sc_is_close_true : FnScope ["slots", "many", "stamp", "versions", "before", "slot"] ["slots", "many", "stamp", "versions"] (defScope s_is_close_true) := ⟨rfl, rfl, rfl, by decide +kernel, rfl, by decide +kernel, by decide +kernel⟩
abbrev s_agrees : Stmt := topS 5
theorem sc_agrees : FnScope ["history", "letters", "letter"] ["history", "letters"] (defScope s_agrees) := ⟨rfl, rfl, rfl, by decide +kernel, rfl, by decide +kernel, by decide +kernel⟩
abbrev s_reads_of : Stmt := topS 6
theorem sc_reads_of : FnScope ["history", "name", "_", "slots", "slot", "stamp", "versions", "version", "value"] ["history"] (defScope s_reads_of) := ⟨rfl, rfl, rfl, by decide +kernel, rfl, by decide +kernel, by decide +kernel⟩
abbrev s_l_draws : Stmt := topS 8
theorem sc_l_draws : FnScope ["script", "many", "cells", "rest", "draws", "k", "at", "once", "cell"] ["script", "many"] (defScope s_l_draws) := ⟨rfl, rfl, rfl, by decide +kernel, rfl, by decide +kernel, by decide +kernel⟩
abbrev s_l_take : Stmt := topS 9
theorem sc_l_take : FnScope ["draws", "many"] ["draws", "many"] (defScope s_l_take) := ⟨rfl, rfl, rfl, by decide +kernel, rfl, by decide +kernel, by decide +kernel⟩
abbrev s_l_cell : Stmt := topS 10
theorem sc_l_cell : FnScope ["script", "draws"] ["script", "draws"] (defScope s_l_cell) := ⟨rfl, rfl, rfl, by decide +kernel, rfl, by decide +kernel, by decide +kernel⟩
abbrev s_l_word : Stmt := topS 11
theorem sc_l_word : FnScope ["number", "word", "k"] ["number"] (defScope s_l_word) := ⟨rfl, rfl, rfl, by decide +kernel, rfl, by decide +kernel, by decide +kernel⟩
abbrev s_l_some_word : Stmt := topS 12
theorem sc_l_some_word : FnScope ["draws", "number", "great"] ["draws"] (defScope s_l_some_word) := ⟨rfl, rfl, rfl, by decide +kernel, rfl, by decide +kernel, by decide +kernel⟩
abbrev s_l_is_truth : Stmt := topS 13
theorem sc_l_is_truth : FnScope ["actual", "due"] ["actual", "due"] (defScope s_l_is_truth) := ⟨rfl, rfl, rfl, by decide +kernel, rfl, by decide +kernel, by decide +kernel⟩
abbrev s_l_reading : Stmt := topS 14
theorem sc_l_reading : FnScope ["draws", "meter", "number"] ["draws", "meter"] (defScope s_l_reading) := ⟨rfl, rfl, rfl, by decide +kernel, rfl, by decide +kernel, by decide +kernel⟩
abbrev s_l_plan : Stmt := topS 15
theorem sc_l_plan : FnScope ["draws", "cell", "many", "meters", "name", "low", "wide", "length", "k"] ["draws", "cell"] (defScope s_l_plan) := ⟨rfl, rfl, rfl, by decide +kernel, rfl, by decide +kernel, by decide +kernel⟩
abbrev s_l_versions : Stmt := topS 16
theorem sc_l_versions : FnScope ["draws", "meter", "versions", "many", "k", "value"] ["draws", "meter"] (defScope s_l_versions) := ⟨rfl, rfl, rfl, by decide +kernel, rfl, by decide +kernel, by decide +kernel⟩
abbrev s_l_slots : Stmt := topS 17
theorem sc_l_slots : FnScope ["draws", "meter", "most", "cell", "stamp", "slots", "k", "step"] ["draws", "meter", "most", "cell"] (defScope s_l_slots) := ⟨rfl, rfl, rfl, by decide +kernel, rfl, by decide +kernel, by decide +kernel⟩
abbrev s_l_history : Stmt := topS 18
theorem sc_l_history : FnScope ["draws", "plan", "most", "cell", "logs", "meter", "offset", "slots"] ["draws", "plan", "most", "cell"] (defScope s_l_history) := ⟨rfl, rfl, rfl, by decide +kernel, rfl, by decide +kernel, by decide +kernel⟩
abbrev s_l_other_log : Stmt := topS 19
theorem sc_l_other_log : FnScope ["draws", "meter", "log", "slots", "offset", "kind", "stamp", "at", "versions", "place"] ["draws", "meter", "log"] (defScope s_l_other_log) := ⟨rfl, rfl, rfl, by decide +kernel, rfl, by decide +kernel, by decide +kernel⟩
abbrev s_l_full : Stmt := topS 20
theorem sc_l_full : FnScope ["draws", "history", "stamps", "letters", "log", "stamp", "slot"] ["draws", "history"] (defScope s_l_full) := ⟨rfl, rfl, rfl, by decide +kernel, rfl, by decide +kernel, by decide +kernel⟩
abbrev s_l_same_logs : Stmt := topS 21
theorem sc_l_same_logs : FnScope ["history", "other", "stamps", "k", "slots", "slot"] ["history", "other", "stamps"] (defScope s_l_same_logs) := ⟨rfl, rfl, rfl, by decide +kernel, rfl, by decide +kernel, by decide +kernel⟩
abbrev s_law : Stmt := topS 22
theorem sc_law : FnScope ["script", "draws", "cell", "plan", "history", "other", "full", "one", "mixed", "k"] ["script"] (defScope s_law) := ⟨rfl, rfl, rfl, by decide +kernel, rfl, by decide +kernel, by decide +kernel⟩
/-- what the top has left: where each def stands; the built-ins' names are not taken -/
structure Ctx (K : PySem.W.Frag) (mg : Str → Option Value) where
  f_is_true : Addr
  fd_is_true : FuncData
  F_is_true : Fun K "is_true" "is_true" s_is_true f_is_true fd_is_true
  b_is_true : Binds K fd_is_true ["letter", "history"] []
  g_is_true : mg "is_true" = some (.ref f_is_true)
  f_log_of : Addr
  fd_log_of : FuncData
  F_log_of : Fun K "_log_of" "_log_of" s_log_of f_log_of fd_log_of
  b_log_of : Binds K fd_log_of ["history", "name"] []
  g_log_of : mg "_log_of" = some (.ref f_log_of)
  f_is_read_true : Addr
  fd_is_read_true : FuncData
  F_is_read_true : Fun K "_is_read_true" "_is_read_true" s_is_read_true f_is_read_true fd_is_read_true
  b_is_read_true : Binds K fd_is_read_true ["slots", "slot", "version", "stamp", "value"] []
  g_is_read_true : mg "_is_read_true" = some (.ref f_is_read_true)
  f_is_close_true : Addr
  fd_is_close_true : FuncData
  F_is_close_true : Fun K "_is_close_true" "_is_close_true" s_is_close_true f_is_close_true fd_is_close_true
  b_is_close_true : Binds K fd_is_close_true ["slots", "many", "stamp", "versions"] []
  g_is_close_true : mg "_is_close_true" = some (.ref f_is_close_true)
  f_agrees : Addr
  fd_agrees : FuncData
  F_agrees : Fun K "agrees" "agrees" s_agrees f_agrees fd_agrees
  b_agrees : Binds K fd_agrees ["history", "letters"] []
  g_agrees : mg "agrees" = some (.ref f_agrees)
  f_reads_of : Addr
  fd_reads_of : FuncData
  F_reads_of : Fun K "reads_of" "reads_of" s_reads_of f_reads_of fd_reads_of
  b_reads_of : Binds K fd_reads_of ["history"] []
  g_reads_of : mg "reads_of" = some (.ref f_reads_of)
  f_l_draws : Addr
  fd_l_draws : FuncData
  F_l_draws : Fun K "_law_draws" "_law_draws" s_l_draws f_l_draws fd_l_draws
  b_l_draws : Binds K fd_l_draws ["script", "many"] []
  g_l_draws : mg "_law_draws" = some (.ref f_l_draws)
  f_l_take : Addr
  fd_l_take : FuncData
  F_l_take : Fun K "_law_take" "_law_take" s_l_take f_l_take fd_l_take
  b_l_take : Binds K fd_l_take ["draws", "many"] []
  g_l_take : mg "_law_take" = some (.ref f_l_take)
  f_l_cell : Addr
  fd_l_cell : FuncData
  F_l_cell : Fun K "_law_cell" "_law_cell" s_l_cell f_l_cell fd_l_cell
  b_l_cell : Binds K fd_l_cell ["script", "draws"] []
  g_l_cell : mg "_law_cell" = some (.ref f_l_cell)
  f_l_word : Addr
  fd_l_word : FuncData
  F_l_word : Fun K "_law_word" "_law_word" s_l_word f_l_word fd_l_word
  b_l_word : Binds K fd_l_word ["number"] []
  g_l_word : mg "_law_word" = some (.ref f_l_word)
  f_l_some_word : Addr
  fd_l_some_word : FuncData
  F_l_some_word : Fun K "_law_some_word" "_law_some_word" s_l_some_word f_l_some_word fd_l_some_word
  b_l_some_word : Binds K fd_l_some_word ["draws"] []
  g_l_some_word : mg "_law_some_word" = some (.ref f_l_some_word)
  f_l_is_truth : Addr
  fd_l_is_truth : FuncData
  F_l_is_truth : Fun K "_law_is_truth" "_law_is_truth" s_l_is_truth f_l_is_truth fd_l_is_truth
  b_l_is_truth : Binds K fd_l_is_truth ["actual", "due"] []
  g_l_is_truth : mg "_law_is_truth" = some (.ref f_l_is_truth)
  f_l_reading : Addr
  fd_l_reading : FuncData
  F_l_reading : Fun K "_law_reading" "_law_reading" s_l_reading f_l_reading fd_l_reading
  b_l_reading : Binds K fd_l_reading ["draws", "meter"] []
  g_l_reading : mg "_law_reading" = some (.ref f_l_reading)
  f_l_plan : Addr
  fd_l_plan : FuncData
  F_l_plan : Fun K "_law_plan" "_law_plan" s_l_plan f_l_plan fd_l_plan
  b_l_plan : Binds K fd_l_plan ["draws", "cell"] []
  g_l_plan : mg "_law_plan" = some (.ref f_l_plan)
  f_l_versions : Addr
  fd_l_versions : FuncData
  F_l_versions : Fun K "_law_versions" "_law_versions" s_l_versions f_l_versions fd_l_versions
  b_l_versions : Binds K fd_l_versions ["draws", "meter"] []
  g_l_versions : mg "_law_versions" = some (.ref f_l_versions)
  f_l_slots : Addr
  fd_l_slots : FuncData
  F_l_slots : Fun K "_law_slots" "_law_slots" s_l_slots f_l_slots fd_l_slots
  b_l_slots : Binds K fd_l_slots ["draws", "meter", "most", "cell"] []
  g_l_slots : mg "_law_slots" = some (.ref f_l_slots)
  f_l_history : Addr
  fd_l_history : FuncData
  F_l_history : Fun K "_law_history" "_law_history" s_l_history f_l_history fd_l_history
  b_l_history : Binds K fd_l_history ["draws", "plan", "most", "cell"] []
  g_l_history : mg "_law_history" = some (.ref f_l_history)
  f_l_other_log : Addr
  fd_l_other_log : FuncData
  F_l_other_log : Fun K "_law_other_log" "_law_other_log" s_l_other_log f_l_other_log fd_l_other_log
  b_l_other_log : Binds K fd_l_other_log ["draws", "meter", "log"] []
  g_l_other_log : mg "_law_other_log" = some (.ref f_l_other_log)
  f_l_full : Addr
  fd_l_full : FuncData
  F_l_full : Fun K "_law_full" "_law_full" s_l_full f_l_full fd_l_full
  b_l_full : Binds K fd_l_full ["draws", "history"] []
  g_l_full : mg "_law_full" = some (.ref f_l_full)
  f_l_same_logs : Addr
  fd_l_same_logs : FuncData
  F_l_same_logs : Fun K "_law_same_logs" "_law_same_logs" s_l_same_logs f_l_same_logs fd_l_same_logs
  b_l_same_logs : Binds K fd_l_same_logs ["history", "other", "stamps"] []
  g_l_same_logs : mg "_law_same_logs" = some (.ref f_l_same_logs)
  f_law : Addr
  fd_law : FuncData
  F_law : Fun K "law" "law" s_law f_law fd_law
  b_law : Binds K fd_law ["script"] []
  g_law : mg "law" = some (.ref f_law)
  m_abs : mg "abs" = none
  m_all : mg "all" = none
  m_bool : mg "bool" = none
  m_enumerate : mg "enumerate" = none
  m_int : mg "int" = none
  m_isinstance : mg "isinstance" = none
  m_len : mg "len" = none
  m_list : mg "list" = none
  m_max : mg "max" = none
  m_range : mg "range" = none
  m_set : mg "set" = none
  m_sorted : mg "sorted" = none
  m_sum : mg "sum" = none
  m_tuple : mg "tuple" = none
def sp_log_of (K : PySem.W.Frag) : Sp := fun vs H Q _ => ∃ (h : Addr) (ls : List Lg) (n : Str) (g : Lg) (r : List Lg), vs = [.ref h, .str n] ∧ HistAt H h ls ∧ ls.filter (fun g => decide (V.str g.name = V.str n)) = g :: r ∧ ∀ H' t ss us, Same H H' → H' t = some (.tup [.int g.off, .ref ss]) → H' ss = some (.tup (us.map V.ref)) → Paired (SlAt H') us g.slots → Q (.ref t) H'
section
variable {P : Program} {w : World} {K : PySem.W.Frag} {mg : Str → Option Value} {base : Heap}
theorem ok_log_of (T : Ctx K mg) : FnOk P w K mg base CX0 1 T.f_log_of T.fd_log_of ["history", "name"] (sp_log_of K) := by
  refine T.F_log_of.ok sc_log_of (fun vs H Q E h => ?_) (fun cdv A outer s H vs Q E hr h => ?_)
  · obtain ⟨h', ls, n, g, r, rfl, _⟩ := h
    rfl
  · obtain ⟨h0, ls, n, g, r, rfl, ⟨gs, hh, hgs⟩, ef, q⟩ := h
    refine ⟨_, (pss_cons (ps_for PassesOwn.never rfl (pi_tup (pv 0)) (pg_tup rfl (pgs_cons (pg_name (i := 2) sc_log_of.nd rfl (Or.inl rfl)) (pgs_cons (pg_name (i := 3) sc_log_of.nd rfl (Or.inl rfl)) (pgs_cons (pg_name (i := 4) sc_log_of.nd rfl (Or.inl rfl)) pgs_nil))))
        (pss_one (ps_if (pt_cmpR op_eq (pv 2) (pv 1) (nomark _))
        (pss_one (ps_ret (pe_tup (pa_cons (pv 3) (pa_cons (pv 4) pa_nil)))))
        pss_nil)))
      (pss_one (ps_ret pe_non))), ?_⟩
    have gl : gs.length = ls.length := hgs.length
    have hH : SqT K H h0 (gs.map V.ref) := .inl (.inl hh)
    refine ⟨.ref h0, rfl, h0, rfl, ⟨_, hH⟩, for_tup (K := K) (a := h0) (xs := gs.map V.ref) (fun i σ H' => ∃ y2 y3 y4 : Option V, σ = [some (.ref h0), some (.str n), y2, y3, y4] ∧ H' = H ∧ (ls.take i).filter (fun g => decide (V.str g.name = V.str n)) = []) ⟨none, none, none, rfl, rfl, rfl⟩ (fun i σ H' _ hp => ?_) (fun i x σ H' hx hp => ?_) (fun σ H' hp => ?_)⟩
    · obtain ⟨_, _, _, _, rfl, _⟩ := hp
      exact hH
    · obtain ⟨y2, y3, y4, rfl, rfl, h0'⟩ := hp
      rw [List.getElem?_map] at hx
      obtain ⟨ga, hga, rfl⟩ := Option.map_eq_some_iff.mp hx
      obtain ⟨x, hxi, ss, us, ha, hb, hc⟩ := lgs_at hgs hga
      refine ⟨ga, _, rfl, .inl (.inl ha), rfl, _, _, rfl, _, _, rfl, _, _, rfl, rfl, .str x.name, rfl, .str n, rfl, rfl, _, rfl, ite2 (fun e => ?_) (fun e => ?_)⟩
      · have ex := filter_first ef h0' hxi e
        subst ex
        exact ⟨.int x.off, rfl, .ref ss, rfl, small' (n := 2) (by decide), fun t nt => q _ t ss us (same_new nt) upd_same (same_new nt _ _ hb) (sls_kept (Same.kt (same_new nt)) hc)⟩
      · exact ⟨_, _, _, rfl, rfl, filter_none_snoc h0' hxi e⟩
    · obtain ⟨_, _, _, _, rfl, z⟩ := hp
      rw [List.length_map, gl, List.take_length, ef] at z
      cases z
end
def sp_is_read_true (K : PySem.W.Frag) : Sp := fun vs H Q _ => ∃ (ss : Addr) (us : List Addr) (xs : List Sl) (s v a : Int) (x : Option Int), vs = [.ref ss, .int s, .int v, .int a, optV x] ∧ H ss = some (.tup (us.map V.ref)) ∧ Paired (SlAt H) us xs ∧ 1 ≤ s ∧ 0 ≤ v ∧ Q (.bl (if s > (xs.length : Int) then false else readOf xs s v a x)) H
section
variable {P : Program} {w : World} {K : PySem.W.Frag} {mg : Str → Option Value} {base : Heap}
theorem ok_is_read_true (T : Ctx K mg) : FnOk P w K mg base CX0 1 T.f_is_read_true T.fd_is_read_true ["slots", "slot", "version", "stamp", "value"] (sp_is_read_true K) := by
  refine T.F_is_read_true.ok sc_is_read_true (fun vs H Q E h => ?_) (fun cdv A outer s H vs Q E hr h => ?_)
  · obtain ⟨ss, us, xs, s, v, a, x, rfl, _⟩ := h
    rfl
  · obtain ⟨ss, us, xs, s, v, a, x, rfl, hs, hp, n1, n2, q⟩ := h
    refine ⟨_, (pss_cons (ps_if (pt_cmpR op_gt (pv 1) (pe_callB call_len_seq (by rfl) T.m_len (by decide +kernel) (pa_cons (pv 0) pa_nil)) (nomark _))
        (pss_one (ps_ret pe_bl))
        pss_nil)
      (pss_cons (ps_asg (pe_ix ix_tup (pv 0) (pe_op op_sub (pv 1) pe_int) (fun _ _ => rfl)) (pg_tup (by rfl) (pgs_cons (pg_name (i := 5) sc_is_read_true.nd rfl (Or.inl rfl)) (pgs_cons (pg_name (i := 6) sc_is_read_true.nd rfl (Or.inl rfl)) pgs_nil))))
      (pss_one (ps_ret (pe_and (pe_cmpR op_eq (pv 3) (pv 5) (nomark _)) (pe_and (pe_cmpR op_lt (pv 2) (pe_callB call_len_seq (by rfl) T.m_len (by decide +kernel) (pa_cons (pv 6) pa_nil)) (nomark _)) (pe_one (pe_cmpR op_eq (pe_ix ix_tup (pv 6) (pv 2) (fun _ _ => rfl)) (pv 4) (nomark _))))))))), ?_⟩
    have ul : us.length = xs.length := hp.length
    have hS : SqT K H ss (us.map V.ref) := .inl (.inl hs)
    refine ⟨.int s, rfl, .ref ss, rfl, ss, _, rfl, .inr hS, _, _, rfl, rfl, _, rfl, ite2 (fun e => ?_) (fun e => ?_)⟩
    · have c : s > (xs.length : Int) := by
        have z := of_decide_eq_true e
        rw [List.length_map, ul] at z
        exact z
      rw [if_pos c] at q
      exact q
    have c : ¬ s > (xs.length : Int) := fun z => e (decide_eq_true (by rw [List.length_map, ul]; exact z))
    rw [if_neg c] at q
    have hi : (s - 1).toNat < us.length := by omega
    obtain ⟨z, hz, tv, hza, hzv⟩ := sls_at hp (List.getElem?_eq_getElem hi)
    have ats : atI (us.map V.ref) (s - 1) = some (.ref us[(s - 1).toNat]) := atI_z (j := (s - 1).toNat) (by omega) (by rw [List.getElem?_map, List.getElem?_eq_getElem hi]; rfl)
    generalize us[(s - 1).toNat] = sa at hza ats
    have hV : SqT K H tv (z.vers.map optV) := .inl (.inl hzv)
    have e3 : readOf xs s v a x = if z.stamp = a then (if v < z.vers.length then (match z.vers[v.toNat]? with | some y => decide (optV y = optV x) | none => false) else false) else false := by
      unfold readOf
      simp only [hz] <;> rfl
    rw [e3] at q
    refine ⟨.ref ss, rfl, .int s, rfl, _, _, rfl, rfl, ss, _, _, _, rfl, rfl, hS, ats, ?_⟩
    refine ⟨sa, _, rfl, .inl (.inl hza), rfl, _, _, rfl, _, _, rfl, rfl, ?_⟩
    refine ⟨.int a, rfl, .int z.stamp, rfl, rfl, _, rfl, ite2 (fun e => ?_) (fun e => ?_)⟩
    · have c1 : z.stamp = a := (V.int.inj (of_decide_eq_true e)).symm
      rw [if_pos c1] at q
      refine ⟨.int v, rfl, .ref tv, rfl, tv, _, rfl, .inr hV, _, _, rfl, rfl, _, rfl, ite2 (fun e => ?_) (fun e => ?_)⟩
      · have c2 : v < z.vers.length := by
          have y := of_decide_eq_true e
          rw [List.length_map] at y
          exact y
        rw [if_pos c2] at q
        have hv : z.vers[v.toNat]? = some (z.vers[v.toNat]'(by omega)) := List.getElem?_eq_getElem (by omega)
        generalize z.vers[v.toNat]'(by omega) = y at hv
        rw [hv] at q
        have atv : atI (z.vers.map optV) v = some (optV y) := atI_z (j := v.toNat) (by omega) (by rw [List.getElem?_map, hv]; rfl)
        exact ⟨.ref tv, rfl, .int v, rfl, tv, _, _, _, rfl, rfl, hV, atv, optV x, rfl, by cases y <;> cases x <;> rfl, q⟩
      · have c2 : ¬ v < z.vers.length := fun y => e (decide_eq_true (by rw [List.length_map]; exact y))
        rw [if_neg c2] at q
        exact q
    · have c1 : ¬ z.stamp = a := fun y => e (decide_eq_true (congrArg V.int y.symm))
      rw [if_neg c1] at q
      exact q
end
def sp_is_close_true (K : PySem.W.Frag) : Sp := fun vs H Q _ => ∃ (ss : Addr) (us : List Addr) (xs : List Sl) (f a w : Int), vs = [.ref ss, .int f, .int a, .int w] ∧ H ss = some (.tup (us.map V.ref)) ∧ Paired (SlAt H) us xs ∧ xs.length ≤ 1000 ∧ 0 ≤ f ∧ ∀ H', Same H H' → Q (.bl (if f > (xs.length : Int) then false else closeOf xs f a w)) H'
section
variable {P : Program} {w : World} {K : PySem.W.Frag} {mg : Str → Option Value} {base : Heap}
theorem ok_is_close_true (T : Ctx K mg) : FnOk P w K mg base CX0 1 T.f_is_close_true T.fd_is_close_true ["slots", "many", "stamp", "versions"] (sp_is_close_true K) := by
  refine T.F_is_close_true.ok sc_is_close_true (fun vs H Q E h => ?_) (fun cdv A outer s H vs Q E hr h => ?_)
  · obtain ⟨ss, us, xs, f, a, w, rfl, _⟩ := h
    rfl
  · obtain ⟨ss, us, xs, f, a, w, rfl, hs, hp, few, f0, q⟩ := h
    refine ⟨_, (pss_cons (ps_if (pt_cmpR op_gt (pv 1) (pe_callB call_len_seq (by rfl) T.m_len (by decide +kernel) (pa_cons (pv 0) pa_nil)) (nomark _))
        (pss_one (ps_ret pe_bl))
        pss_nil)
      (pss_cons (ps_set (i := 4) sc_is_close_true.nd rfl (.inl rfl) (pe_slice TX.sl_any (pv 0) po_none (po_some (pv 1))))
      (pss_one (ps_ret (pe_and (pe_callB (cr_all rfl) (by rfl) T.m_all (by decide +kernel) (pa_cons (pe_lc (own := [("slot", 5)]) (g := gName 5) (by rfl) sc_is_close_true.nd (pi_tup (pv 4)) (blkOk_by (own := [("slot", 5)]) (N := ["slots", "many", "stamp", "versions", "before", "slot"]) (sc := defScope s_is_close_true) (by decide +kernel)) (fun _ _ _ _ _ => pg_name (i := 5) sc_is_close_true.nd rfl (Or.inl rfl)) (fun _ _ _ _ _ => pts_nil) (fun _ _ _ _ _ => (pe_cmpR op_lt (pe_ix (show IxR _ (rIxT K) from ix_tup) (pv 5) pe_int (fun _ _ => rfl)) (pv 2) (nomark _)))) pa_nil)) (pe_and (pe_callB (cr_all rfl) (by rfl) T.m_all (by decide +kernel) (pa_cons (pe_lc (own := [("slot", 5)]) (g := gName 5) (by rfl) sc_is_close_true.nd (pi_tup (pe_slice TX.sl_any (pv 0) (po_some (pv 1)) po_none)) (blkOk_by (own := [("slot", 5)]) (N := ["slots", "many", "stamp", "versions", "before", "slot"]) (sc := defScope s_is_close_true) (by decide +kernel)) (fun _ _ _ _ _ => pg_name (i := 5) sc_is_close_true.nd rfl (Or.inl rfl)) (fun _ _ _ _ _ => pts_nil) (fun _ _ _ _ _ => (pe_cmpR op_ge (pe_ix (show IxR _ (rIxT K) from ix_tup) (pv 5) pe_int (fun _ _ => rfl)) (pv 2) (nomark _)))) pa_nil)) (pe_one (pe_cmpR op_eq (pe_callB (cr_sum rfl) (by rfl) T.m_sum (by decide +kernel) (pa_cons (pe_lc (own := [("slot", 5)]) (g := gName 5) (by rfl) sc_is_close_true.nd (pi_tup (pv 4)) (blkOk_by (own := [("slot", 5)]) (N := ["slots", "many", "stamp", "versions", "before", "slot"]) (sc := defScope s_is_close_true) (by decide +kernel)) (fun _ _ _ _ _ => pg_name (i := 5) sc_is_close_true.nd rfl (Or.inl rfl)) (fun _ _ _ _ _ => pts_nil) (fun _ _ _ _ _ => (pe_callB (show CallR _ _ (rLenK K) from call_len_seq) (by rfl) T.m_len (by decide +kernel) (pa_cons (pe_ix (show IxR _ (rIxT K) from ix_tup) (pv 5) pe_int (fun _ _ => rfl)) pa_nil)))) pa_nil)) (pv 3) (nomark _))))))))), ?_⟩
    have ul : us.length = xs.length := hp.length
    have hS : SqT K H ss (us.map V.ref) := .inl (.inl hs)
    refine ⟨.int f, rfl, .ref ss, rfl, ss, _, rfl, .inr hS, _, _, rfl, rfl, _, rfl, ite2 (fun e => ?_) (fun e => ?_)⟩
    · have c : f > (xs.length : Int) := by
        have z := of_decide_eq_true e
        rw [List.length_map, ul] at z
        exact z
      have q1 := q H (Same.refl H)
      rw [if_pos c] at q1
      exact q1
    have c : ¬ f > (xs.length : Int) := fun z => e (decide_eq_true (by rw [List.length_map, ul]; exact z))
    have q1 : ∀ H', Same H H' → Q (.bl (closeOf xs f a w)) H' := fun H' s => by
      have z := q H' s
      rw [if_neg c] at z
      exact z
    clear q
    refine ⟨.ref ss, rfl, .int f, rfl, f, rfl, ss, _, rfl, hS, fun b H1 s1 hb => ?_⟩
    rw [cut_toM V.ref us f f0] at hb
    -- all below
    have hp1 : Paired (SlAt H1) us xs := sls_kept (Same.kt s1) hp
    have tl : (us.take f.toNat).length = f.toNat := by rw [List.length_take]; omega
    have at1 : ∀ (H' : Hp) (i : Nat) (x : V), Same H1 H' → ((us.take f.toNat).map V.ref)[i]? = some x → ∃ (u : Addr) (z : Sl), x = .ref u ∧ SlAt H' u z ∧ (xs.take f.toNat)[i]? = some z := fun H' i x s hx => by
      rw [List.getElem?_map] at hx
      obtain ⟨u, hu, rfl⟩ := Option.map_eq_some_iff.mp hx
      have il := (List.getElem?_eq_some_iff.mp hu).1
      rw [List.getElem?_take, if_pos (by omega)] at hu
      obtain ⟨z, hz, hz2⟩ := sls_at hp1 hu
      exact ⟨u, z, rfl, hz2.kept (Same.kt s), by rw [List.getElem?_take, if_pos (by omega)]; exact hz⟩
    refine ⟨.ref b, rfl, b, rfl, ⟨_, hb⟩, fun C nC => lc_tup (K := K) (a := b) (xs := (us.take f.toNat).map V.ref) (fun i H' => Same H1 H' ∧ H' C = some (.lst (((xs.take f.toNat).take i).map fun s => V.bl (belowB a s))) ∧ i ≤ 1000) ⟨same_new nC, upd_same, Nat.zero_le _⟩ (fun i H' _ z => sqT_same z.1 hb) (fun i x H' hx z => ?_) (fun H' z => ?_)⟩
    · obtain ⟨s2, hC, _⟩ := z
      obtain ⟨u, z, rfl, hz, hzi⟩ := at1 H' i x s2 hx
      have il := (List.getElem?_eq_some_iff.mp hx).1
      rw [List.length_map, tl] at il
      obtain ⟨tv, hz1, hz2⟩ := hz
      refine ⟨rfl, .ref u, rfl, u, _, 0, _, rfl, rfl, .inl (.inl hz1), atI_nat (j := 0) rfl, .int a, rfl, _, _, rfl, rfl, _, hC, ?_, same_keep s2 nC, ?_, by omega⟩
      · rw [List.length_map, List.length_take, List.length_take]
        exact small (by omega)
      · rw [upd_same, map_take_snoc _ hzi]
        rfl
    obtain ⟨s2, hC, _⟩ := z
    rw [List.length_map, tl, List.take_of_length_le (by rw [List.length_take]; omega)] at hC
    have eC : ((xs.take f.toNat).map fun s => V.bl (belowB a s)) = ((xs.take f.toNat).map (belowB a)).map V.bl := by
      rw [List.map_map]
      rfl
    rw [eC] at hC
    refine ⟨C, _, rfl, .inl (.inl hC), ?_⟩
    rw [all_map_id]
    have s12 := s1.trans s2
    refine ⟨_, rfl, ite2 (fun e1 => ?_) (fun e1 => ?_)⟩
    case refine_2 =>
      have z := q1 H' s12
      unfold closeOf at z
      rw [Bool.eq_false_iff.mpr e1, Bool.false_and] at z
      exact z
    have q2 : ∀ H', Same H H' → Q (.bl ((xs.drop f.toNat).all (fromB a) && decide (V.int (vsum (xs.take f.toNat)) = V.int w))) H' := fun H' s => by
      have z := q1 H' s
      unfold closeOf at z
      rw [e1, Bool.true_and] at z
      exact z
    clear q1
    -- all from there on
    have hS2 : SqT K H' ss (us.map V.ref) := sqT_same s12 hS
    refine ⟨.ref ss, rfl, .int f, rfl, f, rfl, ss, _, rfl, hS2, fun e2 H3 s3 he => ?_⟩
    rw [cut_fromM V.ref us f f0] at he
    have s13 := s12.trans s3
    have hp3 : Paired (SlAt H3) us xs := sls_kept (Same.kt s13) hp
    have dl : (us.drop f.toNat).length = us.length - f.toNat := List.length_drop
    refine ⟨e2, rfl, ⟨_, he⟩, fun D nD => lc_tup (K := K) (a := e2) (xs := (us.drop f.toNat).map V.ref) (fun i H' => Same H3 H' ∧ H' D = some (.lst (((xs.drop f.toNat).take i).map fun s => V.bl (fromB a s))) ∧ i ≤ 1000) ⟨same_new nD, upd_same, Nat.zero_le _⟩ (fun i H' _ z => sqT_same z.1 he) (fun i x H' hx z => ?_) (fun H4 z => ?_)⟩
    · obtain ⟨s4, hD, _⟩ := z
      have il := (List.getElem?_eq_some_iff.mp hx).1
      rw [List.length_map, dl] at il
      rw [List.getElem?_map] at hx
      obtain ⟨u, hu, rfl⟩ := Option.map_eq_some_iff.mp hx
      rw [List.getElem?_drop] at hu
      obtain ⟨z, hzi, hz⟩ := sls_at hp3 hu
      have hzi' : (xs.drop f.toNat)[i]? = some z := by rw [List.getElem?_drop]; exact hzi
      obtain ⟨tv, hz1, hz2⟩ := hz.kept (Same.kt s4)
      refine ⟨rfl, .ref u, rfl, u, _, 0, _, rfl, rfl, .inl (.inl hz1), atI_nat (j := 0) rfl, .int a, rfl, _, _, rfl, rfl, _, hD, ?_, same_keep s4 nD, ?_, by omega⟩
      · rw [List.length_map, List.length_take, List.length_drop]
        exact small (by omega)
      · rw [upd_same, map_take_snoc _ hzi']
        rfl
    obtain ⟨s4, hD, _⟩ := z
    rw [List.length_map, dl, List.take_of_length_le (by rw [List.length_drop]; omega)] at hD
    have eD : ((xs.drop f.toNat).map fun s => V.bl (fromB a s)) = ((xs.drop f.toNat).map (fromB a)).map V.bl := by
      rw [List.map_map]
      rfl
    rw [eD] at hD
    refine ⟨D, _, rfl, .inl (.inl hD), ?_⟩
    rw [all_map_id]
    have s14 := s13.trans s4
    refine ⟨_, rfl, ite2 (fun e3 => ?_) (fun e3 => ?_)⟩
    case refine_2 =>
      have z := q2 H4 s14
      rw [Bool.eq_false_iff.mpr e3, Bool.false_and] at z
      exact z
    have q3 : ∀ H', Same H H' → Q (.bl (decide (V.int (vsum (xs.take f.toNat)) = V.int w))) H' := fun H' s => by
      have z := q2 H' s
      rw [e3, Bool.true_and] at z
      exact z
    clear q2
    -- versions
    have s24 : Same H1 H4 := (s2.trans s3).trans s4
    have hb4 : SqT K H4 b ((us.take f.toNat).map V.ref) := sqT_same s24 hb
    refine ⟨.ref b, rfl, b, rfl, ⟨_, hb4⟩, fun G nG => lc_tup (K := K) (a := b) (xs := (us.take f.toNat).map V.ref) (fun i H' => Same H4 H' ∧ H' G = some (.lst ((((xs.take f.toNat).take i).map fun s => (s.vers.length : Int)).map V.int)) ∧ i ≤ 1000) ⟨same_new nG, upd_same, Nat.zero_le _⟩ (fun i H' _ z => sqT_same z.1 hb4) (fun i x H' hx z => ?_) (fun H5 z => ?_)⟩
    · obtain ⟨s5, hG, _⟩ := z
      obtain ⟨u, z, rfl, hz, hzi⟩ := at1 H' i x (s24.trans s5) hx
      have il := (List.getElem?_eq_some_iff.mp hx).1
      rw [List.length_map, tl] at il
      obtain ⟨tv, hz1, hz2⟩ := hz
      refine ⟨rfl, .ref u, rfl, u, _, 1, _, rfl, rfl, .inl (.inl hz1), atI_nat (j := 1) rfl, tv, _, rfl, .inr (.inl (.inl hz2)), _, hG, ?_, same_keep s5 nG, ?_, by omega⟩
      · rw [List.length_map, List.length_map, List.length_take, List.length_take]
        exact small (by omega)
      · rw [upd_same, map_take_snoc (fun s => (s.vers.length : Int)) hzi, List.map_append, List.length_map]
        rfl
    obtain ⟨s5, hG, _⟩ := z
    rw [List.length_map, tl, List.take_of_length_le (by rw [List.length_take]; omega)] at hG
    exact ⟨G, _, rfl, .inl (.inl hG), .int w, rfl, rfl, q3 _ (s14.trans s5)⟩
end
def sp_is_true (K : PySem.W.Frag) : Sp := fun vs H Q _ => ∃ (t h : Addr) (l : Lt) (ls : List Lg) (g : Lg) (r : List Lg), vs = [.ref t, .ref h] ∧ LtAt H t l ∧ HistAt H h ls ∧ (∀ g ∈ ls, g.slots.length ≤ 1000) ∧ ls.filter (fun g => decide (V.str g.name = V.str l.name)) = g :: r ∧ l.Nn ∧ ∀ H', Same H H' → Q (.bl (trueIn g l)) H'
section
variable {P : Program} {w : World} {K : PySem.W.Frag} {mg : Str → Option Value} {base : Heap}
theorem ok_is_true (T : Ctx K mg) : FnOk P w K mg base CX0 2 T.f_is_true T.fd_is_true ["letter", "history"] (sp_is_true K) := by
  refine T.F_is_true.ok sc_is_true (fun vs H Q E h => ?_) (fun cdv A outer s H vs Q E hr h => ?_)
  · obtain ⟨t, h', l, ls, g, r, rfl, _⟩ := h
    rfl
  · obtain ⟨t, h0, l, ls, g, r, rfl, ht, hh, few, ef, nn, q⟩ := h
    refine ⟨_, (pss_cons (ps_asg (pv 0) (Star2.pg_star (i := 2) rfl (pgs_cons (pg_name (i := 2) sc_is_true.nd rfl (Or.inl rfl)) (pgs_cons (pg_name (i := 3) sc_is_true.nd rfl (Or.inl rfl)) (Star2.pgs_star (pg_name (i := 4) sc_is_true.nd rfl (Or.inl rfl)))))))
      (pss_cons (ps_asg (pe_call (ok_log_of T) (hr.mono (by decide)) (by rfl) T.g_log_of T.F_log_of.kp T.b_log_of .nil pass0 (pa_cons (pv 1) (pa_cons (pv 3) pa_nil))) (pg_tup (by rfl) (pgs_cons (pg_name (i := 5) sc_is_true.nd rfl (Or.inl rfl)) (pgs_cons (pg_name (i := 6) sc_is_true.nd rfl (Or.inl rfl)) pgs_nil))))
      (pss_cons (ps_if (pt_cmpR op_eq (pv 2) pe_str (nomark _))
        (pss_one (ps_ret (StX.pe_callS2 (FnOk.raw (ok_is_read_true T) T.b_is_read_true .nil) (hr.mono (by decide)) T.F_is_read_true.kp (by rfl) T.g_is_read_true pass0 (pa_cons (pv 6) (StX.pa_star (pv 4) pa_nil)))))
        pss_nil)
      (pss_cons (ps_if (pt_cmpR op_eq (pv 2) pe_str (nomark _))
        (pss_one (ps_ret (StX.pe_callS2 (FnOk.raw (ok_is_close_true T) T.b_is_close_true .nil) (hr.mono (by decide)) T.F_is_close_true.kp (by rfl) T.g_is_close_true pass0 (pa_cons (pv 6) (StX.pa_star (pv 4) pa_nil)))))
        pss_nil)
      (pss_cons (ps_asg (pv 4) (pg_lst (by rfl) (pgs_cons (pg_name (i := 7) sc_is_true.nd rfl (Or.inl rfl)) (pgs_cons (pg_name (i := 8) sc_is_true.nd rfl (Or.inl rfl)) pgs_nil))))
      (pss_one (ps_ret (pe_chain op_le op_le (pv 7) (pv 5) (pv 8))))))))), ?_⟩
    have ht' : H t = some (.tup (.str l.kind :: .str l.name :: l.nums.map optV)) := by rw [← Lt.vals_eq]; exact ht
    have gm : g ∈ ls := (List.mem_filter.mp (by rw [ef]; exact List.mem_cons_self)).1
    have fewg := few g gm
    refine ⟨.ref t, rfl, t, _, rfl, .inl (.inl ht'), by simp only [List.length_cons]; omega, fun N nN => ?_⟩
    have s1 := same_new (o := .lst (List.drop 2 (.str l.kind :: .str l.name :: l.nums.map optV))) nN
    have hN : upd H N (.lst (List.drop 2 (.str l.kind :: .str l.name :: l.nums.map optV))) N = some (.lst (l.nums.map optV)) := upd_same
    refine ⟨_, _, rfl, _, _, rfl, _, _, rfl, rfl, ?_⟩
    generalize upd H N (.lst (List.drop 2 (.str l.kind :: .str l.name :: l.nums.map optV))) = H1 at s1 hN ⊢
    refine ⟨.ref h0, rfl, .str l.name, rfl, h0, ls, l.name, g, r, rfl, hh.kept (Same.kt s1), ef, fun H2 tt ss us s2 h1 h2 h3 => ?_⟩
    refine ⟨tt, _, rfl, .inl (.inl h1), rfl, _, _, rfl, _, _, rfl, rfl, ?_⟩
    have s12 := s1.trans s2
    have hN2 := s2 _ _ hN
    cases l with
    | read n s v a x =>
      obtain ⟨n1, n2⟩ := nn
      refine ⟨.str "read", rfl, rfl, _, rfl, ite2 (fun _ => ?_) (fun e => absurd (decide_eq_true rfl) e)⟩
      exact ⟨.ref ss, rfl, .ref N, rfl, N, _, rfl, .inr (.inl (.inl hN2)), ss, us, g.slots, s, v, a, x, rfl, h2, h3, n1, n2, q _ s12⟩
    | close n f a w =>
      refine ⟨.str "close", rfl, rfl, _, rfl, ite2 (fun e => absurd e (by decide +kernel)) (fun _ => ?_)⟩
      refine ⟨.str "close", rfl, rfl, _, rfl, ite2 (fun _ => ?_) (fun e => absurd (decide_eq_true rfl) e)⟩
      exact ⟨.ref ss, rfl, .ref N, rfl, N, _, rfl, .inr (.inl (.inl hN2)), ss, us, g.slots, f, a, w, rfl, h2, h3, fewg, nn, fun H3 s3 => q _ (s12.trans s3)⟩
    | clock n lo hi =>
      have q1 := q _ s12
      refine ⟨.str "clock", rfl, rfl, _, rfl, ite2 (fun e => absurd e (by decide +kernel)) (fun _ => ?_)⟩
      refine ⟨.str "clock", rfl, rfl, _, rfl, ite2 (fun e => absurd e (by decide +kernel)) (fun _ => ?_)⟩
      refine ⟨.ref N, rfl, N, _, rfl, .inl (.inl hN2), rfl, _, _, rfl, _, _, rfl, rfl, ?_⟩
      refine ⟨.int lo, rfl, .int g.off, rfl, _, _, rfl, rfl, _, rfl, ite2 (fun e => ?_) (fun e => ?_)⟩
      · have c : lo ≤ g.off := of_decide_eq_true e
        have e2 : trueIn g (.clock n lo hi) = decide (g.off ≤ hi) := if_pos c
        rw [e2] at q1
        exact ⟨.int hi, rfl, _, _, rfl, rfl, q1⟩
      · have c : ¬ lo ≤ g.off := fun z => e (decide_eq_true z)
        have e2 : trueIn g (.clock n lo hi) = false := if_neg c
        rw [e2] at q1
        exact q1
end
def trueOf (ls : List Lg) (l : Lt) : Bool := match ls.filter (fun g => decide (V.str g.name = V.str l.name)) with
  | g :: _ => trueIn g l
  | [] => false
def Known (ls : List Lg) (l : Lt) : Prop := l.Nn ∧ ∃ g r, ls.filter (fun g => decide (V.str g.name = V.str l.name)) = g :: r
def sp_agrees (K : PySem.W.Frag) : Sp := fun vs H Q _ => ∃ (h t : Addr) (ls : List Lg) (us : List Addr) (bs : List Lt), vs = [.ref h, .ref t] ∧ HistAt H h ls ∧ (∀ g ∈ ls, g.slots.length ≤ 1000) ∧ (SqL K H t (us.map V.ref) ∨ SqT K H t (us.map V.ref)) ∧ Paired (LtAt H) us bs ∧ (∀ l ∈ bs, Known ls l) ∧ ∀ H', Same H H' → Q (.bl (bs.all (trueOf ls))) H'
section
variable {P : Program} {w : World} {K : PySem.W.Frag} {mg : Str → Option Value} {base : Heap}
set_option pp.maxSteps 150 in
theorem ok_agrees (T : Ctx K mg) : FnOk P w K mg base CX0 3 T.f_agrees T.fd_agrees ["history", "letters"] (sp_agrees K) := by
  refine T.F_agrees.ok sc_agrees (fun vs H Q E h => ?_) (fun cdv A outer s H vs Q E hr h => ?_)
  · obtain ⟨h', t, ls, us, bs, rfl, _⟩ := h
    rfl
  · obtain ⟨h0, t, ls, us, bs, rfl, hh, few, ht, hp, kn, q⟩ := h
    refine ⟨_, (pss_cons (ps_for PassesOwn.never rfl (Eith.pi_either (pv 1)) (pg_name (i := 2) sc_agrees.nd rfl (.inl rfl))
        (pss_one (ps_if (pt_not (pt_val (pe_call (ok_is_true T) (hr.mono (by decide)) (by rfl) T.g_is_true T.F_is_true.kp T.b_is_true .nil pass0 (pa_cons (pv 2) (pa_cons (pv 0) pa_nil)))))
        (pss_one (ps_ret pe_bl))
        pss_nil)))
      (pss_one (ps_ret pe_bl))), ?_⟩
    have ul : us.length = bs.length := hp.length
    rcases ht with ht | ht
    · refine .inl ⟨.ref t, rfl, t, rfl, ⟨_, ht⟩, for_list (K := K) (a := t) (xs := us.map V.ref) (fun i σ H' => ∃ y : Option V, σ = [some (.ref h0), some (.ref t), y] ∧ Same H H' ∧ (bs.take i).all (trueOf ls) = true) ⟨none, rfl, Same.refl _, by rw [List.take_zero]; rfl⟩ (fun i σ H' _ z => ?_) (fun i x σ H' hx z => ?_) (fun σ H' z => ?_)⟩
      · obtain ⟨_, _, s, _⟩ := z
        exact sqL_same s ht
      · obtain ⟨y, rfl, s, al⟩ := z
        rw [List.getElem?_map] at hx
        obtain ⟨u, hu, rfl⟩ := Option.map_eq_some_iff.mp hx
        obtain ⟨l, hl, hla⟩ := lts_at hp hu
        obtain ⟨nn, g, r, ef⟩ := kn l (List.mem_of_getElem? hl)
        have et : trueOf ls l = trueIn g l := by
          unfold trueOf
          rw [ef]
        refine ⟨.ref u, rfl, .ref h0, rfl, u, h0, l, ls, g, r, rfl, s _ _ hla, hh.kept (Same.kt s), few, ef, nn, fun H2 s2 => ?_⟩
        have e1 : (bs.take (i + 1)).all (trueOf ls) = trueIn g l := by
          rw [List.take_add_one, hl, List.all_append, al, Bool.true_and]
          show (trueOf ls l && true) = _
          rw [Bool.and_true, et]
        cases c : trueIn g l with
        | true =>
          refine ⟨true, rfl, iteF ⟨_, rfl, s.trans s2, ?_⟩⟩
          rw [e1, c]
        | false =>
          refine ⟨false, rfl, iteT ?_⟩
          have e2 : bs.all (trueOf ls) = false := by
            rw [List.all_eq_false]
            exact ⟨l, List.mem_of_getElem? hl, by rw [et, c]; exact Bool.false_ne_true⟩
          have q2 := q _ (s.trans s2)
          rw [e2] at q2
          exact q2
      · obtain ⟨y, rfl, s, al⟩ := z
        rw [List.length_map, ul, List.take_length] at al
        have q2 := q _ s
        rw [al] at q2
        exact q2
    · refine .inr ⟨.ref t, rfl, t, rfl, ⟨_, ht⟩, for_tup (K := K) (a := t) (xs := us.map V.ref) (fun i σ H' => ∃ y : Option V, σ = [some (.ref h0), some (.ref t), y] ∧ Same H H' ∧ (bs.take i).all (trueOf ls) = true) ⟨none, rfl, Same.refl _, by rw [List.take_zero]; rfl⟩ (fun i σ H' _ z => ?_) (fun i x σ H' hx z => ?_) (fun σ H' z => ?_)⟩
      · obtain ⟨_, _, s, _⟩ := z
        exact sqT_same s ht
      · obtain ⟨y, rfl, s, al⟩ := z
        rw [List.getElem?_map] at hx
        obtain ⟨u, hu, rfl⟩ := Option.map_eq_some_iff.mp hx
        obtain ⟨l, hl, hla⟩ := lts_at hp hu
        obtain ⟨nn, g, r, ef⟩ := kn l (List.mem_of_getElem? hl)
        have et : trueOf ls l = trueIn g l := by
          unfold trueOf
          rw [ef]
        refine ⟨.ref u, rfl, .ref h0, rfl, u, h0, l, ls, g, r, rfl, s _ _ hla, hh.kept (Same.kt s), few, ef, nn, fun H2 s2 => ?_⟩
        have e1 : (bs.take (i + 1)).all (trueOf ls) = trueIn g l := by
          rw [List.take_add_one, hl, List.all_append, al, Bool.true_and]
          show (trueOf ls l && true) = _
          rw [Bool.and_true, et]
        cases c : trueIn g l with
        | true =>
          refine ⟨true, rfl, iteF ⟨_, rfl, s.trans s2, ?_⟩⟩
          rw [e1, c]
        | false =>
          refine ⟨false, rfl, iteT ?_⟩
          have e2 : bs.all (trueOf ls) = false := by
            rw [List.all_eq_false]
            exact ⟨l, List.mem_of_getElem? hl, by rw [et, c]; exact Bool.false_ne_true⟩
          have q2 := q _ (s.trans s2)
          rw [e2] at q2
          exact q2
      · obtain ⟨y, rfl, s, al⟩ := z
        rw [List.length_map, ul, List.take_length] at al
        have q2 := q _ s
        rw [al] at q2
        exact q2
end
def sp_reads_of (K : PySem.W.Frag) : Sp := fun vs H Q _ => ∃ (h : Addr) (ls : List Lg), vs = [.ref h] ∧ HistAt H h ls ∧ HistFew ls ∧ ∀ H' b us, Same H H' → H' b = some (.tup (us.map V.ref)) → Paired (LtAt H') us (dueL ls) → Q (.ref b) H'
section
variable {P : Program} {w : World} {K : PySem.W.Frag} {mg : Str → Option Value} {base : Heap}
set_option pp.maxSteps 150 in
set_option maxHeartbeats 600000 in
theorem ok_reads_of (T : Ctx K mg) : FnOk P w K mg base CX0 1 T.f_reads_of T.fd_reads_of ["history"] (sp_reads_of K) := by
  refine T.F_reads_of.ok sc_reads_of (fun vs H Q E h => ?_) (fun cdv A outer s H vs Q E hr h => ?_)
  · obtain ⟨h', ls, rfl, _⟩ := h
    rfl
  · obtain ⟨h0, ls, rfl, ⟨gs, hh, hgs⟩, few, q⟩ := h
    refine ⟨_, (pss_one (ps_ret (pe_callTy call_tuple_of (by rfl) T.m_tuple (by decide +kernel) (pa_cons (Lc3.pe_lc3 (own := [("name", 1), ("_", 2), ("slots", 3), ("slot", 4), ("stamp", 5), ("versions", 6), ("version", 7), ("value", 8)]) (vs1 := [4, 5, 6, 7, 8]) (vs2 := [7, 8]) (g := gTup K 3 (gCons (gName 1) (gCons (gName 2) (gCons (gName 3) gNil)))) (g1 := gTup K 2 (gCons (gName 4) (gCons (gTup K 2 (gCons (gName 5) (gCons (gName 6) gNil))) gNil))) (g2 := gTup K 2 (gCons (gName 7) (gCons (gName 8) gNil))) (by rfl) sc_reads_of.nd (pi_tup (pv 0)) (blkOk_by (own := [("name", 1), ("_", 2), ("slots", 3), ("slot", 4), ("stamp", 5), ("versions", 6), ("version", 7), ("value", 8)]) (N := ["history", "name", "_", "slots", "slot", "stamp", "versions", "version", "value"]) (sc := defScope s_reads_of) (by decide +kernel)) (by decide) (by decide) (fun _ _ _ _ _ => pg_tup rfl (pgs_cons (pg_name (i := 1) sc_reads_of.nd rfl (Or.inl rfl)) (pgs_cons (pg_name (i := 2) sc_reads_of.nd rfl (Or.inl rfl)) (pgs_cons (pg_name (i := 3) sc_reads_of.nd rfl (Or.inl rfl)) pgs_nil)))) (fun _ _ _ _ _ => pts_nil) (fun _ _ _ _ _ => (show PI _ _ _ (EnumT.iEnumD K _ _) from (EnumT.pi_enumD (by rfl) T.m_enumerate (pa_cons (pv 3) pa_nil) (pk_cons pe_int pk_nil)))) (fun _ _ _ _ _ => pg_tup rfl (pgs_cons (pg_name (i := 4) sc_reads_of.nd rfl (Or.inl rfl)) (pgs_cons (pg_tup rfl (pgs_cons (pg_name (i := 5) sc_reads_of.nd rfl (Or.inl rfl)) (pgs_cons (pg_name (i := 6) sc_reads_of.nd rfl (Or.inl rfl)) pgs_nil))) pgs_nil))) (fun _ _ _ _ _ => pts_nil) (fun _ _ _ _ _ => (show PI _ _ _ (EnumT.iEnumE K _) from (EnumT.pi_enumE (by rfl) T.m_enumerate (pa_cons (pv 6) pa_nil)))) (fun _ _ _ _ _ => pg_tup rfl (pgs_cons (pg_name (i := 7) sc_reads_of.nd rfl (Or.inl rfl)) (pgs_cons (pg_name (i := 8) sc_reads_of.nd rfl (Or.inl rfl)) pgs_nil))) (fun _ _ _ _ _ => pts_nil) (fun _ _ _ _ _ => (pe_tup (pa_cons pe_str (pa_cons (pv 1) (pa_cons (pv 4) (pa_cons (pv 7) (pa_cons (pv 5) (pa_cons (pv 8) pa_nil))))))))) pa_nil)))), ?_⟩
    have big : (40000 : Nat) < sizeLine := by decide
    have gl : gs.length = ls.length := hgs.length
    have f1 := few.logs
    refine ⟨.ref h0, rfl, h0, rfl, ⟨_, .inl (.inl hh)⟩, fun D nD => EnumT.walk_three (K := K) (a := h0) (xs := gs.map V.ref) (by decide) (by decide) (by decide) (by decide) (by decide) (by decide) (show 1 < 9 by decide) (show 2 < 9 by decide) (show 3 < 9 by decide) (fun i H' => Same H H' ∧ ∃ us : List Addr, H' D = some (.lst (us.map V.ref)) ∧ Paired (LtAt H') us (dueL (ls.take i)) ∧ us.length ≤ 1440 * i) ⟨same_new nD, [], upd_same, by rw [List.take_zero]; exact .nil, Nat.zero_le _⟩ (fun i H' z => .inl (.inl (z.1 _ _ hh))) (fun i x H1 hx z => ?_) (fun H1 z => ?_)⟩
    · obtain ⟨s1, us, hD1, hp1, len1⟩ := z
      rw [List.getElem?_map] at hx
      obtain ⟨ga, hga, rfl⟩ := Option.map_eq_some_iff.mp hx
      have il := (List.getElem?_eq_some_iff.mp hga).1
      obtain ⟨g, hg, tt, ss, hat, htt, hss⟩ := lgs_at hgs hga
      have gm := List.mem_of_getElem? hg
      have sl := few.slots g gm
      have ssl : ss.length = g.slots.length := hss.length
      have ed : dueL (ls.take (i + 1)) = dueL (ls.take i) ++ (slotsFrom g.name 0 g.slots).flatten := by
        unfold dueL
        rw [List.map_take, List.map_take]
        exact flat_take (by rw [List.getElem?_map, hg]; rfl)
      refine ⟨ga, _, _, _, rfl, .inl (.inl (s1 _ _ hat)), fun σ1 n1 o1 a1 a2 a3 => ?_⟩
      have n1' : σ1.length = 9 := n1
      refine ⟨.ref tt, a3, tt, _, 1, rfl, rfl, by decide, by decide, .inl (.inl (s1 _ _ htt)), EnumT.walk_enum_pair (K := K) (a := tt) (xs := ss.map V.ref) (c := 1) (by decide) (by decide) (by decide) (by decide) (by decide) (by decide) (by omega) (by omega) (by omega) (fun j H' => Same H H' ∧ ∃ us : List Addr, H' D = some (.lst (us.map V.ref)) ∧ Paired (LtAt H') us (dueL (ls.take i) ++ ((slotsFrom g.name 0 g.slots).take j).flatten) ∧ us.length ≤ 1440 * i + 24 * j)
        ⟨s1, us, hD1, by rw [List.take_zero, List.flatten_nil, List.append_nil]; exact hp1, by omega⟩ (fun j H' z => .inl (.inl (z.1 _ _ htt))) (fun j x T1 H2 hx z nT1 => ?_) (fun H2 z => ?_)⟩
      · obtain ⟨s2, us, hD2, hp2, len2⟩ := z
        rw [List.getElem?_map] at hx
        obtain ⟨sa, hsa0, rfl⟩ := Option.map_eq_some_iff.mp hx
        have hj := (List.getElem?_eq_some_iff.mp hsa0).1
        obtain ⟨s, hs, tv, hsa, htv⟩ := sls_at hss hsa0
        have vl := few.vers g gm s (List.mem_of_getElem? hs)
        have es : ((slotsFrom g.name 0 g.slots).take (j + 1)).flatten = ((slotsFrom g.name 0 g.slots).take j).flatten ++ versFrom g.name ((j : Int) + 1) s.stamp 0 s.vers := flat_take (by rw [slotsFrom_at, hs, Nat.zero_add]; rfl)
        have kT := same_new (o := .tup [.int (1 + (j : Int)), .ref sa]) nT1
        have sT := s2.trans kT
        refine ⟨sa, _, _, rfl, .inl (.inl (sT _ _ hsa)), fun σ2 n2 o2 b1 b2 b3 => ?_⟩
        refine ⟨.ref tv, b3, tv, _, rfl, .inl (.inl (sT _ _ htv)), EnumT.walk_enum_two (K := K) (a := tv) (xs := s.vers.map optV) (c := 0) (by decide) (by decide) (by decide) (by omega) (by omega) (fun k H' => Same H H' ∧ ∃ us : List Addr, H' D = some (.lst (us.map V.ref)) ∧ Paired (LtAt H') us (dueL (ls.take i) ++ ((slotsFrom g.name 0 g.slots).take j).flatten ++ (versFrom g.name ((j : Int) + 1) s.stamp 0 s.vers).take k) ∧ us.length ≤ 1440 * i + 24 * j + k)
          ⟨sT, us, kT _ _ hD2, by rw [List.take_zero, List.append_nil]; exact lts_kept (Same.kt kT) hp2, by omega⟩ (fun k H' z => .inl (.inl (z.1 _ _ htv))) (fun k x T2 H3 hx z nT2 σ3 n3 o3 c1 c2 => ?_) (fun H3 z => ?_)⟩
        · obtain ⟨s3, us, hD3, hp3, len3⟩ := z
          rw [List.getElem?_map] at hx
          obtain ⟨o, ho, rfl⟩ := Option.map_eq_some_iff.mp hx
          have hk := (List.getElem?_eq_some_iff.mp ho).1
          have k2 := same_new (o := .tup [.int (0 + (k : Int)), optV o]) nT2
          refine ⟨.str g.name, (o3 1 (by decide)).trans ((o2 1 (by decide)).trans a1), .int (1 + (j : Int)), (o3 4 (by decide)).trans b1, .int (0 + (k : Int)), c1, .int s.stamp, (o3 5 (by decide)).trans b2, optV o, c2, small' (n := 6) (by decide), fun t nt => ?_⟩
          have k3 := same_new (o := .tup [.str "read", .str g.name, .int (1 + (j : Int)), .int (0 + (k : Int)), .int s.stamp, optV o]) nt
          have ev : [V.str "read", .str g.name, .int (1 + (j : Int)), .int (0 + (k : Int)), .int s.stamp, optV o] = (Lt.read g.name ((j : Int) + 1) (k : Int) s.stamp o).vals := by
            rw [show (1 : Int) + (j : Int) = (j : Int) + 1 by omega, show (0 : Int) + (k : Int) = (k : Int) by omega]
            rfl
          have hD4 := k3 _ _ (k2 _ _ hD3)
          have kk := KT.trans (Same.kt (k2.trans k3)) (kt_lst (ys := us.map V.ref ++ [.ref t]) hD4)
          refine ⟨_, hD4, by rw [List.length_map]; omega, same_keep (s3.trans (k2.trans k3)) nD, us ++ [t], by rw [upd_same, List.map_append]; rfl, ?_, by rw [List.length_append]; show _ + 1 ≤ _; omega⟩
          rw [List.take_add_one, versFrom_at, ho, Nat.zero_add, ← List.append_assoc]
          refine (lts_kept kk hp3).snoc ?_
          refine kt_lst (ys := us.map V.ref ++ [.ref t]) hD4 _ _ ?_
          rw [upd_same]
          exact congrArg (fun x => some (HO.tup x)) ev
        · obtain ⟨s3, us, hD3, hp3, len3⟩ := z
          rw [List.length_map] at hp3 len3
          rw [← versFrom_len g.name ((j : Int) + 1) s.stamp 0 s.vers, List.take_length] at hp3
          exact ⟨s3, us, hD3, by rw [es, ← List.append_assoc]; exact hp3, by omega⟩
      · obtain ⟨s2, us, hD2, hp2, len2⟩ := z
        rw [List.length_map] at hp2 len2
        rw [ssl, ← slotsFrom_len g.name 0 g.slots, List.take_length, ← ed] at hp2
        exact ⟨s2, us, hD2, hp2, by omega⟩
    · obtain ⟨s1, us, hD1, hp1, len1⟩ := z
      rw [List.length_map, gl, List.take_length] at hp1
      exact ⟨D, _, rfl, .inl ⟨.inl (.inl hD1), fun b nb => q _ b us (s1.trans (same_new nb)) upd_same (lts_kept (Same.kt (same_new nb)) hp1)⟩⟩
end
def sp_l_draws (K : PySem.W.Frag) : Sp := fun vs H Q _ => ∃ (a : Addr) (ns : List Int) (m : Nat), vs = [.ref a, .int (m : Int)] ∧ SqL K H a (ns.map V.int) ∧ ns.length ≤ 1000 ∧ m ≤ 1000 ∧
  ∀ H' d, Same H H' → H d = none → DrA H' d → Q (.ref d) H'
section
variable {P : Program} {w : World} {K : PySem.W.Frag} {mg : Str → Option Value} {base : Heap}
theorem ok_l_draws (T : Ctx K mg) : FnOk P w K mg base CX0 1 T.f_l_draws T.fd_l_draws ["script", "many"] (sp_l_draws K) := by
  refine T.F_l_draws.ok sc_l_draws (fun vs H Q E h => ?_) (fun cdv A outer s H vs Q E hr h => ?_)
  · obtain ⟨a, ns, m, rfl, _⟩ := h
    rfl
  · obtain ⟨a, ns, m, rfl, hS, hlen, hm, q⟩ := h
    refine ⟨_, (pss_cons (ps_setLc (i := 2) (own := [("cell", 8)]) (g := gName 8) (by rfl) sc_l_draws.nd rfl rfl (sw_true rfl rfl rfl (by decide +kernel)) (pi_list (pv 0)) (blkOk_by (own := [("cell", 8)]) (N := ["script", "many", "cells", "rest", "draws", "k", "at", "once", "cell"]) (sc := defScope s_l_draws) (by decide +kernel)) (fun _ _ _ _ _ => pg_name (i := 8) sc_l_draws.nd rfl (Or.inl rfl)) (fun _ _ _ _ _ => pts_nil) (fun _ _ _ _ _ => (pe_callTy call_int1 (by rfl) T.m_int (by decide +kernel) (pa_cons (pv 8) pa_nil))))
      (pss_cons (ps_if (pt_cmpR op_eq (pe_callB call_len_seq (by rfl) T.m_len (by decide +kernel) (pa_cons (pv 2) pa_nil)) pe_int (nomark _))
        (pss_one (ps_expr (pe_bm PySem.F.plainAttrs_list PySem.F.slot_list_append PySem.F.type_list_append mt_append (pv 2) (pa_cons pe_int pa_nil))))
        pss_nil)
      (pss_cons (ps_set (i := 3) sc_l_draws.nd rfl (.inl rfl) (pe_callTy call_list_of (by rfl) T.m_list (by decide +kernel) (pa_cons (pv 2) pa_nil)))
      (pss_cons (ps_set (i := 4) sc_l_draws.nd rfl (.inl rfl) (pe_lst pa_nil))
      (pss_cons (ps_for PassesOwn.never rfl (pi_range1 (by rfl) T.m_range (pa_cons (pv 1) pa_nil)) (pg_name (i := 5) sc_l_draws.nd rfl (.inl rfl))
        (pss_cons (ps_set (i := 6) sc_l_draws.nd rfl (.inl rfl) (pe_op op_mod (pv 5) (pe_callB call_len_seq (by rfl) T.m_len (by decide +kernel) (pa_cons (pv 2) pa_nil))))
      (pss_one (ps_if (pt_cmpR op_ge (pe_ix ix_list (pv 2) (pv 6) (fun _ _ => rfl)) (pe_op op_pow pe_int pe_int) (nomark _))
        (pss_cons (ps_expr (pe_bm PySem.F.plainAttrs_list PySem.F.slot_list_append PySem.F.type_list_append mt_append (pv 4) (pa_cons (pe_op op_mod (pe_callTy call_int1 (by rfl) T.m_int (by decide +kernel) (pa_cons (pe_ix ix_list (pv 3) (pv 6) (fun _ _ => rfl)) pa_nil)) pe_int) pa_nil)))
      (pss_one (ps_asg (pe_op op_fdiv (pe_ix ix_list (pv 3) (pv 6) (fun _ _ => rfl)) pe_int) (pg_sub (pv 3) (pv 6) set_list))))
        (pss_cons (ps_set (i := 7) sc_l_draws.nd rfl (.inl rfl) (pe_op op_mod (pe_callTy call_int1 (by rfl) T.m_int (by decide +kernel) (pa_cons (pe_op op_add (pe_op op_add (pe_op op_mul (pe_ix ix_list (pv 2) (pv 6) (fun _ _ => rfl)) pe_int) (pe_op op_mul (pv 5) pe_int)) pe_int) pa_nil)) pe_int))
      (pss_one (ps_expr (pe_bm PySem.F.plainAttrs_list PySem.F.slot_list_append PySem.F.type_list_append mt_append (pv 4) (pa_cons (pe_op op_mod (pe_callTy call_int1 (by rfl) T.m_int (by decide +kernel) (pa_cons (pe_op op_add (pe_op op_add (pe_op op_mul (pv 7) (pv 7)) (pe_op op_mul pe_int (pv 7))) (pv 5)) pa_nil)) pe_int) pa_nil)))))))))
      (pss_cons (ps_expr (pe_bm0 PySem.F.plainAttrs_list PySem.F.slot_list_reverse PySem.F.type_list_reverse mt_reverse (pv 4)))
      (pss_one (ps_ret (pv 4))))))))), ?_⟩
    -- cells = [int(cell) for cell in script]
    refine ⟨.ref a, rfl, a, rfl, ⟨_, hS⟩, fun C hC => lc_list (K := K) (a := a) (xs := ns.map V.int) (fun i H1 => Same H H1 ∧ H1 C = some (.lst ((ns.take i).map V.int))) ⟨same_new hC, upd_same⟩ (fun i H1 _ p => p.1.seq hS) (fun i x H1 hx p => ?_) (fun H1 p => ?_)⟩
    · obtain ⟨hlt, hx'⟩ := List.getElem?_eq_some_iff.mp hx
      rw [List.length_map] at hlt
      have ex : x = .int ns[i] := by
        rw [← hx', List.getElem_map]
      subst ex
      refine ⟨rfl, _, rfl, .inl ⟨_, rfl, _, p.2, ?_, ?_, ?_⟩⟩
      · rw [List.length_map, List.length_take]
        exact small (by omega)
      · exact fun b o e => by
          rw [upd_ne (ne_of_none e hC)]
          exact p.1 b o e
      · rw [upd_same, List.take_add_one, List.getElem?_eq_getElem hlt, List.map_append]
        rfl
    · rw [List.length_map, List.take_length] at p
      obtain ⟨s1, hc⟩ := p
      refine ⟨.ref C, rfl, C, _, rfl, .inl (.inl (.inl hc)), rfl, _, rfl, ite2 (fun e => ?c1) (fun e => ?c2)⟩
      case' c1 =>
        have e0 : ns = [] := by
          have z : ((ns.map V.int).length : Int) = 0 := V.int.inj (of_decide_eq_true e)
          rw [List.length_map] at z
          exact List.length_eq_zero_iff.mp (by omega)
        subst e0
        refine ⟨.ref C, rfl, .inl ⟨rfl, _, .inl (.inl hc)⟩, C, _, _, rfl, rfl, hc, small (by decide), ?_⟩
        obtain ⟨H2, cs, hH, hcs, hcl, s2, hc2⟩ : ∃ (H2 : Hp) (cs : List Int), H2 = upd H1 C (.lst (List.map V.int [] ++ [.int 0])) ∧ cs ≠ [] ∧ cs.length ≤ 1000 ∧ Same H H2 ∧ H2 C = some (.lst (cs.map V.int)) :=
          ⟨_, [0], rfl, by simp, by decide, fun b o e => by rw [upd_ne (ne_of_none e hC)]; exact s1 b o e, upd_same⟩
        rw [← hH]
      case' c2 =>
        obtain ⟨H2, cs, hH, hcs, hcl, s2, hc2⟩ : ∃ (H2 : Hp) (cs : List Int), H2 = H1 ∧ cs ≠ [] ∧ cs.length ≤ 1000 ∧ Same H H2 ∧ H2 C = some (.lst (cs.map V.int)) :=
          ⟨H1, ns, rfl, fun z => by subst z; exact e (decide_eq_true rfl), hlen, s1, hc⟩
        rw [← hH]
      all_goals (
        have hcl0 : 0 < cs.length := by cases cs with | nil => exact absurd rfl hcs | cons x r => exact Nat.succ_pos _
        refine ⟨.ref C, rfl, C, _, rfl, .inl (.inl (.inl hc2)), fun r nr => ⟨Nat.zero_le _, fun D nD => ⟨.int m, rfl, m, rfl, by omega, by omega, ?_⟩⟩⟩
        have nrC : C ≠ r := ne_of_none hc2 nr
        have nDr : D ≠ r := fun e => by rw [e, upd_same] at nD; cases nD
        have nDC : C ≠ D := fun e => by rw [← e, upd_ne nrC, hc2] at nD; cases nD
        have nHD : H D = none := s2.free (by rw [upd_ne nDr] at nD; exact nD)
        have nHr : H r = none := s2.free nr
        refine for_range (lo := 0) (n := m) (fun i σ H3 => ∃ (y5 y6 y7 y8 : Option V) (rs ds : List Int), σ = [some (.ref a), some (.int m), some (.ref C), some (.ref r), some (.ref D), y5, y6, y7, y8] ∧
          Same H H3 ∧ H3 C = some (.lst (cs.map V.int)) ∧ H3 r = some (.lst (rs.map V.int)) ∧ rs.length = cs.length ∧ H3 D = some (.lst (ds.map V.int)) ∧ ds.length = i) ?_ (fun i σ H3 hi hp => ?_) (fun σ H3 hp => ?_)
        · refine ⟨none, none, none, none, cs, [], rfl, (s2.trans (same_new nr)).trans (same_new nD), ?_, ?_, rfl, upd_same, rfl⟩
          · rw [upd_ne nDC, upd_ne nrC]; exact hc2
          · rw [upd_ne nDr.symm, upd_same]
        · obtain ⟨y5, y6, y7, y8, rs, ds, rfl, s3, hC3, hr3, hrl, hD3, hdl⟩ := hp
          have e0 : (0 : Int) + (i : Int) = (i : Int) := by omega
          have hk0 : 0 ≤ ((0 : Int) + (i : Int)) % (cs.length : Int) := Int.emod_nonneg _ (by omega)
          have hk1 : ((0 : Int) + (i : Int)) % (cs.length : Int) < (cs.length : Int) := Int.emod_lt_of_pos _ (by omega)
          have hlenC : ((cs.map V.int).length : Int) = (cs.length : Int) := by rw [List.length_map]
          have hSC : SqL K H3 C (cs.map V.int) := .inl (.inl hC3)
          have hSr : SqL K H3 r (rs.map V.int) := .inl (.inl hr3)
          have more : ∀ (z : Int) (H4 : Hp), (∀ b o, H3 b = some o → b ≠ D → b ≠ r → H4 b = some o) → ∀ rs' : List Int, rs'.length = cs.length → H4 r = some (.lst (rs'.map V.int)) → H4 D = some (.lst (ds.map V.int ++ [.int z])) → ∀ y6 y7 : Option V,
              ∃ (z5 z6 z7 z8 : Option V) (rs ds : List Int), [some (.ref a), some (.int m), some (.ref C), some (.ref r), some (.ref D), some (.int ((0 : Int) + (i : Int))), y6, y7, y8] = [some (.ref a), some (.int m), some (.ref C), some (.ref r), some (.ref D), z5, z6, z7, z8] ∧
              Same H H4 ∧ H4 C = some (.lst (cs.map V.int)) ∧ H4 r = some (.lst (rs.map V.int)) ∧ rs.length = cs.length ∧ H4 D = some (.lst (ds.map V.int)) ∧ ds.length = i + 1 := fun z H4 k rs' hl' hr' hd' y6 y7 => by
            refine ⟨_, _, _, _, rs', ds ++ [z], rfl, fun b o e => k b o (s3 b o e) (ne_of_none e nHD) (ne_of_none e nHr), k C _ hC3 nDC nrC, hr', hl', ?_, ?_⟩
            · rw [hd', List.map_append]; rfl
            · rw [List.length_append, hdl]; rfl
          refine ⟨.int (0 + (i : Int)), rfl, .ref C, rfl, C, _, rfl, .inl hSC, _, _, rfl, rfl, by rw [hlenC]; omega, ?_⟩
          rw [hlenC]
          dsimp only
          generalize hkk : ((0 : Int) + (i : Int)) % (cs.length : Int) = kk at hk0 hk1 ⊢
          have hat : atI (cs.map V.int) kk = some (.int (cs[kk.toNat]'(by omega))) := atM_pos hk0 hk1
          have har : atI (rs.map V.int) kk = some (.int (rs[kk.toNat]'(by omega))) := atM_pos hk0 (by omega)
          generalize cs[kk.toNat]'(by omega) = cv at hat
          generalize rs[kk.toNat]'(by omega) = rv at har
          refine ⟨.ref C, rfl, .int kk, rfl, C, _, kk, _, rfl, rfl, hSC, hat, 10, 18, rfl, rfl, ⟨by decide, by decide, by decide⟩, _, _, rfl, rfl, _, rfl, ite2 (fun e => ?_) (fun e => ?_)⟩
          · have hge : (10 : Int) ^ (18 : Int).toNat ≤ cv := of_decide_eq_true e
            refine ⟨.ref D, rfl, .inl ⟨rfl, _, .inl (.inl hD3)⟩, .ref r, rfl, .int kk, rfl, r, _, kk, _, rfl, rfl, hSr, har, .inl ⟨_, rfl, _, _, rfl, rfl, (show (0 : Int) < 1000 by decide), D, _, _, rfl, rfl, hD3, ?_, ?_⟩⟩
            · rw [List.length_map]; exact small (by omega)
            · have nrD : r ≠ D := nDr.symm
              have hr4 : upd H3 D (.lst (ds.map V.int ++ [.int (rv % 1000)])) r = some (.lst (rs.map V.int)) := by rw [upd_ne nrD]; exact hr3
              have hj : ixN (rs.map V.int).length kk = some kk.toNat := by
                unfold ixN
                rw [if_pos hk0, if_pos (by rw [List.length_map]; omega)]
              refine ⟨.ref r, rfl, .int kk, rfl, r, _, kk, _, rfl, rfl, .inl (.inl hr4), har, _, _, rfl, rfl, ⟨by decide, by decide⟩, .ref r, rfl, .int kk, rfl, r, _, kk, _, rfl, rfl, hr4, hj, ?_⟩
              refine more (rv % 1000) _ (fun b o e n1 n2 => ?_) (rs.set kk.toNat (rv / 1000)) (by rw [List.length_set]; exact hrl) ?_ ?_ _ _
              · rw [upd_ne n2, upd_ne n1]; exact e
              · rw [upd_same, List.map_set]
              · rw [upd_ne nDr, upd_same]
          · refine ⟨.ref C, rfl, .int kk, rfl, C, _, kk, _, rfl, rfl, hSC, hat, _, _, rfl, rfl, .inr ⟨by decide, by decide⟩, .int (0 + (i : Int)), rfl, _, _, rfl, rfl, .inr ⟨by decide, by decide⟩, _, _, rfl, rfl, _, _, rfl, rfl, .inl ⟨_, rfl, _, _, rfl, rfl, (show (0 : Int) < 2147483647 by decide), ?_⟩⟩
            have o0 : 0 ≤ (cv * 48271 + (0 + (i : Int)) * 69621 + 11) % 2147483647 := Int.emod_nonneg _ (by decide)
            have o1 : (cv * 48271 + (0 + (i : Int)) * 69621 + 11) % 2147483647 < 2147483647 := Int.emod_lt_of_pos _ (by decide)
            dsimp only
            generalize (cv * 48271 + (0 + (i : Int)) * 69621 + 11) % 2147483647 = on at o0 o1 ⊢
            refine ⟨.ref D, rfl, .inl ⟨rfl, _, .inl (.inl hD3)⟩, .int on, rfl, .int on, rfl, _, _, rfl, rfl, .inl ⟨by omega, by omega⟩, .int on, rfl, _, _, rfl, rfl, .inl ⟨by decide, by decide⟩, _, _, rfl, rfl, .int (0 + (i : Int)), rfl, _, _, rfl, rfl, .inl ⟨_, rfl, _, _, rfl, rfl, (show (0 : Int) < 1000003 by decide), D, _, _, rfl, rfl, hD3, ?_, ?_⟩⟩
            · rw [List.length_map]; exact small (by omega)
            · exact more _ _ (fun b o e n1 n2 => by rw [upd_ne n1]; exact e) rs hrl (by rw [upd_ne nDr.symm]; exact hr3) upd_same _ _
        · obtain ⟨y5, y6, y7, y8, rs, ds, rfl, s3, hC3, hr3, hrl, hD3, hdl⟩ := hp
          refine ⟨.ref D, rfl, .inl ⟨rfl, _, .inl (.inl hD3)⟩, D, _, rfl, rfl, hD3, .ref D, rfl, ?_⟩
          refine q _ D (fun b o e => ?_) nHD ⟨ds.reverse, ?_⟩
          · rw [upd_ne (ne_of_none e nHD)]; exact s3 b o e
          · rw [upd_same, List.map_reverse])
end
def sp_l_take (K : PySem.W.Frag) : Sp := fun vs H Q _ => ∃ (d : Addr) (m : Int), vs = [.ref d, .int m] ∧ DrA H d ∧ 0 < m ∧ ∀ H' r, Dr d H H' → 0 ≤ r → r < m → Q (.int r) H'
section
variable {P : Program} {w : World} {K : PySem.W.Frag} {mg : Str → Option Value} {base : Heap}
theorem ok_l_take (T : Ctx K mg) : FnOk P w K mg base CX0 1 T.f_l_take T.fd_l_take ["draws", "many"] (sp_l_take K) := by
  refine T.F_l_take.ok sc_l_take (fun vs H Q E h => ?_) (fun cdv A outer s H vs Q E hr h => ?_)
  · obtain ⟨d, m, rfl, _⟩ := h
    rfl
  · obtain ⟨d, m, rfl, ⟨ns, hd⟩, hm, q⟩ := h
    refine ⟨_, (pss_cons (ps_if (pt_cmpR op_eq (pe_callB call_len_seq (by rfl) T.m_len (by decide +kernel) (pa_cons (pv 0) pa_nil)) pe_int (nomark _))
        (pss_one (ps_ret pe_int))
        pss_nil)
      (pss_one (ps_ret (pe_op op_mod (pe_callTy call_int1 (by rfl) T.m_int (by decide +kernel) (pa_cons (pe_bm0 PySem.F.plainAttrs_list PySem.F.slot_list_pop PySem.F.type_list_pop mt_pop (pv 0)) pa_nil)) (pv 1))))), ?_⟩
    have hS : SqL K H d (ns.map V.int) := .inl (.inl hd)
    refine ⟨.ref d, rfl, d, _, rfl, .inl hS, rfl, _, rfl, ite2 (fun e => ?_) (fun e => ?_)⟩
    · exact q H 0 ⟨fun _ _ _ h => h, ns, hd⟩ (Int.le_refl 0) hm
    · have hne : ns ≠ [] := fun z => by
        subst z
        exact e (decide_eq_true rfl)
      have hl : (ns.map V.int)[(ns.map V.int).length - 1]? = some (.int (ns.getLast hne)) := by
        rw [List.getElem?_map, List.length_map, at_last hne]
        rfl
      refine ⟨.ref d, rfl, .inl ⟨rfl, _, hS⟩, d, _, _, rfl, rfl, hd, hl, .inl ⟨_, rfl, .int m, rfl, _, _, rfl, rfl, hm, ?_⟩⟩
      rw [← List.map_dropLast]
      exact q _ _ (dr_upd _) (Int.emod_nonneg _ (by omega)) (Int.emod_lt_of_pos _ hm)
end
def sp_l_cell (K : PySem.W.Frag) : Sp := fun vs H Q _ => ∃ (a d : Addr) (ns : List Int), vs = [.ref a, .ref d] ∧ (∀ H', Dr d H H' → SqL K H' a (ns.map V.int)) ∧ DrA H d ∧
  ∀ H' c, Dr d H H' → (c = 0 ∨ c ∈ ns) → Q (.int c) H'
section
variable {P : Program} {w : World} {K : PySem.W.Frag} {mg : Str → Option Value} {base : Heap}
theorem ok_l_cell (T : Ctx K mg) : FnOk P w K mg base CX0 2 T.f_l_cell T.fd_l_cell ["script", "draws"] (sp_l_cell K) := by
  refine T.F_l_cell.ok sc_l_cell (fun vs H Q E h => ?_) (fun cdv A outer s H vs Q E hr h => ?_)
  · obtain ⟨a, d, ns, rfl, _⟩ := h
    rfl
  · obtain ⟨a, d, ns, rfl, hK, hd, q⟩ := h
    have hS := hK H (Dr.refl hd)
    refine ⟨_, (pss_cons (ps_if (pt_cmpR op_eq (pe_callB call_len_seq (by rfl) T.m_len (by decide +kernel) (pa_cons (pv 0) pa_nil)) pe_int (nomark _))
        (pss_one (ps_ret pe_int))
        pss_nil)
      (pss_one (ps_ret (pe_callTy call_int1 (by rfl) T.m_int (by decide +kernel) (pa_cons (pe_ix ix_list (pv 0) (pe_call (ok_l_take T) (hr.mono (by decide)) (by rfl) T.g_l_take T.F_l_take.kp T.b_l_take .nil pass0 (pa_cons (pv 1) (pa_cons (pe_callB call_len_seq (by rfl) T.m_len (by decide +kernel) (pa_cons (pv 0) pa_nil)) pa_nil))) (fun _ _ => rfl)) pa_nil))))), ?_⟩
    refine ⟨.ref a, rfl, a, _, rfl, .inl hS, rfl, _, rfl, ite2 (fun e => ?_) (fun e => ?_)⟩
    · exact q H 0 (Dr.refl hd) (.inl rfl)
    · have hne : ns ≠ [] := fun z => by
        subst z
        exact e (decide_eq_true rfl)
      have hl : 0 < ns.length := by cases ns with | nil => exact absurd rfl hne | cons x r => exact Nat.succ_pos _
      refine ⟨.ref a, rfl, .ref d, rfl, .ref a, rfl, a, _, rfl, .inl hS, d, _, rfl, hd, by rw [List.length_map]; omega, fun H1 r r1 h0 h1 => ?_⟩
      rw [List.length_map] at h1
      have hS1 : SqL K H1 a (ns.map V.int) := hK H1 r1
      exact ⟨a, _, r, _, rfl, rfl, hS1, atM_pos h0 h1, .inl ⟨_, rfl, q H1 _ r1 (.inr (List.getElem_mem _))⟩⟩
end
/-- the word of a number, sign by sign -/
def wcps : Nat → Int → List Nat → List Nat
  | 0, _, acc => acc
  | f + 1, n, acc => if n < 1 then acc else wcps f ((n - 1) / 26) ((97 + ((n - 1) % 26).toNat) :: acc)
def wordS (n : Int) : Str := ⟨(wcps 60 n []).toArray⟩
theorem wcps_stop : ∀ (f : Nat) (n : Int) (acc : List Nat), n < 1 → wcps f n acc = acc
  | 0, _, _, _ => rfl
  | f + 1, n, acc, h => by
    show (if n < 1 then acc else _) = acc
    rw [if_pos h]
def abc : Str := "abcdefghijklmnopqrstuvwxyz"
theorem abc_at : ∀ j : Nat, j < 26 → abc.cps.toList[j]? = some (97 + j) := by decide +kernel
theorem abc_len : abc.cps.toList.length = 26 := by decide +kernel
theorem wcps_isW : ∀ (f : Nat) (n : Int) (acc : List Nat), (∀ c ∈ acc, 97 ≤ c ∧ c ≤ 122) → (∀ c ∈ wcps f n acc, 97 ≤ c ∧ c ≤ 122) ∧ (wcps f n acc).length ≤ f + acc.length ∧ (acc ≠ [] → wcps f n acc ≠ [])
  | 0, n, acc, h => ⟨h, by show acc.length ≤ _; omega, fun z => z⟩
  | f + 1, n, acc, h => by
    by_cases c : n < 1
    · rw [wcps_stop _ _ _ c]
      exact ⟨h, by omega, fun z => z⟩
    · have e : wcps (f + 1) n acc = wcps f ((n - 1) / 26) ((97 + ((n - 1) % 26).toNat) :: acc) := if_neg c
      have h0 : 0 ≤ (n - 1) % 26 := Int.emod_nonneg _ (by decide)
      have h1 : (n - 1) % 26 < 26 := Int.emod_lt_of_pos _ (by decide)
      obtain ⟨a, b, d⟩ := wcps_isW f ((n - 1) / 26) ((97 + ((n - 1) % 26).toNat) :: acc) (fun x hx => by
        rcases List.mem_cons.mp hx with z | z
        · omega
        · exact h x z)
      rw [e]
      exact ⟨a, by simp only [List.length_cons] at b; omega, fun _ => d (List.cons_ne_nil _ _)⟩
theorem wordS_isW {n : Int} (h : 1 ≤ n) : IsW (wordS n) := by
  have e : wcps 60 n [] = wcps 59 ((n - 1) / 26) [97 + ((n - 1) % 26).toNat] := if_neg (by omega)
  have h0 : 0 ≤ (n - 1) % 26 := Int.emod_nonneg _ (by decide)
  have h1 : (n - 1) % 26 < 26 := Int.emod_lt_of_pos _ (by decide)
  obtain ⟨a, b, d⟩ := wcps_isW 59 ((n - 1) / 26) [97 + ((n - 1) % 26).toNat] (fun x hx => by
    rw [List.mem_singleton.mp hx]
    omega)
  rw [← e] at a b d
  refine ⟨by simpa [wordS] using d (by simp), by simpa [wordS] using a, ?_⟩
  show (wcps 60 n []).toArray.size ≤ 200
  simp only [List.size_toArray]
  simp only [List.length_cons, List.length_nil] at b
  omega
def sp_l_word (K : PySem.W.Frag) : Sp := fun vs H Q _ => ∃ n : Int, vs = [.int n] ∧ Q (.str (wordS n)) H
section
variable {P : Program} {w : World} {K : PySem.W.Frag} {mg : Str → Option Value} {base : Heap}
theorem ok_l_word (T : Ctx K mg) : FnOk P w K mg base CX0 1 T.f_l_word T.fd_l_word ["number"] (sp_l_word K) := by
  refine T.F_l_word.ok sc_l_word (fun vs H Q E h => ?_) (fun cdv A outer s H vs Q E hr h => ?_)
  · obtain ⟨n, rfl, _⟩ := h
    rfl
  · obtain ⟨n, rfl, q⟩ := h
    refine ⟨_, (pss_cons (ps_set (i := 1) sc_l_word.nd rfl (.inl rfl) pe_str)
      (pss_cons (ps_for PassesOwn.never rfl (pi_range1 (by rfl) T.m_range (pa_cons pe_int pa_nil)) (pg_name (i := 2) sc_l_word.nd rfl (.inl rfl))
        (pss_cons (ps_if (pt_cmpR op_lt (pv 0) pe_int (nomark _))
        (pss_one ps_break)
        pss_nil)
      (pss_cons (ps_set (i := 1) sc_l_word.nd rfl (.inl rfl) (pe_op op_add_str (pe_ix ix_str pe_str (pe_op op_mod (pe_callTy call_int1 (by rfl) T.m_int (by decide +kernel) (pa_cons (pe_op op_sub (pv 0) pe_int) pa_nil)) pe_int) (fun _ _ => rfl)) (pv 1)))
      (pss_one (ps_set (i := 0) sc_l_word.nd rfl (.inl rfl) (pe_op op_fdiv (pe_op op_sub (pv 0) pe_int) pe_int))))))
      (pss_one (ps_ret (pv 1))))), ?_⟩
    refine ⟨60, rfl, by decide, by decide, ?_⟩
    refine for_range (lo := 0) (n := 60) (fun i σ H3 => ∃ (m : Int) (acc : List Nat) (y2 : Option V), σ = [some (.int m), some (.str ⟨acc.toArray⟩), y2] ∧ H3 = H ∧ wcps 60 n [] = wcps (60 - i) m acc ∧ acc.length ≤ i) ⟨n, [], none, rfl, rfl, rfl, Nat.le_refl 0⟩ (fun i σ H3 hi hp => ?_) (fun σ H3 hp => ?_)
    · obtain ⟨m, acc, y2, rfl, rfl, hw, hl⟩ := hp
      refine ⟨.int m, rfl, _, _, rfl, rfl, _, rfl, ite2 (fun e => ?_) (fun e => ?_)⟩
      · have hm : m < 1 := of_decide_eq_true e
        rw [wcps_stop _ _ _ hm] at hw
        refine ⟨.str ⟨acc.toArray⟩, rfl, ?_⟩
        rw [← hw]
        exact q
      · have hm : ¬ m < 1 := fun z => e (decide_eq_true z)
        have h0 : 0 ≤ (m - 1) % 26 := Int.emod_nonneg _ (by decide)
        have h1 : (m - 1) % 26 < 26 := Int.emod_lt_of_pos _ (by decide)
        have hat : atI abc.cps.toList ((m - 1) % 26) = some (97 + ((m - 1) % 26).toNat) := by
          have ez : (m - 1) % 26 = (((m - 1) % 26).toNat : Int) := by omega
          have q := abc_at ((m - 1) % 26).toNat (by omega)
          rw [ez]
          exact atI_nat q
        refine ⟨.int m, rfl, _, _, rfl, rfl, .inl ⟨_, rfl, _, _, rfl, rfl, (show (0 : Int) < 26 by decide), abc, _, _, rfl, rfl, by decide +kernel, hat, .str ⟨acc.toArray⟩, rfl, _, _, rfl, rfl, ?_, .int m, rfl, _, _, rfl, rfl, _, _, rfl, rfl, ⟨by decide, by decide⟩, ?_⟩⟩
        · show 1 + acc.toArray.size ≤ sizeLine
          have : acc.toArray.size = acc.length := by simp
          rw [this]
          exact small' (by omega)
        · refine ⟨(m - 1) / 26, (97 + ((m - 1) % 26).toNat) :: acc, some (.int (0 + (i : Int))), ?_, rfl, ?_, by simp only [List.length_cons]; omega⟩
          · have ea : (⟨#[97 + ((m - 1) % 26).toNat]⟩ : Str) ++ ⟨acc.toArray⟩ = ⟨((97 + ((m - 1) % 26).toNat) :: acc).toArray⟩ := by
              show Str.mk (#[97 + ((m - 1) % 26).toNat] ++ acc.toArray) = _
              congr 1
              simp
            rw [ea]
            rfl
          · rw [hw]
            have ef : 60 - i = (60 - (i + 1)) + 1 := by omega
            rw [ef]
            show (if m < 1 then acc else _) = _
            rw [if_neg hm]
    · obtain ⟨m, acc, y2, rfl, rfl, hw, hl⟩ := hp
      refine ⟨.str ⟨acc.toArray⟩, rfl, ?_⟩
      have e : wordS n = ⟨acc.toArray⟩ := by
        unfold wordS
        rw [hw]
        rfl
      rw [← e]
      exact q
end
theorem isW_cat {a b : Str} (ha : ∀ c ∈ a.cps.toList, 97 ≤ c ∧ c ≤ 122) (hl : a.length ≤ 60) (hb : IsW b) (hb2 : b.length ≤ 100) : IsW (a ++ b) := by
  have e : (a ++ b).cps.toList = a.cps.toList ++ b.cps.toList := by
    show (a.cps ++ b.cps).toList = _
    simp
  refine ⟨?_, ?_, ?_⟩
  · rw [e]
    intro z
    exact hb.1 (List.append_eq_nil_iff.mp z).2
  · rw [e]
    intro c hc
    rcases List.mem_append.mp hc with z | z
    · exact ha c z
    · exact hb.2.1 c z
  · show (a.cps ++ b.cps).size ≤ 200
    rw [Array.size_append]
    have h1 : a.cps.size ≤ 60 := hl
    have h2 : b.cps.size ≤ 100 := hb2
    omega
theorem wordS_len (n : Int) : (wordS n).length ≤ 60 := by
  show (wcps 60 n []).toArray.size ≤ 60
  simp only [List.size_toArray]
  have h := (wcps_isW 60 n [] (fun _ z => nomatch z)).2.1
  simpa using h
theorem ljkl_ok : ∀ c ∈ (Str.ofString "abcdefghijkl").cps.toList, 97 ≤ c ∧ c ≤ 122 := by decide +kernel
theorem ljkl_len : (Str.ofString "abcdefghijkl").length ≤ 60 := by decide +kernel
def sp_l_some_word (K : PySem.W.Frag) : Sp := fun vs H Q _ => ∃ d : Addr, vs = [.ref d] ∧ DrA H d ∧ ∀ H' w, Dr d H H' → IsW w → Q (.str w) H'
section
variable {P : Program} {w : World} {K : PySem.W.Frag} {mg : Str → Option Value} {base : Heap}
theorem ok_l_some_word (T : Ctx K mg) : FnOk P w K mg base CX0 2 T.f_l_some_word T.fd_l_some_word ["draws"] (sp_l_some_word K) := by
  refine T.F_l_some_word.ok sc_l_some_word (fun vs H Q E h => ?_) (fun cdv A outer s H vs Q E hr h => ?_)
  · obtain ⟨d, rfl, _⟩ := h
    rfl
  · obtain ⟨d, rfl, hd, q⟩ := h
    refine ⟨_, (pss_cons (ps_set (i := 1) sc_l_some_word.nd rfl (.inl rfl) (pe_call (ok_l_take T) (hr.mono (by decide)) (by rfl) T.g_l_take T.F_l_take.kp T.b_l_take .nil pass0 (pa_cons (pv 0) (pa_cons pe_int pa_nil))))
      (pss_cons (ps_if (pt_cmpR op_lt (pv 1) pe_int (nomark _))
        (pss_one (ps_ret (pe_call (ok_l_word T) (hr.mono (by decide)) (by rfl) T.g_l_word T.F_l_word.kp T.b_l_word .nil pass0 (pa_cons (pe_op op_add (pe_op op_add pe_int (pe_op op_mod (pv 1) pe_int)) (pe_op op_mul pe_int (pe_op op_mod (pe_op op_fdiv (pv 1) pe_int) pe_int))) pa_nil))))
        pss_nil)
      (pss_cons (ps_if (pt_cmpR op_lt (pv 1) pe_int (nomark _))
        (pss_one (ps_ret (pe_call (ok_l_word T) (hr.mono (by decide)) (by rfl) T.g_l_word T.F_l_word.kp T.b_l_word .nil pass0 (pa_cons (pe_op op_add pe_int (pe_call (ok_l_take T) (hr.mono (by decide)) (by rfl) T.g_l_take T.F_l_take.kp T.b_l_take .nil pass0 (pa_cons (pv 0) (pa_cons pe_int pa_nil)))) pa_nil))))
        pss_nil)
      (pss_cons (ps_if (pt_cmpR op_lt (pv 1) pe_int (nomark _))
        (pss_one (ps_ret (pe_op op_add_str pe_str (pe_call (ok_l_word T) (hr.mono (by decide)) (by rfl) T.g_l_word T.F_l_word.kp T.b_l_word .nil pass0 (pa_cons (pe_op op_add pe_int (pe_call (ok_l_take T) (hr.mono (by decide)) (by rfl) T.g_l_take T.F_l_take.kp T.b_l_take .nil pass0 (pa_cons (pv 0) (pa_cons pe_int pa_nil)))) pa_nil)))))
        pss_nil)
      (pss_cons (ps_set (i := 2) sc_l_some_word.nd rfl (.inl rfl) (pe_op op_add (pe_op op_mul pe_int (pe_call (ok_l_take T) (hr.mono (by decide)) (by rfl) T.g_l_take T.F_l_take.kp T.b_l_take .nil pass0 (pa_cons (pv 0) (pa_cons pe_int pa_nil)))) (pe_op op_mul pe_int (pe_call (ok_l_take T) (hr.mono (by decide)) (by rfl) T.g_l_take T.F_l_take.kp T.b_l_take .nil pass0 (pa_cons (pv 0) (pa_cons pe_int pa_nil))))))
      (pss_cons (ps_if (pt_cmpR op_ge (pv 1) pe_int (nomark _))
        (pss_one (ps_set (i := 2) sc_l_some_word.nd rfl (.inl rfl) (pe_op op_mul (pv 2) (pe_op op_pow pe_int pe_int))))
        pss_nil)
      (pss_one (ps_ret (pe_call (ok_l_word T) (hr.mono (by decide)) (by rfl) T.g_l_word T.F_l_word.kp T.b_l_word .nil pass0 (pa_cons (pe_op op_add (pe_op op_add pe_int (pv 2)) (pe_call (ok_l_take T) (hr.mono (by decide)) (by rfl) T.g_l_take T.F_l_take.kp T.b_l_take .nil pass0 (pa_cons (pv 0) (pa_cons pe_int pa_nil)))) pa_nil)))))))))), ?_⟩
    refine ⟨.ref d, rfl, d, _, rfl, hd, by decide, fun H1 u r1 u0 u1 => ?_⟩
    refine ⟨_, rfl, _, _, rfl, rfl, _, rfl, ite2 (fun e => ?_) (fun e => ?_)⟩
    · exact ⟨_, rfl, _, _, rfl, rfl, (show (0 : Int) < 6 by decide), _, _, rfl, rfl, _, rfl, _, _, rfl, rfl, ⟨by decide, by decide⟩, _, _, rfl, rfl, (show (0 : Int) < 2 by decide), _, _, rfl, rfl, .inl ⟨by decide, by decide⟩, _, _, rfl, rfl, _, rfl, q _ _ r1 (wordS_isW (by omega))⟩
    refine ⟨_, rfl, _, _, rfl, rfl, _, rfl, ite2 (fun e => ?_) (fun e => ?_)⟩
    · exact ⟨.ref d, rfl, d, _, rfl, r1.at_, by decide, fun H2 v r2 v0 v1 => ⟨_, _, rfl, rfl, _, rfl, q _ _ (r1.trans r2) (wordS_isW (by omega))⟩⟩
    refine ⟨_, rfl, _, _, rfl, rfl, _, rfl, ite2 (fun e => ?_) (fun e => ?_)⟩
    · exact ⟨.ref d, rfl, d, _, rfl, r1.at_, by decide, fun H2 v r2 v0 v1 => ⟨_, _, rfl, rfl, _, rfl, _, _, rfl, rfl, small' (by have := ljkl_len; have := wordS_len (1 + v); omega), q _ _ (r1.trans r2) (isW_cat ljkl_ok ljkl_len (wordS_isW (by omega)) (by have := wordS_len (1 + v); omega))⟩⟩
    refine ⟨.ref d, rfl, d, _, rfl, r1.at_, by decide, fun H2 v r2 v0 v1 => ?_⟩
    refine ⟨_, _, rfl, rfl, .inl ⟨by decide, by decide⟩, .ref d, rfl, d, _, rfl, r2.at_, by decide, fun H3 x r3 x0 x1 => ?_⟩
    refine ⟨_, _, rfl, rfl, .inl ⟨by decide, by decide⟩, _, _, rfl, rfl, ?_⟩
    refine ⟨_, rfl, _, _, rfl, rfl, _, rfl, ite2 (fun e => ?_) (fun e => ?_)⟩
    · refine ⟨_, rfl, _, _, rfl, rfl, ⟨by decide, by decide, by decide⟩, _, _, rfl, rfl, .inl ⟨by omega, by omega⟩, ?_⟩
      refine ⟨_, rfl, _, _, rfl, rfl, .ref d, rfl, d, _, rfl, r3.at_, by decide, fun H4 y r4 y0 y1 => ⟨_, _, rfl, rfl, _, rfl, q _ _ (((r1.trans r2).trans r3).trans r4) (wordS_isW ?_)⟩⟩
      have z : 0 ≤ (1000000 * v + 1000 * x) * 10 ^ (15 : Int).toNat := Int.mul_nonneg (by omega) (by decide)
      omega
    · refine ⟨_, rfl, _, _, rfl, rfl, .ref d, rfl, d, _, rfl, r3.at_, by decide, fun H4 y r4 y0 y1 => ⟨_, _, rfl, rfl, _, rfl, q _ _ (((r1.trans r2).trans r3).trans r4) (wordS_isW (by omega))⟩⟩
end
def sp_l_is_truth (K : PySem.W.Frag) : Sp := fun vs H Q _ => ∃ b : Bool, vs = [.bl b, .bl b] ∧ Q (.bl true) H
section
variable {P : Program} {w : World} {K : PySem.W.Frag} {mg : Str → Option Value} {base : Heap}
theorem ok_l_is_truth (T : Ctx K mg) : FnOk P w K mg base CX0 1 T.f_l_is_truth T.fd_l_is_truth ["actual", "due"] (sp_l_is_truth K) := by
  refine T.F_l_is_truth.ok sc_l_is_truth (fun vs H Q E h => ?_) (fun cdv A outer s H vs Q E hr h => ?_)
  · obtain ⟨b, rfl, _⟩ := h
    rfl
  · obtain ⟨b, rfl, q⟩ := h
    refine ⟨_, (pss_one (ps_ret (pe_and (pe_callB call_isi (by rfl) T.m_isinstance (by decide +kernel) (pa_cons (pv 0) (pa_cons (pe_bltn (v := .ty "bool") (by rfl) T.m_bool (by decide +kernel) rfl) pa_nil))) (pe_one (pe_cmpR op_eq (pv 0) (pv 1) (nomark _)))))), ?_⟩
    refine ⟨.bl b, rfl, .bl b, .ty "bool", .type "bool", .type "bool", true, rfl, .ty _, .base (.bl _), kit_ty (by decide +kernel), true, rfl, iteT ⟨.bl b, rfl, .bl b, rfl, rfl, ?_⟩⟩
    show Q (.bl (decide (V.bl b = V.bl b))) H
    rw [decide_eq_true rfl]
    exact q
end
def sp_l_reading (K : PySem.W.Frag) : Sp := fun vs H Q _ => ∃ (d t : Addr) (m : Mt), vs = [.ref d, .ref t] ∧ DrA H d ∧ MtAt H t m ∧ m.low ≤ m.high ∧ ∀ H' v, Dr d H H' → m.low ≤ v → v ≤ m.high → Q (.int v) H'
section
variable {P : Program} {w : World} {K : PySem.W.Frag} {mg : Str → Option Value} {base : Heap}
theorem ok_l_reading (T : Ctx K mg) : FnOk P w K mg base CX0 2 T.f_l_reading T.fd_l_reading ["draws", "meter"] (sp_l_reading K) := by
  refine T.F_l_reading.ok sc_l_reading (fun vs H Q E h => ?_) (fun cdv A outer s H vs Q E hr h => ?_)
  · obtain ⟨d, t, m, rfl, _⟩ := h
    rfl
  · obtain ⟨d, t, m, rfl, hd, hm, ho, q⟩ := h
    refine ⟨_, (pss_cons (ps_set (i := 2) sc_l_reading.nd rfl (.inl rfl) (pe_call (ok_l_take T) (hr.mono (by decide)) (by rfl) T.g_l_take T.F_l_take.kp T.b_l_take .nil pass0 (pa_cons (pv 0) (pa_cons pe_int pa_nil))))
      (pss_cons (ps_if (pt_cmpR op_eq (pe_op op_mod (pv 2) pe_int) pe_int (nomark _))
        (pss_one (ps_ret (pe_ix ix_tup (pv 1) pe_int (fun _ _ => rfl))))
        pss_nil)
      (pss_cons (ps_if (pt_cmpR op_eq (pe_op op_mod (pv 2) pe_int) pe_int (nomark _))
        (pss_one (ps_ret (pe_ix ix_tup (pv 1) pe_int (fun _ _ => rfl))))
        pss_nil)
      (pss_cons (ps_if (pt_cmpR op_eq (pe_op op_mod (pv 2) pe_int) pe_int (nomark _))
        (pss_one (ps_ret (pe_op op_fdiv (pe_op op_add (pe_ix ix_tup (pv 1) pe_int (fun _ _ => rfl)) (pe_ix ix_tup (pv 1) pe_int (fun _ _ => rfl))) pe_int)))
        pss_nil)
      (pss_one (ps_ret (pe_op op_add (pe_ix ix_tup (pv 1) pe_int (fun _ _ => rfl)) (pe_op op_mod (pe_op op_fdiv (pv 2) pe_int) (pe_op op_add (pe_op op_sub (pe_ix ix_tup (pv 1) pe_int (fun _ _ => rfl)) (pe_ix ix_tup (pv 1) pe_int (fun _ _ => rfl))) pe_int))))))))), ?_⟩
    refine ⟨.ref d, rfl, d, _, rfl, hd, by decide, fun H1 u r1 u0 u1 => ?_⟩
    have hT : SqT K H1 t [.str m.name, .int m.low, .int m.high, .int m.err] := .inl (.inl (r1.tup hd hm))
    refine ⟨.int u, rfl, _, _, rfl, rfl, (show (0 : Int) < 4 by decide), rfl, _, rfl, ite2 (fun e => ?_) (fun e => ?_)⟩
    · exact ⟨.ref t, rfl, t, _, 1, _, rfl, rfl, hT, atI_nat (j := 1) rfl, q _ _ r1 (Int.le_refl _) ho⟩
    refine ⟨.int u, rfl, _, _, rfl, rfl, (show (0 : Int) < 4 by decide), rfl, _, rfl, ite2 (fun e => ?_) (fun e => ?_)⟩
    · exact ⟨.ref t, rfl, t, _, 2, _, rfl, rfl, hT, atI_nat (j := 2) rfl, q _ _ r1 ho (Int.le_refl _)⟩
    refine ⟨.int u, rfl, _, _, rfl, rfl, (show (0 : Int) < 16 by decide), rfl, _, rfl, ite2 (fun e => ?_) (fun e => ?_)⟩
    · refine ⟨.ref t, rfl, t, _, 1, _, rfl, rfl, hT, atI_nat (j := 1) rfl, .ref t, rfl, t, _, 2, _, rfl, rfl, hT, atI_nat (j := 2) rfl, _, _, rfl, rfl, _, _, rfl, rfl, ⟨by decide, by decide⟩, q _ _ r1 ?_ ?_⟩
      · show m.low ≤ (m.low + m.high) / 2
        omega
      · show (m.low + m.high) / 2 ≤ m.high
        omega
    · have p : 0 < m.high - m.low + 1 := by omega
      refine ⟨.ref t, rfl, t, _, 1, _, rfl, rfl, hT, atI_nat (j := 1) rfl, .int u, rfl, _, _, rfl, rfl, ⟨by decide, by decide⟩, .ref t, rfl, t, _, 2, _, rfl, rfl, hT, atI_nat (j := 2) rfl, .ref t, rfl, t, _, 1, _, rfl, rfl, hT, atI_nat (j := 1) rfl, _, _, rfl, rfl, _, _, rfl, rfl, _, _, rfl, rfl, p, _, _, rfl, rfl, ?_⟩
      have a0 := Int.emod_nonneg (u / 4) (Int.ne_of_gt p)
      have a1 := Int.emod_lt_of_pos (u / 4) p
      exact q _ _ r1 (by show m.low ≤ m.low + u / 4 % (m.high - m.low + 1); omega) (by show m.low + u / 4 % (m.high - m.low + 1) ≤ m.high; omega)
end
def sp_l_plan (K : PySem.W.Frag) : Sp := fun vs H Q _ => ∃ (d : Addr) (c : Int), vs = [.ref d, .int c] ∧ DrA H d ∧
  ∀ H' p tm ts P, Dr d H H' → PlanAt H' p tm ts P → PlanOk c P → (∀ m ∈ P.ms, IsW m.name) → Q (.ref p) H'
section
variable {P : Program} {w : World} {K : PySem.W.Frag} {mg : Str → Option Value} {base : Heap}
theorem ok_l_plan (T : Ctx K mg) : FnOk P w K mg base CX0 3 T.f_l_plan T.fd_l_plan ["draws", "cell"] (sp_l_plan K) := by
  refine T.F_l_plan.ok sc_l_plan (fun vs H Q E h => ?_) (fun cdv A outer s H vs Q E hr h => ?_)
  · obtain ⟨d, c, rfl, _⟩ := h
    rfl
  · obtain ⟨d, c, rfl, hd, q⟩ := h
    refine ⟨_, (pss_cons (ps_set (i := 2) sc_l_plan.nd rfl (.inl rfl) (pe_op op_add pe_int (pe_call (ok_l_take T) (hr.mono (by decide)) (by rfl) T.g_l_take T.F_l_take.kp T.b_l_take .nil pass0 (pa_cons (pv 0) (pa_cons pe_int pa_nil)))))
      (pss_cons (ps_if (pt_cmpR op_eq (pe_call (ok_l_take T) (hr.mono (by decide)) (by rfl) T.g_l_take T.F_l_take.kp T.b_l_take .nil pass0 (pa_cons (pv 0) (pa_cons pe_int pa_nil))) pe_int (nomark _))
        (pss_one (ps_set (i := 2) sc_l_plan.nd rfl (.inl rfl) (pe_op op_add (pv 2) pe_int)))
        pss_nil)
      (pss_cons (ps_set (i := 3) sc_l_plan.nd rfl (.inl rfl) (pe_lst pa_nil))
      (pss_cons (ps_for PassesOwn.never rfl (pi_list (pe_callB (Tset.cr_sortedSetS rfl) (by rfl) T.m_sorted (by decide +kernel) (pa_cons (pe_callTy (Tset.cr_setOfS rfl) (by rfl) T.m_set (by decide +kernel) (pa_cons (pe_lc (own := [("k", 8)]) (g := gName 8) (by rfl) sc_l_plan.nd (pi_range1 (by rfl) T.m_range (pa_cons (pv 2) pa_nil)) (blkOk_by (own := [("k", 8)]) (N := ["draws", "cell", "many", "meters", "name", "low", "wide", "length", "k"]) (sc := defScope s_l_plan) (by decide +kernel)) (fun _ _ _ _ _ => pg_name (i := 8) sc_l_plan.nd rfl (Or.inl rfl)) (fun _ _ _ _ _ => pts_nil) (fun _ _ _ _ _ => (pe_call (ok_l_some_word T) (hr.mono (by decide)) (by rfl) T.g_l_some_word T.F_l_some_word.kp T.b_l_some_word .nil pass0 (pa_cons (pv 0) pa_nil)))) pa_nil)) pa_nil))) (pg_name (i := 4) sc_l_plan.nd rfl (.inl rfl))
        (pss_cons (ps_set (i := 5) sc_l_plan.nd rfl (.inl rfl) (pe_ix ix_list (pe_lst (pa_cons (pe_op op_sub (pe_call (ok_l_take T) (hr.mono (by decide)) (by rfl) T.g_l_take T.F_l_take.kp T.b_l_take .nil pass0 (pa_cons (pv 0) (pa_cons pe_int pa_nil))) pe_int) (pa_cons (pv 1) pa_nil))) (pe_op op_fdiv (pe_call (ok_l_take T) (hr.mono (by decide)) (by rfl) T.g_l_take T.F_l_take.kp T.b_l_take .nil pass0 (pa_cons (pv 0) (pa_cons pe_int pa_nil))) pe_int) (fun _ _ => rfl)))
      (pss_cons (ps_set (i := 6) sc_l_plan.nd rfl (.inl rfl) (pe_ix ix_list (pe_lst (pa_cons pe_int (pa_cons pe_int (pa_cons pe_int (pa_cons pe_int (pa_cons pe_int (pa_cons pe_int (pa_cons (pe_op op_pow pe_int pe_int) (pa_cons (pe_callB call_abs (by rfl) T.m_abs (by decide +kernel) (pa_cons (pv 1) pa_nil)) pa_nil))))))))) (pe_call (ok_l_take T) (hr.mono (by decide)) (by rfl) T.g_l_take T.F_l_take.kp T.b_l_take .nil pass0 (pa_cons (pv 0) (pa_cons pe_int pa_nil))) (fun _ _ => rfl)))
      (pss_one (ps_expr (pe_bm PySem.F.plainAttrs_list PySem.F.slot_list_append PySem.F.type_list_append mt_append (pv 3) (pa_cons (pe_tup (pa_cons (pv 4) (pa_cons (pv 5) (pa_cons (pe_op op_add (pv 5) (pv 6)) (pa_cons (pe_ix ix_list (pe_lst (pa_cons pe_int (pa_cons pe_int (pa_cons pe_int (pa_cons pe_int (pa_cons pe_int (pa_cons pe_int pa_nil))))))) (pe_call (ok_l_take T) (hr.mono (by decide)) (by rfl) T.g_l_take T.F_l_take.kp T.b_l_take .nil pass0 (pa_cons (pv 0) (pa_cons pe_int pa_nil))) (fun _ _ => rfl)) pa_nil))))) pa_nil)))))))
      (pss_cons (ps_set (i := 7) sc_l_plan.nd rfl (.inl rfl) (pe_ix ix_list (pe_lst (pa_cons pe_int (pa_cons pe_int (pa_cons pe_int (pa_cons pe_int (pa_cons pe_int (pa_cons (pe_op op_add pe_int (pe_callB call_abs (by rfl) T.m_abs (by decide +kernel) (pa_cons (pv 1) pa_nil))) pa_nil))))))) (pe_call (ok_l_take T) (hr.mono (by decide)) (by rfl) T.g_l_take T.F_l_take.kp T.b_l_take .nil pass0 (pa_cons (pv 0) (pa_cons pe_int pa_nil))) (fun _ _ => rfl)))
      (pss_one (ps_ret (pe_tup (pa_cons (pv 7) (pa_cons (pe_callTy call_tuple_of (by rfl) T.m_tuple (by decide +kernel) (pa_cons (pv 3) pa_nil)) pa_nil)))))))))), ?_⟩
    refine ⟨.ref d, rfl, d, _, rfl, hd, by decide, fun H1 u r1 u0 u1 => ⟨_, _, rfl, rfl, ?_⟩⟩
    refine ⟨.ref d, rfl, d, _, rfl, r1.at_, by decide, fun H2 v r2 v0 v1 => ⟨rfl, _, rfl, ite2 (fun e => ?c1) (fun e => ?c2)⟩⟩
    case' c1 =>
      refine ⟨_, rfl, _, _, rfl, rfl, ?_⟩
      dsimp only
      obtain ⟨mn, emn, m0, m1⟩ : ∃ mn : Int, mn = 1 + u + 3 ∧ 1 ≤ mn ∧ mn ≤ 6 := ⟨_, rfl, by omega, by omega⟩
      rw [← emn]
    case' c2 =>
      dsimp only
      obtain ⟨mn, emn, m0, m1⟩ : ∃ mn : Int, mn = 1 + u ∧ 1 ≤ mn ∧ mn ≤ 6 := ⟨_, rfl, by omega, by omega⟩
      rw [← emn]
    all_goals (
      refine ⟨Nat.zero_le _, fun M nM => ?_⟩
      have r12 := r1.trans r2
      have rM : Dr d H (upd H2 M (.lst [])) := r12.then (same_new nM)
      have nMd : M ≠ d := r12.ne nM
      refine ⟨.int mn, rfl, mn, rfl, by omega, by omega, fun C nC => ?_⟩
      have nCd : C ≠ d := rM.ne nC
      have nCM : C ≠ M := fun z => by rw [z, upd_same] at nC; cases nC
      refine lc_range (lo := 0) (n := mn.toNat) (fun i H3 => Dr d H H3 ∧ H3 M = some (.lst []) ∧ ∃ ws : List Str, H3 C = some (.lst (ws.map V.str)) ∧ ws.length = i ∧ ∀ w ∈ ws, IsW w) ⟨rM.then (same_new nC), by rw [upd_ne nCM.symm, upd_same], [], upd_same, rfl, fun _ z => nomatch z⟩ (fun i H3 hi hp => ?_) (fun H3 hp => ?_)
      · obtain ⟨r3, hM3, ws, hC3, hwl, hws⟩ := hp
        refine ⟨rfl, .ref d, rfl, d, rfl, r3.at_, fun H4 wd r4 hw => ⟨_, r4.keep _ _ nCd hC3, ?_, r3.trans r4 |>.keepNew nCd ?_, ?_, ws ++ [wd], ?_, ?_, ?_⟩⟩
        · rw [List.length_map]
          exact small (by omega)
        · exact rM.free hd nC
        · rw [upd_ne nCM.symm]
          exact r4.keep _ _ nMd hM3
        · rw [upd_same, List.map_append]
          rfl
        · rw [List.length_append, hwl]
          rfl
        · intro w hm
          rcases List.mem_append.mp hm with z | z
          · exact hws w z
          · rw [List.mem_singleton.mp z]
            exact hw
      · obtain ⟨r3, hM3, ws, hC3, hwl, hws⟩ := hp
        refine ⟨C, ws, rfl, .inl (.inl hC3), by omega, fun S ls nS hm hll => ⟨S, ls, rfl, upd_same, by omega, fun ys L pm nd so nL => ?_⟩⟩
        have nSd : S ≠ d := r3.ne nS
        have rS := r3.then (same_new (o := Tset.SetS P w S ls) nS)
        have nLd : L ≠ d := rS.ne nL
        have nMS : M ≠ S := ne_of_none hM3 nS
        have hMS : upd H3 S (Tset.SetS P w S ls) M = some (.lst []) := by rw [upd_ne nMS]; exact hM3
        have nML : M ≠ L := ne_of_none hMS nL
        have ysW : ∀ y ∈ ys, IsW y := fun y hy => hws y ((hm y).mp (pm.mem_iff.mp hy))
        have ysl : ys.length ≤ 6 := by rw [pm.length_eq]; omega
        have ysne : ys ≠ [] := fun z => by
          rw [z] at pm
          have e0 : ls = [] := List.length_eq_zero_iff.mp (by have := pm.length_eq; simpa using this.symm)
          have : 0 < ws.length := by omega
          cases ws with
          | nil => exact absurd this (by decide)
          | cons x r =>
            have := (hm x).mpr List.mem_cons_self
            rw [e0] at this
            cases this
        refine ⟨L, rfl, ⟨_, .inl (.inl upd_same)⟩, for_list (K := K) (a := L) (xs := ys.map V.str) (fun i σ H4 => ∃ (y4 y5 y6 y7 : Option V) (ts : List Addr) (ms : List Mt), σ = [some (.ref d), some (.int c), some (.int mn), some (.ref M), y4, y5, y6, y7, none] ∧
          Dr d H H4 ∧ H4 L = some (.lst (ys.map V.str)) ∧ H4 M = some (.lst (ts.map V.ref)) ∧ Paired (MtAt H4) ts ms ∧ ms.map Mt.name = ys.take i ∧ (∀ m ∈ ms, MtOk c m)) ?_ (fun i σ H4 _ hp => ?_) (fun i x σ H4 hx hp => ?_) (fun σ H4 hp => ?_)⟩
        · exact ⟨none, none, none, none, [], [], rfl, rS.then (same_new nL), upd_same, by rw [upd_ne nML]; exact hMS, .nil, rfl, fun _ z => nomatch z⟩
        · obtain ⟨_, _, _, _, _, _, _, _, hL, _⟩ := hp
          exact .inl (.inl hL)
        · obtain ⟨y4, y5, y6, y7, ts, ms, rfl, r4, hL4, hM4, hP4, hn4, ho4⟩ := hp
          obtain ⟨hlt, hx'⟩ := List.getElem?_eq_some_iff.mp hx
          rw [List.length_map] at hlt
          have ex : x = .str ys[i] := by rw [← hx', List.getElem_map]
          subst ex
          have hml : ms.length = i := by
            have := congrArg List.length hn4
            rw [List.length_map, List.length_take] at this
            omega
          have htl : ts.length = i := by rw [← hml]; exact hP4.length
          -- low
          refine ⟨.ref d, rfl, d, _, rfl, r4.at_, by decide, fun H5 x5 r5 x50 x51 => ⟨_, _, rfl, rfl, .int c, rfl, small' (n := 2) (by decide), fun p5 n5 => ?_⟩⟩
          have r45 := r4.trans r5
          have q5 := r45.then (same_new (o := .lst [.int (x5 - 3), .int c]) n5)
          have n5d : p5 ≠ d := r45.ne n5
          refine ⟨.ref d, rfl, d, _, rfl, q5.at_, by decide, fun H6 x6 r6 x60 x61 => ?_⟩
          have h6 : H6 p5 = some (.lst [.int (x5 - 3), .int c]) := r6.keep _ _ n5d upd_same
          obtain ⟨lv, lvm, lva⟩ := pick (xs := [x5 - 3, c]) (vs := [.int (x5 - 3), .int c]) (k := x6 / 8) rfl (by omega) (by show x6 / 8 < 2; omega)
          have lvB : lv.natAbs ≤ c.natAbs + 3 := by
            rcases List.mem_cons.mp lvm with z | z
            · omega
            · rw [List.mem_singleton.mp z]; omega
          refine ⟨_, _, rfl, rfl, ⟨by decide, by decide⟩, p5, _, _, _, rfl, rfl, .inl (.inl h6), lva, ?_⟩
          -- wide
          refine ⟨_, _, rfl, rfl, ⟨by decide, by decide, by decide⟩, .int c, rfl, c, rfl, small' (n := 8) (by decide), fun p7 n7 => ?_⟩
          rw [abs_eq]
          have q6 := q5.trans r6
          have q7 := q6.then (same_new (o := .lst [.int 0, .int 1, .int 1, .int 2, .int 5, .int 40, .int (10 ^ (20 : Int).toNat), .int (c.natAbs : Int)]) n7)
          have n7d : p7 ≠ d := q6.ne n7
          refine ⟨.ref d, rfl, d, _, rfl, q7.at_, by decide, fun H8 x8 r8 x80 x81 => ?_⟩
          have h8 : H8 p7 = some (.lst [.int 0, .int 1, .int 1, .int 2, .int 5, .int 40, .int (10 ^ (20 : Int).toNat), .int (c.natAbs : Int)]) := r8.keep _ _ n7d upd_same
          obtain ⟨wv, wvm, wva⟩ := pick (xs := [0, 1, 1, 2, 5, 40, 10 ^ (20 : Int).toNat, (c.natAbs : Int)]) (vs := [.int 0, .int 1, .int 1, .int 2, .int 5, .int 40, .int (10 ^ (20 : Int).toNat), .int (c.natAbs : Int)]) (k := x8) rfl (by omega) (by show x8 < 8; omega)
          have wvB : 0 ≤ wv ∧ wv ≤ c.natAbs + 10 ^ 20 := by
            have et : (10 : Int) ^ (20 : Int).toNat = 10 ^ 20 := rfl
            rw [et] at wvm
            simp only [List.mem_cons, List.not_mem_nil, or_false] at wvm
            omega
          refine ⟨p7, _, _, _, rfl, rfl, .inl (.inl h8), wva, ?_⟩
          -- the meter
          have q8 := q7.trans r8
          have hM8 : H8 M = some (.lst (ts.map V.ref)) := by
            have a5 : H5 M = some (.lst (ts.map V.ref)) := r5.keep _ _ nMd hM4
            have a6 := r6.keep _ _ nMd (show upd H5 p5 _ M = some (.lst (ts.map V.ref)) by rw [upd_ne (ne_of_none a5 n5)]; exact a5)
            exact r8.keep _ _ nMd (by rw [upd_ne (ne_of_none a6 n7)]; exact a6)
          have hL8 : H8 L = some (.lst (ys.map V.str)) := by
            have a5 : H5 L = some (.lst (ys.map V.str)) := r5.keep _ _ nLd hL4
            have a6 := r6.keep _ _ nLd (show upd H5 p5 _ L = some (.lst (ys.map V.str)) by rw [upd_ne (ne_of_none a5 n5)]; exact a5)
            exact r8.keep _ _ nLd (by rw [upd_ne (ne_of_none a6 n7)]; exact a6)
          have hP8 : Paired (MtAt H8) ts ms :=
            r8.mts q7.at_ (same_mts (same_new n7) (r6.mts q5.at_ (same_mts (same_new n5) (r5.mts r4.at_ hP4))))
          refine ⟨.ref M, rfl, .inl ⟨rfl, _, .inl (.inl hM8)⟩, .str ys[i], rfl, .int lv, rfl, .int lv, rfl, .int wv, rfl, _, _, rfl, rfl, small' (n := 6) (by decide), fun p9 n9 => ?_⟩
          have n9d : p9 ≠ d := q8.ne n9
          have q9 := q8.then (same_new (o := .lst [.int 0, .int 0, .int 1, .int 2, .int 7, .int 60]) n9)
          refine ⟨.ref d, rfl, d, _, rfl, q9.at_, by decide, fun HA xA rA xA0 xA1 => ?_⟩
          have hA : HA p9 = some (.lst [.int 0, .int 0, .int 1, .int 2, .int 7, .int 60]) := rA.keep _ _ n9d upd_same
          obtain ⟨ev, evm, eva⟩ := pick (xs := [0, 0, 1, 2, 7, 60]) (vs := [.int 0, .int 0, .int 1, .int 2, .int 7, .int 60]) (k := xA) rfl (by omega) (by show xA < 6; omega)
          have evB : 0 ≤ ev ∧ ev ≤ 60 := by
            simp only [List.mem_cons, List.not_mem_nil, or_false] at evm
            omega
          refine ⟨p9, _, _, _, rfl, rfl, .inl (.inl hA), eva, small' (n := 4) (by decide), fun t nt => ?_⟩
          have qA := q9.trans rA
          have hMA : HA M = some (.lst (ts.map V.ref)) := rA.keep _ _ nMd (by rw [upd_ne (ne_of_none hM8 n9)]; exact hM8)
          have hLA : HA L = some (.lst (ys.map V.str)) := rA.keep _ _ nLd (by rw [upd_ne (ne_of_none hL8 n9)]; exact hL8)
          have hPA : Paired (MtAt HA) ts ms := rA.mts q9.at_ (same_mts (same_new n9) hP8)
          have qT := qA.then (same_new (o := .tup [.str ys[i], .int lv, .int (lv + wv), .int ev]) nt)
          have nMt : M ≠ t := ne_of_none hMA nt
          have nLt : L ≠ t := ne_of_none hLA nt
          have nMfree : H M = none := r12.free hd nM
          refine ⟨M, _, _, rfl, rfl, by rw [upd_ne nMt]; exact hMA, by rw [List.length_map, htl]; exact small (by omega), ?_⟩
          have kp : Same HA (upd HA t (.tup [.str ys[i], .int lv, .int (lv + wv), .int ev])) := same_new nt
          refine ⟨_, _, _, _, ts ++ [t], ms ++ [⟨ys[i], lv, lv + wv, ev⟩], rfl, qT.keepNew nMd nMfree, ?_, ?_, ?_, ?_, ?_⟩
          · rw [upd_ne (show L ≠ M from nML.symm), upd_ne nLt]
            exact hLA
          · rw [upd_same, map_snoc]
          · have tupM : ∀ b xs, (upd HA t (.tup [.str ys[i], .int lv, .int (lv + wv), .int ev])) b = some (.tup xs) → upd (upd HA t (.tup [.str ys[i], .int lv, .int (lv + wv), .int ev])) M (.lst (ts.map V.ref ++ [V.ref t])) b = some (.tup xs) := fun b xs z => by
              have nb : b ≠ M := fun zz => by
                rw [zz, upd_ne nMt, hMA] at z
                cases z
              rw [upd_ne nb]
              exact z
            have lift : ∀ {us : List Addr} {ls : List Mt}, Paired (MtAt HA) us ls → Paired (MtAt (upd (upd HA t (.tup [.str ys[i], .int lv, .int (lv + wv), .int ev])) M (.lst (ts.map V.ref ++ [V.ref t])))) us ls := fun {us ls} z => L2.Paired.mapP z fun a b y => tupM _ _ (kp _ _ y)
            exact (lift hPA).snoc (tupM t _ upd_same)
          · rw [List.map_append, hn4, List.take_add_one, List.getElem?_eq_getElem hlt]
            rfl
          · intro m hm
            rcases List.mem_append.mp hm with z | z
            · exact ho4 m z
            · rw [List.mem_singleton.mp z]
              exact ⟨by show lv ≤ lv + wv; omega, evB.1, evB.2, lvB, by show (lv + wv).natAbs ≤ _; omega⟩
        · obtain ⟨y4, y5, y6, y7, ts, ms, rfl, r4, hL4, hM4, hP4, hn4, ho4⟩ := hp
          rw [List.length_map, List.take_length] at hn4
          refine ⟨.int c, rfl, c, rfl, _, _, rfl, rfl, small' (n := 6) (by decide), fun p5 n5 => ?_⟩
          rw [abs_eq]
          have n5d : p5 ≠ d := r4.ne n5
          have q5 := r4.then (same_new (o := .lst [.int 1, .int 2, .int 5, .int 10, .int 60, .int (1 + (c.natAbs : Int))]) n5)
          refine ⟨.ref d, rfl, d, _, rfl, q5.at_, by decide, fun H6 x6 r6 x60 x61 => ?_⟩
          have h6 : H6 p5 = some (.lst [.int 1, .int 2, .int 5, .int 10, .int 60, .int (1 + (c.natAbs : Int))]) := r6.keep _ _ n5d upd_same
          obtain ⟨lv, lvm, lva⟩ := pick (xs := [1, 2, 5, 10, 60, 1 + (c.natAbs : Int)]) (vs := [.int 1, .int 2, .int 5, .int 10, .int 60, .int (1 + (c.natAbs : Int))]) (k := x6) rfl (by omega) (by show x6 < 6; omega)
          have lvB : 1 ≤ lv ∧ lv ≤ c.natAbs + 60 := by
            simp only [List.mem_cons, List.not_mem_nil, or_false] at lvm
            omega
          refine ⟨p5, _, _, _, rfl, rfl, .inl (.inl h6), lva, ?_⟩
          have q6 := q5.trans r6
          have hM6 : H6 M = some (.lst (ts.map V.ref)) := r6.keep _ _ nMd (by rw [upd_ne (ne_of_none hM4 n5)]; exact hM4)
          have hP6 : Paired (MtAt H6) ts ms := r6.mts q5.at_ (same_mts (same_new n5) hP4)
          refine ⟨.int lv, rfl, .ref M, rfl, M, _, rfl, .inl ⟨.inl (.inl hM6), fun tm ntm => ⟨small' (n := 2) (by decide), fun p np => ?_⟩⟩⟩
          have s1 := same_new (o := .tup (ts.map V.ref)) ntm
          have s2 := same_new (o := .tup [.int lv, .ref tm]) np
          have nn : tm ≠ p := fun z => by
            rw [← z, upd_same] at np
            cases np
          refine q _ p tm ts ⟨lv, ms⟩ ((q6.then s1).then s2) ⟨upd_same, by rw [upd_ne nn, upd_same], same_mts s2 (same_mts s1 hP6)⟩ ⟨lvB.1, lvB.2, fun z => ysne ?_, ?_, ?_, ho4⟩ fun m hm => ysW _ ?_
          · have z' : ms = [] := z
            rw [z'] at hn4
            exact hn4.symm
          · have := congrArg List.length hn4
            rw [List.length_map] at this
            show ms.length ≤ 6
            omega
          · show Risen (ms.map Mt.name)
            rw [hn4]
            exact ⟨so, nd⟩
          · rw [← hn4]
            exact List.mem_map_of_mem hm)
end
def sp_l_versions (K : PySem.W.Frag) : Sp := fun vs H Q _ => ∃ (d t : Addr) (m : Mt), vs = [.ref d, .ref t] ∧ DrA H d ∧ MtAt H t m ∧ m.low ≤ m.high ∧ ∀ H' tv os, Dr d H H' → H' tv = some (.tup (os.map optV)) → VersOk m os → Q (.ref tv) H'
section
variable {P : Program} {w : World} {K : PySem.W.Frag} {mg : Str → Option Value} {base : Heap}
theorem ok_l_versions (T : Ctx K mg) : FnOk P w K mg base CX0 3 T.f_l_versions T.fd_l_versions ["draws", "meter"] (sp_l_versions K) := by
  refine T.F_l_versions.ok sc_l_versions (fun vs H Q E h => ?_) (fun cdv A outer s H vs Q E hr h => ?_)
  · obtain ⟨d, t, m, rfl, _⟩ := h
    rfl
  · obtain ⟨d, t, m, rfl, hd, hm, ho, q⟩ := h
    refine ⟨_, (pss_cons (ps_set (i := 2) sc_l_versions.nd rfl (.inl rfl) (pe_lst (pa_cons (pe_call (ok_l_reading T) (hr.mono (by decide)) (by rfl) T.g_l_reading T.F_l_reading.kp T.b_l_reading .nil pass0 (pa_cons (pv 0) (pa_cons (pv 1) pa_nil))) pa_nil)))
      (pss_cons (ps_set (i := 3) sc_l_versions.nd rfl (.inl rfl) (pe_ix ix_list (pe_lst (pa_cons pe_int (pa_cons pe_int (pa_cons pe_int (pa_cons pe_int (pa_cons pe_int (pa_cons pe_int pa_nil))))))) (pe_call (ok_l_take T) (hr.mono (by decide)) (by rfl) T.g_l_take T.F_l_take.kp T.b_l_take .nil pass0 (pa_cons (pv 0) (pa_cons pe_int pa_nil))) (fun _ _ => rfl)))
      (pss_cons (ps_if (pt_cmpR op_eq (pe_call (ok_l_take T) (hr.mono (by decide)) (by rfl) T.g_l_take T.F_l_take.kp T.b_l_take .nil pass0 (pa_cons (pv 0) (pa_cons pe_int pa_nil))) pe_int (nomark _))
        (pss_one (ps_set (i := 3) sc_l_versions.nd rfl (.inl rfl) pe_int))
        pss_nil)
      (pss_cons (ps_for PassesOwn.never rfl (pi_range1 (by rfl) T.m_range (pa_cons (pv 3) pa_nil)) (pg_name (i := 4) sc_l_versions.nd rfl (.inl rfl))
        (pss_cons (ps_set (i := 5) sc_l_versions.nd rfl (.inl rfl) (pe_call (ok_l_reading T) (hr.mono (by decide)) (by rfl) T.g_l_reading T.F_l_reading.kp T.b_l_reading .nil pass0 (pa_cons (pv 0) (pa_cons (pv 1) pa_nil))))
      (pss_cons (ps_if (pt_cmpR op_eq (pe_call (ok_l_take T) (hr.mono (by decide)) (by rfl) T.g_l_take T.F_l_take.kp T.b_l_take .nil pass0 (pa_cons (pv 0) (pa_cons pe_int pa_nil))) pe_int (nomark _))
        (pss_one (ps_set (i := 5) sc_l_versions.nd rfl (.inl rfl) pe_non))
        pss_nil)
      (pss_one (ps_expr (pe_bm PySem.F.plainAttrs_list PySem.F.slot_list_append PySem.F.type_list_append mt_append (pv 2) (pa_cons (pv 5) pa_nil)))))))
      (pss_one (ps_ret (pe_callTy call_tuple_of (by rfl) T.m_tuple (by decide +kernel) (pa_cons (pv 2) pa_nil)))))))), ?_⟩
    refine ⟨.ref d, rfl, .ref t, rfl, d, t, m, rfl, hd, hm, ho, fun H1 v0 r1 a0 a1 => ⟨small' (n := 1) (by decide), fun W nW => ?_⟩⟩
    have nWd : W ≠ d := r1.ne nW
    have nHW : H W = none := r1.free hd nW
    have r2 := r1.then (same_new (o := .lst [.int v0]) nW)
    refine ⟨small' (n := 6) (by decide), fun p np => ?_⟩
    have npd : p ≠ d := r2.ne np
    have hW2 : upd (upd H1 W (.lst [.int v0])) p (.lst [.int 0, .int 0, .int 0, .int 1, .int 2, .int 5]) W = some (.lst [.int v0]) := same_new np _ _ upd_same
    have r3 := r2.then (same_new (o := .lst [.int 0, .int 0, .int 0, .int 1, .int 2, .int 5]) np)
    refine ⟨.ref d, rfl, d, _, rfl, r3.at_, by decide, fun H4 x r4 x0 x1 => ?_⟩
    have h4 : H4 p = some (.lst [.int 0, .int 0, .int 0, .int 1, .int 2, .int 5]) := r4.keep _ _ npd upd_same
    obtain ⟨lv, lvm, lva⟩ := pick (xs := [0, 0, 0, 1, 2, 5]) (vs := [.int 0, .int 0, .int 0, .int 1, .int 2, .int 5]) (k := x) rfl (by omega) (by show x < 6; omega)
    have lvB : 0 ≤ lv ∧ lv ≤ 11 := by
      simp only [List.mem_cons, List.not_mem_nil, or_false] at lvm
      omega
    have hW4 := r4.keep _ _ nWd hW2
    have r34 := r3.trans r4
    refine ⟨p, _, _, _, rfl, rfl, .inl (.inl h4), lva, ?_⟩
    refine ⟨.ref d, rfl, d, _, rfl, r4.at_, by decide, fun H5 y r5 y0 y1 => ⟨rfl, _, rfl, ite2 (fun e => ?c1) (fun e => ?c2)⟩⟩
    case' c1 =>
      obtain ⟨mn, emn, m0, m1⟩ : ∃ mn : Int, mn = 11 ∧ 0 ≤ mn ∧ mn ≤ 11 := ⟨11, rfl, by decide, by decide⟩
      rw [← emn]
    case' c2 =>
      obtain ⟨mn, emn, m0, m1⟩ : ∃ mn : Int, mn = lv ∧ 0 ≤ mn ∧ mn ≤ 11 := ⟨lv, rfl, lvB.1, lvB.2⟩
      rw [← emn]
    all_goals (
      clear emn
      have r35 := r34.trans r5
      have hW5 := r5.keep _ _ nWd hW4
      refine ⟨.int mn, rfl, mn, rfl, by omega, by omega, for_range (lo := 0) (n := mn.toNat) (fun i σ H' => ∃ (y4 y5 : Option V) (os : List (Option Int)), σ = [some (.ref d), some (.ref t), some (.ref W), some (.int mn), y4, y5] ∧ Dr d H H' ∧ H' W = some (.lst (os.map optV)) ∧ (∃ v r, os = some v :: r) ∧ os.length = i + 1 ∧ ∀ v, some v ∈ os → m.low ≤ v ∧ v ≤ m.high)
        ⟨none, none, [some v0], rfl, r35, hW5, ⟨v0, [], rfl⟩, rfl, fun v hv => by cases List.mem_singleton.mp hv; exact ⟨a0, a1⟩⟩ (fun i σ H' hi hp => ?_) (fun σ H' hp => ?_)⟩
      · obtain ⟨y4, y5, os, rfl, r6, hW6, ⟨v1, r1', eos⟩, lo6, ea6⟩ := hp
        have hm6 : MtAt H' t m := r6.tup hd hm
        refine ⟨.ref d, rfl, .ref t, rfl, d, t, m, rfl, r6.at_, hm6, ho, fun H7 v r7 b0 b1 => ?_⟩
        refine ⟨.ref d, rfl, d, _, rfl, r7.at_, by decide, fun H8 z r8 z0 z1 => ⟨rfl, _, rfl, ?_⟩⟩
        have r68 := (r6.trans r7).trans r8
        have hW8 := r8.keep _ _ nWd (r7.keep _ _ nWd hW6)
        have fin : ∀ (o : Option Int) (w : V), w = optV o → (∀ u, o = some u → m.low ≤ u ∧ u ≤ m.high) → ∀ σ, σ = [some (.ref d), some (.ref t), some (.ref W), some (.int mn), some (.int (0 + (i : Int))), some w] → ∃ (y4 y5 : Option V) (ns : List (Option Int)), σ = [some (.ref d), some (.ref t), some (.ref W), some (.int mn), y4, y5] ∧ Dr d H (upd H8 W (.lst (os.map optV ++ [w]))) ∧ upd H8 W (.lst (os.map optV ++ [w])) W = some (.lst (ns.map optV)) ∧ (∃ v r, ns = some v :: r) ∧ ns.length = i + 1 + 1 ∧ (∀ v, some v ∈ ns → m.low ≤ v ∧ v ≤ m.high) := by
          rintro o w rfl hw σ rfl
          refine ⟨_, _, os ++ [o], rfl, r68.keepNew nWd nHW, ?_, ⟨v1, r1' ++ [o], by rw [eos]; rfl⟩, by rw [List.length_append, lo6]; rfl, fun u hu => ?_⟩
          · rw [upd_same, List.map_append]
            rfl
          · rcases List.mem_append.mp hu with q1 | q1
            · exact ea6 u q1
            · exact hw u (List.mem_singleton.mp q1).symm
        have ln : (os.map optV).length < sizeLine := by
          rw [List.length_map]
          exact small (by omega)
        refine ite2 (fun _ => ?_) (fun _ => ?_)
        · exact ⟨.ref W, rfl, .inl ⟨rfl, _, .inl (.inl hW8)⟩, .non, rfl, W, _, _, rfl, rfl, hW8, ln, fin none _ rfl (fun _ z => nomatch z) _ rfl⟩
        · exact ⟨.ref W, rfl, .inl ⟨rfl, _, .inl (.inl hW8)⟩, .int v, rfl, W, _, _, rfl, rfl, hW8, ln, fin (some v) _ rfl (fun u z => by cases z; exact ⟨b0, b1⟩) _ rfl⟩
      · obtain ⟨y4, y5, os, rfl, r6, hW6, hd6, lo6, ea6⟩ := hp
        refine ⟨.ref W, rfl, W, _, rfl, .inl ⟨.inl (.inl hW6), fun tv ntv => q _ tv os (r6.then (same_new ntv)) upd_same ⟨hd6, by omega, ea6⟩⟩⟩)
end
def sp_l_slots (K : PySem.W.Frag) : Sp := fun vs H Q _ => ∃ (d t : Addr) (m : Mt) (most c : Int), vs = [.ref d, .ref t, .int most, .int c] ∧ DrA H d ∧ MtAt H t m ∧ m.low ≤ m.high ∧ 0 ≤ most ∧ most ≤ 20 ∧
  ∀ H' tt us xs st, Dr d H H' → H' tt = some (.tup (us.map V.ref)) → Paired (SlAt H') us xs → SlsOk m c st xs → us.length ≤ 50 → Q (.ref tt) H'
section
variable {P : Program} {w : World} {K : PySem.W.Frag} {mg : Str → Option Value} {base : Heap}
theorem ok_l_slots (T : Ctx K mg) : FnOk P w K mg base CX0 4 T.f_l_slots T.fd_l_slots ["draws", "meter", "most", "cell"] (sp_l_slots K) := by
  refine T.F_l_slots.ok sc_l_slots (fun vs H Q E h => ?_) (fun cdv A outer s H vs Q E hr h => ?_)
  · obtain ⟨d, t, m, most, c, rfl, _⟩ := h
    rfl
  · obtain ⟨d, t, m, most, c, rfl, hd, hm, ho, m0, m1, q⟩ := h
    refine ⟨_, (pss_cons (ps_set (i := 4) sc_l_slots.nd rfl (.inl rfl) (pe_ix ix_list (pe_lst (pa_cons (pe_op op_sub (pe_call (ok_l_take T) (hr.mono (by decide)) (by rfl) T.g_l_take T.F_l_take.kp T.b_l_take .nil pass0 (pa_cons (pv 0) (pa_cons pe_int pa_nil))) pe_int) (pa_cons (pv 3) pa_nil))) (pe_op op_fdiv (pe_call (ok_l_take T) (hr.mono (by decide)) (by rfl) T.g_l_take T.F_l_take.kp T.b_l_take .nil pass0 (pa_cons (pv 0) (pa_cons pe_int pa_nil))) pe_int) (fun _ _ => rfl)))
      (pss_cons (ps_set (i := 5) sc_l_slots.nd rfl (.inl rfl) (pe_lst pa_nil))
      (pss_cons (ps_for PassesOwn.never rfl (pi_range1 (by rfl) T.m_range (pa_cons (pe_call (ok_l_take T) (hr.mono (by decide)) (by rfl) T.g_l_take T.F_l_take.kp T.b_l_take .nil pass0 (pa_cons (pv 0) (pa_cons (pe_op op_add (pv 2) pe_int) pa_nil))) pa_nil)) (pg_name (i := 6) sc_l_slots.nd rfl (.inl rfl))
        (pss_cons (ps_set (i := 4) sc_l_slots.nd rfl (.inl rfl) (pe_op op_add (pv 4) (pe_ix ix_list (pe_lst (pa_cons pe_int (pa_cons pe_int (pa_cons pe_int (pa_cons pe_int (pa_cons pe_int pa_nil)))))) (pe_call (ok_l_take T) (hr.mono (by decide)) (by rfl) T.g_l_take T.F_l_take.kp T.b_l_take .nil pass0 (pa_cons (pv 0) (pa_cons pe_int pa_nil))) (fun _ _ => rfl))))
      (pss_one (ps_expr (pe_bm PySem.F.plainAttrs_list PySem.F.slot_list_append PySem.F.type_list_append mt_append (pv 5) (pa_cons (pe_tup (pa_cons (pv 4) (pa_cons (pe_call (ok_l_versions T) (hr.mono (by decide)) (by rfl) T.g_l_versions T.F_l_versions.kp T.b_l_versions .nil pass0 (pa_cons (pv 0) (pa_cons (pv 1) pa_nil))) pa_nil))) pa_nil))))))
      (pss_cons (ps_if (pt_cmpR op_eq (pe_call (ok_l_take T) (hr.mono (by decide)) (by rfl) T.g_l_take T.F_l_take.kp T.b_l_take .nil pass0 (pa_cons (pv 0) (pa_cons pe_int pa_nil))) pe_int (nomark _))
        (pss_cons (ps_set (i := 7) sc_l_slots.nd rfl (.inl rfl) (pe_call (ok_l_take T) (hr.mono (by decide)) (by rfl) T.g_l_take T.F_l_take.kp T.b_l_take .nil pass0 (pa_cons (pv 0) (pa_cons pe_int pa_nil))))
      (pss_one (ps_for PassesOwn.never rfl (pi_range1 (by rfl) T.m_range (pa_cons pe_int pa_nil)) (pg_name (i := 6) sc_l_slots.nd rfl (.inl rfl))
        (pss_one (ps_expr (pe_bm PySem.F.plainAttrs_list PySem.F.slot_list_append PySem.F.type_list_append mt_append (pv 5) (pa_cons (pe_tup (pa_cons (pe_op op_add (pv 4) (pe_op op_mul (pv 7) (pe_op op_fdiv (pv 6) pe_int))) (pa_cons (pe_ix ix_list (pe_lst (pa_cons (pe_tup (pa_cons (pe_ix ix_tup (pv 1) pe_int (fun _ _ => rfl)) pa_nil)) (pa_cons (pe_tup (pa_cons (pe_ix ix_tup (pv 1) pe_int (fun _ _ => rfl)) (pa_cons pe_non pa_nil))) (pa_cons (pe_tup (pa_cons (pe_ix ix_tup (pv 1) pe_int (fun _ _ => rfl)) pa_nil)) pa_nil)))) (pe_op op_mod (pv 6) pe_int) (fun _ _ => rfl)) pa_nil))) pa_nil)))))))
        pss_nil)
      (pss_one (ps_ret (pe_callTy call_tuple_of (by rfl) T.m_tuple (by decide +kernel) (pa_cons (pv 5) pa_nil)))))))), ?_⟩
    -- stamp
    refine ⟨.ref d, rfl, d, _, rfl, hd, by decide, fun H1 x5 r1 x50 x51 => ⟨_, _, rfl, rfl, .int c, rfl, small' (n := 2) (by decide), fun p1 n1 => ?_⟩⟩
    have n1d : p1 ≠ d := r1.ne n1
    have q1 := r1.then (same_new (o := .lst [.int (x5 - 12), .int c]) n1)
    refine ⟨.ref d, rfl, d, _, rfl, q1.at_, by decide, fun H2 x6 r2 x60 x61 => ?_⟩
    have h2 : H2 p1 = some (.lst [.int (x5 - 12), .int c]) := r2.keep _ _ n1d upd_same
    obtain ⟨s0, s0m, s0a⟩ := pick (xs := [x5 - 12, c]) (vs := [.int (x5 - 12), .int c]) (k := x6 / 8) rfl (by omega) (by show x6 / 8 < 2; omega)
    have s0B : s0.natAbs ≤ c.natAbs + 12 := by
      rcases List.mem_cons.mp s0m with z | z
      · omega
      · rw [List.mem_singleton.mp z]; omega
    refine ⟨_, _, rfl, rfl, ⟨by decide, by decide⟩, p1, _, _, _, rfl, rfl, .inl (.inl h2), s0a, ?_⟩
    have q2 := q1.trans r2
    refine ⟨small' (n := 0) (by decide), fun S nS => ?_⟩
    have nSd : S ≠ d := q2.ne nS
    have nHS : H S = none := q2.free hd nS
    have q3 := q2.then (same_new (o := .lst []) nS)
    refine ⟨.ref d, rfl, .int most, rfl, _, _, rfl, rfl, d, _, rfl, q3.at_, by omega, fun H4 kk r4 k0 k1 => ⟨kk, rfl, by omega, by omega, ?_⟩⟩
    have q4 := q3.trans r4
    have hS4 : H4 S = some (.lst []) := r4.keep _ _ nSd upd_same
    refine for_range (lo := 0) (n := kk.toNat) (fun i σ H' => ∃ (y6 y7 : Option V) (st : Int) (us : List Addr) (xs : List Sl), σ = [some (.ref d), some (.ref t), some (.int most), some (.int c), some (.int st), some (.ref S), y6, y7] ∧ Dr d H H' ∧ H' S = some (.lst (us.map V.ref)) ∧ Paired (SlAt H') us xs ∧ SlsOk m c st xs ∧ us.length ≤ i ∧ st.natAbs ≤ c.natAbs + 12 + 7 * i)
      ⟨none, none, s0, [], [], rfl, q4, hS4, .nil, .nil _ _ _, Nat.zero_le _, by omega⟩ (fun i σ H' hi hp => ?_) (fun σ H' hp => ?_)
    · obtain ⟨y6, y7, st, us, xs, rfl, r5, hS5, hp5, ok5, len5, st5⟩ := hp
      refine ⟨.int st, rfl, small' (n := 5) (by decide), fun p6 n6 => ?_⟩
      have n6d : p6 ≠ d := r5.ne n6
      have q6 := r5.then (same_new (o := .lst [.int 0, .int 0, .int 1, .int 2, .int 7]) n6)
      refine ⟨.ref d, rfl, d, _, rfl, q6.at_, by decide, fun H7 x r7 x0 x1 => ?_⟩
      have h7 : H7 p6 = some (.lst [.int 0, .int 0, .int 1, .int 2, .int 7]) := r7.keep _ _ n6d upd_same
      obtain ⟨ev, evm, eva⟩ := pick (xs := [0, 0, 1, 2, 7]) (vs := [.int 0, .int 0, .int 1, .int 2, .int 7]) (k := x) rfl (by omega) (by show x < 5; omega)
      have evB : 0 ≤ ev ∧ ev ≤ 7 := by
        simp only [List.mem_cons, List.not_mem_nil, or_false] at evm
        omega
      refine ⟨p6, _, _, _, rfl, rfl, .inl (.inl h7), eva, _, _, rfl, rfl, ?_⟩
      have q7 := q6.trans r7
      have hS7 : H7 S = some (.lst (us.map V.ref)) := r7.keep _ _ nSd (same_new n6 _ _ hS5)
      have hp7 := sls_kept (r7.kt q6.at_) (sls_kept (Same.kt (same_new (o := .lst [.int 0, .int 0, .int 1, .int 2, .int 7]) n6)) hp5)
      have hm7 : MtAt H7 t m := q7.tup hd hm
      refine ⟨.ref S, rfl, .inl ⟨rfl, _, .inl (.inl hS7)⟩, .int (st + ev), rfl, .ref d, rfl, .ref t, rfl, d, t, m, rfl, q7.at_, hm7, ho, fun H8 tv os r8 htv vok => ⟨small' (n := 2) (by decide), fun s ns => ?_⟩⟩
      have q8 := q7.trans r8
      have hS8 : H8 S = some (.lst (us.map V.ref)) := r8.keep _ _ nSd hS7
      have hp8 := sls_kept (r8.kt q7.at_) hp7
      have k9 := same_new (o := .tup [.int (st + ev), .ref tv]) ns
      have hS9 := k9 _ _ hS8
      refine ⟨S, _, _, rfl, rfl, hS9, by rw [List.length_map]; exact small (by omega), _, _, st + ev, us ++ [s], xs ++ [⟨st + ev, os⟩], rfl, (q8.then k9).keepNew nSd nHS, by rw [upd_same, map_snoc], ?_, SlsOk.snoc (x := ⟨st + ev, os⟩) ok5 (by show st ≤ st + ev; omega) (by show (st + ev).natAbs ≤ _; omega) vok, by rw [List.length_append]; show _ + 1 ≤ _; omega, by omega⟩
      refine (sls_kept (KT.trans (Same.kt k9) (kt_lst hS9)) hp8).snoc ?_
      exact SlAt.kept (kt_lst hS9) ⟨tv, upd_same, k9 _ _ htv⟩
    · obtain ⟨y6, y7, st, us, xs, rfl, r5, hS5, hp5, ok5, len5, st5⟩ := hp
      have len6 : us.length ≤ 20 := by omega
      have st6 : st.natAbs ≤ c.natAbs + 12 + 140 := by omega
      refine ⟨.ref d, rfl, d, _, rfl, r5.at_, by decide, fun H6 y r6 y0 y1 => ⟨rfl, _, rfl, ite2 (fun e => ?_) (fun e => ?_)⟩⟩
      · refine ⟨.ref d, rfl, d, _, rfl, r6.at_, by decide, fun H7 sp r7 s0' s1' => ⟨30, rfl, by decide, by decide, ?_⟩⟩
        have q7 := (r5.trans r6).trans r7
        have hS7 : H7 S = some (.lst (us.map V.ref)) := r7.keep _ _ nSd (r6.keep _ _ nSd hS5)
        have hp7 := sls_kept (r7.kt r6.at_) (sls_kept (r6.kt r5.at_) hp5)
        refine for_range (lo := 0) (n := 30) (fun i σ H' => ∃ (y6 : Option V) (top : Int) (us : List Addr) (xs : List Sl), σ = [some (.ref d), some (.ref t), some (.int most), some (.int c), some (.int st), some (.ref S), y6, some (.int sp)] ∧ Dr d H H' ∧ H' S = some (.lst (us.map V.ref)) ∧ Paired (SlAt H') us xs ∧ SlsOk m c top xs ∧ us.length ≤ 20 + i ∧ top ≤ st + sp * ((0 + (i : Int)) / 2))
          ⟨_, st, us, xs, rfl, q7, hS7, hp7, ok5, by omega, ?_⟩ (fun i σ H' hi hp => ?_) (fun σ H' hp => ?_)
        · show st ≤ st + sp * ((0 + ((0 : Nat) : Int)) / 2)
          have e : (0 + ((0 : Nat) : Int)) / 2 = 0 := by decide
          rw [e, Int.mul_zero]
          omega
        · obtain ⟨y6, top, us, xs, rfl, r8, hS8, hp8, ok8, len8, top8⟩ := hp
          have hm8 : MtAt H' t m := r8.tup hd hm
          obtain ⟨e, ee, e0, e1, e2⟩ : ∃ e : Int, e = sp * ((0 + (i : Int)) / 2) ∧ 0 ≤ e ∧ e ≤ 60 ∧ e ≤ sp * ((0 + ((i + 1 : Nat) : Int)) / 2) := by
            have : sp = 0 ∨ sp = 1 ∨ sp = 2 := by omega
            refine ⟨_, rfl, ?_⟩
            rcases this with z | z | z <;> rw [z] <;> refine ⟨?_, ?_, ?_⟩ <;> omega
          rw [← ee] at top8
          refine ⟨.ref S, rfl, .inl ⟨rfl, _, .inl (.inl hS8)⟩, .int st, rfl, .int sp, rfl, .int (0 + (i : Int)), rfl, _, _, rfl, rfl, ⟨by decide, by decide⟩, _, _, rfl, rfl, .inl ⟨by omega, by omega⟩, _, _, rfl, rfl, ?_⟩
          refine ⟨.ref t, rfl, t, _, 1, _, rfl, rfl, .inl (.inl hm8), atI_nat (j := 1) rfl, small' (n := 1) (by decide), fun t1 n1 => ?_⟩
          have k1 := same_new (o := .tup [.int m.low]) n1
          refine ⟨.ref t, rfl, t, _, 2, _, rfl, rfl, .inl (.inl (k1 _ _ hm8)), atI_nat (j := 2) rfl, small' (n := 2) (by decide), fun t2 n2 => ?_⟩
          have k2 := same_new (o := .tup [.int m.high, .non]) n2
          refine ⟨.ref t, rfl, t, _, 2, _, rfl, rfl, .inl (.inl (k2 _ _ (k1 _ _ hm8))), atI_nat (j := 2) rfl, small' (n := 1) (by decide), fun t3 n3 => ⟨small' (n := 3) (by decide), fun L nL => ?_⟩⟩
          have k3 := same_new (o := .tup [.int m.high]) n3
          have k4 := same_new (o := .lst [.ref t1, .ref t2, .ref t3]) nL
          have f1 : upd (upd (upd (upd H' t1 (.tup [.int m.low])) t2 (.tup [.int m.high, .non])) t3 (.tup [.int m.high])) L (.lst [.ref t1, .ref t2, .ref t3]) t1 = some (.tup ([some m.low].map optV)) := k4 _ _ (k3 _ _ (k2 _ _ upd_same))
          have f2 : upd (upd (upd (upd H' t1 (.tup [.int m.low])) t2 (.tup [.int m.high, .non])) t3 (.tup [.int m.high])) L (.lst [.ref t1, .ref t2, .ref t3]) t2 = some (.tup ([some m.high, none].map optV)) := k4 _ _ (k3 _ _ upd_same)
          have f3 : upd (upd (upd (upd H' t1 (.tup [.int m.low])) t2 (.tup [.int m.high, .non])) t3 (.tup [.int m.high])) L (.lst [.ref t1, .ref t2, .ref t3]) t3 = some (.tup ([some m.high].map optV)) := k4 _ _ upd_same
          have fL : upd (upd (upd (upd H' t1 (.tup [.int m.low])) t2 (.tup [.int m.high, .non])) t3 (.tup [.int m.high])) L (.lst [.ref t1, .ref t2, .ref t3]) L = some (.lst [.ref t1, .ref t2, .ref t3]) := upd_same
          have k14 : Same H' (upd (upd (upd (upd H' t1 (.tup [.int m.low])) t2 (.tup [.int m.high, .non])) t3 (.tup [.int m.high])) L (.lst [.ref t1, .ref t2, .ref t3])) := ((k1.trans k2).trans k3).trans k4
          generalize upd (upd (upd (upd H' t1 (.tup [.int m.low])) t2 (.tup [.int m.high, .non])) t3 (.tup [.int m.high])) L (.lst [.ref t1, .ref t2, .ref t3]) = H9 at f1 f2 f3 fL k14
          obtain ⟨os, tv, hat, htv, vok⟩ : ∃ (os : List (Option Int)) (tv : Addr), atI [V.ref t1, .ref t2, .ref t3] ((0 + (i : Int)) % 3) = some (.ref tv) ∧ H9 tv = some (.tup (os.map optV)) ∧ VersOk m os := by
            have : (0 + (i : Int)) % 3 = 0 ∨ (0 + (i : Int)) % 3 = 1 ∨ (0 + (i : Int)) % 3 = 2 := by omega
            rcases this with z | z | z
            · refine ⟨_, t1, by rw [z]; rfl, f1, ⟨⟨_, [], rfl⟩, by show 1 ≤ 12; decide, fun v hv => ?_⟩⟩
              cases List.mem_singleton.mp hv
              exact ⟨Int.le_refl _, ho⟩
            · refine ⟨_, t2, by rw [z]; rfl, f2, ⟨⟨_, [none], rfl⟩, by show 2 ≤ 12; decide, fun v hv => ?_⟩⟩
              rcases List.mem_cons.mp hv with y | y
              · cases y
                exact ⟨ho, Int.le_refl _⟩
              · cases List.mem_singleton.mp y
            · refine ⟨_, t3, by rw [z]; rfl, f3, ⟨⟨_, [], rfl⟩, by show 1 ≤ 12; decide, fun v hv => ?_⟩⟩
              cases List.mem_singleton.mp hv
              exact ⟨ho, Int.le_refl _⟩
          refine ⟨.int (0 + (i : Int)), rfl, _, _, rfl, rfl, (show (0 : Int) < 3 by decide), L, _, _, _, rfl, rfl, .inl (.inl fL), hat, small' (n := 2) (by decide), fun s ns => ?_⟩
          rw [← ee]
          have k5 := same_new (o := .tup [.int (st + e), .ref tv]) ns
          have hS9 := k5 _ _ (k14 _ _ hS8)
          refine ⟨S, _, _, rfl, rfl, hS9, by rw [List.length_map]; exact small (by omega), _, st + e, us ++ [s], xs ++ [⟨st + e, os⟩], rfl, ((r8.then k14).then k5).keepNew nSd nHS, by rw [upd_same, map_snoc], ?_, SlsOk.snoc (x := ⟨st + e, os⟩) ok8 (by show top ≤ st + e; omega) (by show (st + e).natAbs ≤ _; omega) vok, by rw [List.length_append]; show _ + 1 ≤ _; omega, by omega⟩
          refine (sls_kept (KT.trans (Same.kt (k14.trans k5)) (kt_lst hS9)) hp8).snoc ?_
          exact SlAt.kept (kt_lst hS9) ⟨tv, upd_same, k5 _ _ htv⟩
        · obtain ⟨y6, top, us, xs, rfl, r8, hS8, hp8, ok8, len8, top8⟩ := hp
          exact ⟨.ref S, rfl, S, _, rfl, .inl ⟨.inl (.inl hS8), fun tt ntt => q _ tt us xs top (r8.then (same_new ntt)) upd_same (sls_kept (Same.kt (same_new ntt)) hp8) ok8 (by omega)⟩⟩
      · have hS6 : H6 S = some (.lst (us.map V.ref)) := r6.keep _ _ nSd hS5
        have hp6 := sls_kept (r6.kt r5.at_) hp5
        exact ⟨.ref S, rfl, S, _, rfl, .inl ⟨.inl (.inl hS6), fun tt ntt => q _ tt us xs st ((r5.trans r6).then (same_new ntt)) upd_same (sls_kept (Same.kt (same_new ntt)) hp6) ok5 (by omega)⟩⟩
end
def sp_l_history (K : PySem.W.Frag) : Sp := fun vs H Q _ => ∃ (d p tm : Addr) (ts : List Addr) (P : Pl) (most c : Int), vs = [.ref d, .ref p, .int most, .int c] ∧ DrA H d ∧ PlanAt H p tm ts P ∧ PlanOk c P ∧ 0 ≤ most ∧ most ≤ 20 ∧
  ∀ H' h ls, Dr d H H' → HistAt H' h ls → HistOk P c ls → Q (.ref h) H'
theorem paired_snoc_at {α β : Type} {R : α → β → Prop} {xs : List α} {ys : List β} {a : α} {b : β} {i : Nat} (h : Paired R (xs.take i) ys) (e : xs[i]? = some a) (r : R a b) : Paired R (xs.take (i + 1)) (ys ++ [b]) := by
  rw [List.take_add_one, e]
  exact h.snoc r
section
variable {P : Program} {w : World} {K : PySem.W.Frag} {mg : Str → Option Value} {base : Heap}
theorem ok_l_history (T : Ctx K mg) : FnOk P w K mg base CX0 5 T.f_l_history T.fd_l_history ["draws", "plan", "most", "cell"] (sp_l_history K) := by
  refine T.F_l_history.ok sc_l_history (fun vs H Q E h => ?_) (fun cdv A outer s H vs Q E hr h => ?_)
  · obtain ⟨d, p, tm, ts, P, most, c, rfl, _⟩ := h
    rfl
  · obtain ⟨d, p, tm, ts, P, most, c, rfl, hd, pa, po, m0, m1, q⟩ := h
    refine ⟨_, (pss_cons (ps_set (i := 4) sc_l_history.nd rfl (.inl rfl) (pe_lst pa_nil))
      (pss_cons (ps_for PassesOwn.never rfl (pi_tup (pe_ix ix_tup (pv 1) pe_int (fun _ _ => rfl))) (pg_name (i := 5) sc_l_history.nd rfl (.inl rfl))
        (pss_cons (ps_set (i := 6) sc_l_history.nd rfl (.inl rfl) (pe_op op_sub (pe_call (ok_l_take T) (hr.mono (by decide)) (by rfl) T.g_l_take T.F_l_take.kp T.b_l_take .nil pass0 (pa_cons (pv 0) (pa_cons (pe_op op_add (pe_op op_mul pe_int (pe_ix ix_tup (pv 5) pe_int (fun _ _ => rfl))) pe_int) pa_nil))) (pe_ix ix_tup (pv 5) pe_int (fun _ _ => rfl))))
      (pss_cons (ps_if (pt_cmpR op_eq (pe_call (ok_l_take T) (hr.mono (by decide)) (by rfl) T.g_l_take T.F_l_take.kp T.b_l_take .nil pass0 (pa_cons (pv 0) (pa_cons pe_int pa_nil))) pe_int (nomark _))
        (pss_one (ps_set (i := 6) sc_l_history.nd rfl (.inl rfl) (pe_ix ix_list (pe_lst (pa_cons (pe_ix ix_tup (pv 5) pe_int (fun _ _ => rfl)) (pa_cons (pe_un un_neg (pe_ix ix_tup (pv 5) pe_int (fun _ _ => rfl))) pa_nil))) (pe_call (ok_l_take T) (hr.mono (by decide)) (by rfl) T.g_l_take T.F_l_take.kp T.b_l_take .nil pass0 (pa_cons (pv 0) (pa_cons pe_int pa_nil))) (fun _ _ => rfl))))
        pss_nil)
      (pss_cons (ps_set (i := 7) sc_l_history.nd rfl (.inl rfl) (pe_call (ok_l_slots T) (hr.mono (by decide)) (by rfl) T.g_l_slots T.F_l_slots.kp T.b_l_slots .nil pass0 (pa_cons (pv 0) (pa_cons (pv 5) (pa_cons (pv 2) (pa_cons (pv 3) pa_nil))))))
      (pss_cons (ps_if (pt_cmpR op_gt (pe_callB call_len_seq (by rfl) T.m_len (by decide +kernel) (pa_cons (pv 4) pa_nil)) pe_int (nomark _))
        (pss_one (ps_set (i := 7) sc_l_history.nd rfl (.inl rfl) (pe_slice sl_tupA (pv 7) po_none (po_some (pv 2)))))
        pss_nil)
      (pss_one (ps_expr (pe_bm PySem.F.plainAttrs_list PySem.F.slot_list_append PySem.F.type_list_append mt_append (pv 4) (pa_cons (pe_tup (pa_cons (pe_ix ix_tup (pv 5) pe_int (fun _ _ => rfl)) (pa_cons (pv 6) (pa_cons (pv 7) pa_nil)))) pa_nil)))))))))
      (pss_one (ps_ret (pe_callTy call_tuple_of (by rfl) T.m_tuple (by decide +kernel) (pa_cons (pv 4) pa_nil)))))), ?_⟩
    have tl : ts.length = P.ms.length := pa.low.length
    have few := po.few
    refine ⟨small' (n := 0) (by decide), fun G nG => ?_⟩
    have nGd : G ≠ d := (Dr.refl hd).ne nG
    have r0 : Dr d H (upd H G (.lst [])) := (Dr.refl hd).then (same_new nG)
    have pa0 := pa.same (same_new (o := .lst []) nG)
    refine ⟨.ref p, rfl, p, _, 1, _, rfl, rfl, .inl (.inl pa0.top), atI_nat (j := 1) rfl, tm, rfl, ⟨_, .inl (.inl pa0.mid)⟩, for_tup (K := K) (a := tm) (xs := ts.map V.ref) (fun i σ H' => ∃ (y5 y6 y7 : Option V) (gs : List Addr) (ls : List Lg), σ = [some (.ref d), some (.ref p), some (.int most), some (.int c), some (.ref G), y5, y6, y7] ∧ Dr d H H' ∧ H' G = some (.lst (gs.map V.ref)) ∧ Paired (LgAt H') gs ls ∧ Paired (fun m x => LgOk m c x) (P.ms.take i) ls)
      ⟨none, none, none, [], [], rfl, r0, upd_same, .nil, by rw [List.take_zero]; exact .nil⟩ (fun i σ H' _ hp => ?_) (fun i x σ H' hx hp => ?_) (fun σ H' hp => ?_)⟩
    · obtain ⟨_, _, _, _, _, _, r1, _⟩ := hp
      exact .inl (.inl (r1.plan hd pa).mid)
    · obtain ⟨y5, y6, y7, gs, ls, rfl, r1, hG1, hp1, ok1⟩ := hp
      have il : i < ts.length := by
        have := (List.getElem?_eq_some_iff.mp hx).1
        rw [List.length_map] at this
        exact this
      have ex : x = .ref ts[i] := by
        rw [List.getElem?_map, List.getElem?_eq_getElem il] at hx
        exact (Option.some.inj hx).symm
      subst ex
      have pa1 := r1.plan hd pa
      obtain ⟨m, hm, hat⟩ := mts_at pa1.low (List.getElem?_eq_getElem il)
      have mo := po.each m (List.mem_of_getElem? hm)
      have e0 := mo.err0
      have gl : gs.length = i := by
        have a := hp1.length
        have b := ok1.length
        rw [List.length_take] at b
        omega
      generalize ts[i] = t at hat
      refine ⟨.ref d, rfl, .ref t, rfl, t, _, 3, _, rfl, rfl, .inl (.inl hat), atI_nat (j := 3) rfl, _, _, rfl, rfl, .inl ⟨by decide, by decide⟩, _, _, rfl, rfl, d, _, rfl, r1.at_, by omega, fun H2 u r2 u0 u1 => ?_⟩
      have hat2 : MtAt H2 t m := r2.tup r1.at_ hat
      have hS2 : SqT K H2 t [.str m.name, .int m.low, .int m.high, .int m.err] := .inl (.inl hat2)
      refine ⟨.ref t, rfl, t, _, 3, _, rfl, rfl, hS2, atI_nat (j := 3) rfl, _, _, rfl, rfl, ?_⟩
      refine ⟨.ref d, rfl, d, _, rfl, r2.at_, by decide, fun H3 x r3 x0 x1 => ⟨rfl, _, rfl, ite2 (fun e => ?c1) (fun e => ?c2)⟩⟩
      case' c1 =>
        have hat3 : MtAt H3 t m := r3.tup r2.at_ hat2
        have hS3 : SqT K H3 t [.str m.name, .int m.low, .int m.high, .int m.err] := .inl (.inl hat3)
        refine ⟨.ref t, rfl, t, _, 3, _, rfl, rfl, hS3, atI_nat (j := 3) rfl, .ref t, rfl, t, _, 3, _, rfl, rfl, hS3, atI_nat (j := 3) rfl, _, rfl, small' (n := 2) (by decide), fun p4 n4 => ?_⟩
        have r13 := r2.trans r3
        have n4d : p4 ≠ d := r3.ne n4
        have q4 := r13.then (same_new (o := .lst [.int m.err, .int (-m.err)]) n4)
        refine ⟨.ref d, rfl, d, _, rfl, q4.at_, by decide, fun HX z rX z0 z1 => ?_⟩
        have h5 : HX p4 = some (.lst [.int m.err, .int (-m.err)]) := rX.keep _ _ n4d upd_same
        obtain ⟨off, offm, offa⟩ := pick (xs := [m.err, -m.err]) (vs := [.int m.err, .int (-m.err)]) (k := z) rfl (by omega) (by show z < 2; omega)
        have offB : -m.err ≤ off ∧ off ≤ m.err := by
          simp only [List.mem_cons, List.not_mem_nil, or_false] at offm
          omega
        refine ⟨p4, _, _, _, rfl, rfl, .inl (.inl h5), offa, ?_⟩
        have rH := q4.trans rX
      case' c2 =>
        obtain ⟨HX, rfl⟩ : ∃ HX, HX = H3 := ⟨_, rfl⟩
        dsimp only
        have offB : -m.err ≤ u - m.err ∧ u - m.err ≤ m.err := by omega
        generalize u - m.err = off at offB
        have rH := r2.trans r3
      all_goals (
        have hatX : MtAt HX t m := rH.tup r1.at_ hat
        have hGX : HX G = some (.lst (gs.map V.ref)) := rH.keep _ _ nGd hG1
        have hpX := lgs_kept (rH.kt r1.at_) hp1
        refine ⟨.ref d, rfl, .ref t, rfl, .int most, rfl, .int c, rfl, d, t, m, most, c, rfl, rH.at_, hatX, mo.order, m0, m1, fun H6 tt us xs st r6 htt hus okx len6 => ?_⟩
        have hG6 : H6 G = some (.lst (gs.map V.ref)) := r6.keep _ _ nGd hGX
        have hp6 := lgs_kept (r6.kt rH.at_) hpX
        have hat6 : MtAt H6 t m := r6.tup rH.at_ hatX
        have rA := (r1.trans rH).trans r6
        have lg : (gs.map V.ref).length < sizeLine := by
          rw [List.length_map]
          exact small (by omega)
        have inv : ∀ (HY : Hp) (ty g : Addr) (vs : List Addr) (ys : List Sl), Same H6 HY → HY ty = some (.tup (vs.map V.ref)) → Paired (SlAt HY) vs ys → SlsOk m c st ys → ys.length ≤ 50 → HY g = none → ∀ σ, σ = [some (.ref d), some (.ref p), some (.int most), some (.int c), some (.ref G), some (.ref t), some (.int off), some (.ref ty)] →
            ∃ (y5 y6 y7 : Option V) (gs' : List Addr) (ls' : List Lg), σ = [some (.ref d), some (.ref p), some (.int most), some (.int c), some (.ref G), y5, y6, y7] ∧ Dr d H (upd (upd HY g (.tup [.str m.name, .int off, .ref ty])) G (.lst (gs.map V.ref ++ [.ref g]))) ∧ upd (upd HY g (.tup [.str m.name, .int off, .ref ty])) G (.lst (gs.map V.ref ++ [.ref g])) G = some (.lst (gs'.map V.ref)) ∧
              Paired (LgAt (upd (upd HY g (.tup [.str m.name, .int off, .ref ty])) G (.lst (gs.map V.ref ++ [.ref g])))) gs' ls' ∧ Paired (fun m x => LgOk m c x) (P.ms.take (i + 1)) ls' := by
          rintro HY ty g vs ys sY hty hvs oky leny ng σ rfl
          have k1 := same_new (o := .tup [.str m.name, .int off, .ref ty]) ng
          have hG7 := k1 _ _ (sY _ _ hG6)
          have kk := KT.trans (Same.kt (sY.trans k1)) (kt_lst (ys := gs.map V.ref ++ [.ref g]) hG7)
          refine ⟨_, _, _, gs ++ [g], ls ++ [⟨m.name, off, ys⟩], rfl, ((rA.then sY).then k1).keepNew nGd nG, by rw [upd_same, map_snoc], (lgs_kept kk hp6).snoc ?_, paired_snoc_at ok1 hm ⟨rfl, offB.1, offB.2, ⟨st, oky⟩, leny⟩⟩
          exact LgAt.kept (kt_lst hG7) ⟨ty, vs, upd_same, k1 _ _ hty, sls_kept (Same.kt k1) hvs⟩
        refine ⟨.ref G, rfl, G, _, rfl, .inl (.inl (.inl hG6)), _, _, rfl, rfl, _, rfl, ite2 (fun _ => ?_) (fun _ => ?_)⟩
        · have ec : cutV (us.map V.ref) none (some most) = (us.take most.toNat).map V.ref := by
            have e1 := cutV_to (us.map V.ref) most.toNat
            rw [Int.toNat_of_nonneg m0] at e1
            rw [e1, List.map_take]
          refine ⟨.ref tt, rfl, .int most, rfl, most, rfl, tt, _, rfl, .inl (.inl htt), fun _ => ?_, fun _ pn npn => ?_⟩
          · exact ⟨.ref G, rfl, .inl ⟨rfl, _, .inl (.inl hG6)⟩, .ref t, rfl, t, _, 0, _, rfl, rfl, .inl (.inl hat6), atI_nat (j := 0) rfl, .int off, rfl, .ref tt, rfl, small' (n := 3) (by decide), fun g ng => ⟨G, _, _, rfl, rfl, same_new ng _ _ hG6, lg, inv H6 tt g us xs (Same.refl _) htt hus okx (by have := hus.length; omega) ng _ rfl⟩⟩
          · rw [ec]
            have kn := same_new (o := .tup ((us.take most.toNat).map V.ref)) npn
            have lx := hus.length
            exact ⟨.ref G, rfl, .inl ⟨rfl, _, .inl (.inl (kn _ _ hG6))⟩, .ref t, rfl, t, _, 0, _, rfl, rfl, .inl (.inl (kn _ _ hat6)), atI_nat (j := 0) rfl, .int off, rfl, .ref pn, rfl, small' (n := 3) (by decide), fun g ng => ⟨G, _, _, rfl, rfl, same_new ng _ _ (kn _ _ hG6), lg, inv _ pn g (us.take most.toNat) (xs.take most.toNat) kn upd_same (paired_take _ (sls_kept (Same.kt kn) hus)) (okx.take _) (by rw [List.length_take]; omega) ng _ rfl⟩⟩
        · exact ⟨.ref G, rfl, .inl ⟨rfl, _, .inl (.inl hG6)⟩, .ref t, rfl, t, _, 0, _, rfl, rfl, .inl (.inl hat6), atI_nat (j := 0) rfl, .int off, rfl, .ref tt, rfl, small' (n := 3) (by decide), fun g ng => ⟨G, _, _, rfl, rfl, same_new ng _ _ hG6, lg, inv H6 tt g us xs (Same.refl _) htt hus okx (by have := hus.length; omega) ng _ rfl⟩⟩)
    · obtain ⟨y5, y6, y7, gs, ls, rfl, r1, hG1, hp1, ok1⟩ := hp
      rw [List.length_map, tl, List.take_length] at ok1
      refine ⟨.ref G, rfl, G, _, rfl, .inl ⟨.inl (.inl hG1), fun h nh => q _ h ls (r1.then (same_new nh)) ⟨gs, upd_same, lgs_kept (Same.kt (same_new nh)) hp1⟩ ok1⟩⟩
end
theorem paired_set {α β : Type} {R : α → β → Prop} {a : α} {b : β} (r : R a b) : ∀ {xs : List α} {ys : List β} (i : Nat), Paired R xs ys → Paired R (xs.set i a) (ys.set i b)
  | _, _, _, .nil => .nil
  | _, _, 0, .cons _ s => .cons r s
  | _, _, i + 1, .cons q s => .cons q (paired_set r i s)
theorem paired_erase {α β : Type} {R : α → β → Prop} : ∀ {xs : List α} {ys : List β} (i : Nat), Paired R xs ys → Paired R (xs.eraseIdx i) (ys.eraseIdx i)
  | _, _, _, .nil => .nil
  | _, _, 0, .cons _ s => s
  | _, _, i + 1, .cons q s => .cons q (paired_erase i s)
theorem map_erase {α β : Type} (f : α → β) : ∀ (xs : List α) (i : Nat), (xs.map f).eraseIdx i = (xs.eraseIdx i).map f
  | [], _ => rfl
  | _ :: _, 0 => rfl
  | x :: r, i + 1 => congrArg (f x :: ·) (map_erase f r i)
def VGood (n : Nat) (s : Sl) : Prop := s.vers ≠ [] ∧ s.vers.length ≤ n
def sp_l_other_log (K : PySem.W.Frag) : Sp := fun vs H Q _ => ∃ (d t g : Addr) (m : Mt) (x : Lg), vs = [.ref d, .ref t, .ref g] ∧ DrA H d ∧ MtAt H t m ∧ m.low ≤ m.high ∧ 0 ≤ m.err ∧ LgAt H g x ∧ x.slots.length ≤ 50 ∧ (∀ s ∈ x.slots, VGood 12 s) ∧
  ∀ H' a o xs, Dr d H H' → LgAt H' a ⟨x.name, o, xs⟩ → xs.length ≤ 60 → (∀ s ∈ xs, VGood 24 s) → Q (.ref a) H'
section
variable {P : Program} {w : World} {K : PySem.W.Frag} {mg : Str → Option Value} {base : Heap}
set_option pp.maxSteps 300 in
set_option maxHeartbeats 2000000 in
theorem ok_l_other_log (T : Ctx K mg) : FnOk P w K mg base CX0 4 T.f_l_other_log T.fd_l_other_log ["draws", "meter", "log"] (sp_l_other_log K) := by
  refine T.F_l_other_log.ok sc_l_other_log (fun vs H Q E h => ?_) (fun cdv A outer s H vs Q E hr h => ?_)
  · obtain ⟨d, t, g, m, x, rfl, _⟩ := h
    rfl
  · obtain ⟨d, t, g, m, x, rfl, hd, ht, ho, e0, hg, few, good, q⟩ := h
    refine ⟨_, (pss_cons (ps_set (i := 3) sc_l_other_log.nd rfl (.inl rfl) (pe_callTy call_list_of (by rfl) T.m_list (by decide +kernel) (pa_cons (pe_ix ix_tup (pv 2) pe_int (fun _ _ => rfl)) pa_nil)))
      (pss_cons (ps_set (i := 4) sc_l_other_log.nd rfl (.inl rfl) (pe_ix ix_tup (pv 2) pe_int (fun _ _ => rfl)))
      (pss_cons (ps_set (i := 5) sc_l_other_log.nd rfl (.inl rfl) (pe_call (ok_l_take T) (hr.mono (by decide)) (by rfl) T.g_l_take T.F_l_take.kp T.b_l_take .nil pass0 (pa_cons (pv 0) (pa_cons pe_int pa_nil))))
      (pss_cons (ps_if (pt_cmpR op_eq (pv 5) pe_int (nomark _))
        (pss_one (ps_set (i := 4) sc_l_other_log.nd rfl (.inl rfl) (pe_op op_sub (pe_call (ok_l_take T) (hr.mono (by decide)) (by rfl) T.g_l_take T.F_l_take.kp T.b_l_take .nil pass0 (pa_cons (pv 0) (pa_cons (pe_op op_add (pe_op op_mul pe_int (pe_ix ix_tup (pv 1) pe_int (fun _ _ => rfl))) pe_int) pa_nil))) (pe_ix ix_tup (pv 1) pe_int (fun _ _ => rfl)))))
        pss_nil)
      (pss_cons (ps_if (pt_cmpR op_eq (pv 5) pe_int (nomark _))
        (pss_cons (ps_set (i := 6) sc_l_other_log.nd rfl (.inl rfl) (pe_ix ix_list (pe_lst (pa_cons pe_int (pa_cons pe_int (pa_cons pe_int pa_nil)))) (pe_call (ok_l_take T) (hr.mono (by decide)) (by rfl) T.g_l_take T.F_l_take.kp T.b_l_take .nil pass0 (pa_cons (pv 0) (pa_cons pe_int pa_nil))) (fun _ _ => rfl)))
      (pss_cons (ps_if (pt_cmpR op_gt (pe_callB call_len_seq (by rfl) T.m_len (by decide +kernel) (pa_cons (pv 3) pa_nil)) pe_int (nomark _))
        (pss_one (ps_set (i := 6) sc_l_other_log.nd rfl (.inl rfl) (pe_op op_add (pe_ix ix_tup (pe_ix ix_list (pv 3) (pe_un un_neg pe_int) (fun _ _ => rfl)) pe_int (fun _ _ => rfl)) (pv 6))))
        pss_nil)
      (pss_one (ps_expr (pe_bm PySem.F.plainAttrs_list PySem.F.slot_list_append PySem.F.type_list_append mt_append (pv 3) (pa_cons (pe_tup (pa_cons (pv 6) (pa_cons (pe_call (ok_l_versions T) (hr.mono (by decide)) (by rfl) T.g_l_versions T.F_l_versions.kp T.b_l_versions .nil pass0 (pa_cons (pv 0) (pa_cons (pv 1) pa_nil))) pa_nil))) pa_nil))))))
        pss_nil)
      (pss_cons (ps_if (PW.pt (pw_or (pt_cmpR op_eq (pe_callB call_len_seq (by rfl) T.m_len (by decide +kernel) (pa_cons (pv 3) pa_nil)) pe_int (nomark _)) (pw_or1 (pt_cmpR op_lt (pv 5) pe_int (nomark _)))))
        (pss_one (ps_ret (pe_tup (pa_cons (pe_ix ix_tup (pv 2) pe_int (fun _ _ => rfl)) (pa_cons (pv 4) (pa_cons (pe_callTy call_tuple_of (by rfl) T.m_tuple (by decide +kernel) (pa_cons (pv 3) pa_nil)) pa_nil))))))
        pss_nil)
      (pss_cons (ps_set (i := 7) sc_l_other_log.nd rfl (.inl rfl) (pe_call (ok_l_take T) (hr.mono (by decide)) (by rfl) T.g_l_take T.F_l_take.kp T.b_l_take .nil pass0 (pa_cons (pv 0) (pa_cons (pe_callB call_len_seq (by rfl) T.m_len (by decide +kernel) (pa_cons (pv 3) pa_nil)) pa_nil))))
      (pss_cons (ps_set (i := 6) sc_l_other_log.nd rfl (.inl rfl) (pe_ix ix_tup (pe_ix ix_list (pv 3) (pv 7) (fun _ _ => rfl)) pe_int (fun _ _ => rfl)))
      (pss_cons (ps_set (i := 8) sc_l_other_log.nd rfl (.inl rfl) (pe_ix ix_tup (pe_ix ix_list (pv 3) (pv 7) (fun _ _ => rfl)) pe_int (fun _ _ => rfl)))
      (pss_cons (ps_if (pt_cmpR op_eq (pv 5) pe_int (nomark _))
        (pss_one (ps_expr (pe_bm PySem.F.plainAttrs_list PySem.F.slot_list_pop PySem.F.type_list_pop mt_popAt (pv 3) (pa_cons (pv 7) pa_nil))))
        pss_nil)
      (pss_cons (ps_if (pt_cmpR op_eq (pv 5) pe_int (nomark _))
        (pss_one (ps_asg (pe_tup (pa_cons (pv 6) (pa_cons (pe_op TT.op_cat_t (pv 8) (pe_call (ok_l_versions T) (hr.mono (by decide)) (by rfl) T.g_l_versions T.F_l_versions.kp T.b_l_versions .nil pass0 (pa_cons (pv 0) (pa_cons (pv 1) pa_nil)))) pa_nil))) (pg_sub (pv 3) (pv 7) set_list)))
        pss_nil)
      (pss_cons (ps_if (pt_cmpR op_eq (pv 5) pe_int (nomark _))
        (pss_one (ps_asg (pe_tup (pa_cons (pv 6) (pa_cons (pe_slice TT.sl_t (pv 8) po_none (po_some (pe_callB (call_max2 rfl) (by rfl) T.m_max (by decide +kernel) (pa_cons pe_int (pa_cons (pe_op op_sub (pe_callB call_len_seq (by rfl) T.m_len (by decide +kernel) (pa_cons (pv 8) pa_nil)) pe_int) pa_nil))))) pa_nil))) (pg_sub (pv 3) (pv 7) set_list)))
        pss_nil)
      (pss_cons (ps_if (pt_cmpR op_eq (pv 5) pe_int (nomark _))
        (pss_cons (ps_set (i := 9) sc_l_other_log.nd rfl (.inl rfl) (pe_call (ok_l_take T) (hr.mono (by decide)) (by rfl) T.g_l_take T.F_l_take.kp T.b_l_take .nil pass0 (pa_cons (pv 0) (pa_cons (pe_callB call_len_seq (by rfl) T.m_len (by decide +kernel) (pa_cons (pv 8) pa_nil)) pa_nil))))
      (pss_one (ps_asg (pe_tup (pa_cons (pv 6) (pa_cons (pe_op TT.op_cat_t (pe_op TT.op_cat_t (pe_slice TT.sl_t (pv 8) po_none (po_some (pv 9))) (pe_tup (pa_cons (pe_call (ok_l_reading T) (hr.mono (by decide)) (by rfl) T.g_l_reading T.F_l_reading.kp T.b_l_reading .nil pass0 (pa_cons (pv 0) (pa_cons (pv 1) pa_nil))) pa_nil))) (pe_slice TT.sl_t (pv 8) (po_some (pe_op op_add (pv 9) pe_int)) po_none)) pa_nil))) (pg_sub (pv 3) (pv 7) set_list))))
        pss_nil)
      (pss_cons (ps_if (pt_cmpR op_eq (pv 5) pe_int (nomark _))
        (pss_one (ps_asg (pe_tup (pa_cons (pe_op op_add (pe_ix ix_tup (pe_ix ix_list (pv 3) (pe_un un_neg pe_int) (fun _ _ => rfl)) pe_int (fun _ _ => rfl)) pe_int) (pa_cons (pe_ix ix_tup (pe_ix ix_list (pv 3) (pe_un un_neg pe_int) (fun _ _ => rfl)) pe_int (fun _ _ => rfl)) pa_nil))) (pg_sub (pv 3) (pe_un un_neg pe_int) set_list)))
        pss_nil)
      (pss_one (ps_ret (pe_tup (pa_cons (pe_ix ix_tup (pv 2) pe_int (fun _ _ => rfl)) (pa_cons (pv 4) (pa_cons (pe_callTy call_tuple_of (by rfl) T.m_tuple (by decide +kernel) (pa_cons (pv 3) pa_nil)) pa_nil)))))))))))))))))))), ?_⟩
    obtain ⟨ts, us, hga, hts, hus⟩ := hg
    have ul : us.length = x.slots.length := hus.length
    refine ⟨.ref g, rfl, g, _, 2, _, rfl, rfl, .inl (.inl hga), atI_nat (j := 2) rfl, ts, _, rfl, .inr (.inl (.inl hts)), fun S nS => ?_⟩
    have s0 := same_new (o := .lst (us.map V.ref)) nS
    have nSd : S ≠ d := (Dr.refl hd).ne nS
    have nHS : H S = none := nS
    have r0 : Dr d H (upd H S (.lst (us.map V.ref))) := (Dr.refl hd).then s0
    refine ⟨.ref g, rfl, g, _, 1, _, rfl, rfl, .inl (.inl (s0 _ _ hga)), atI_nat (j := 1) rfl, ?_⟩
    refine ⟨.ref d, rfl, d, _, rfl, r0.at_, by decide, fun H1 kind r1 k0 k1 => ?_⟩
    have hS1 : H1 S = some (.lst (us.map V.ref)) := r1.keep _ _ nSd upd_same
    have rA := r0.trans r1
    have kA := rA.kt hd
    have hus1 := sls_kept kA hus
    have good1 : ∀ s ∈ x.slots, VGood 24 s := fun s hs => ⟨(good s hs).1, by have := (good s hs).2; omega⟩
    have vfew : ∀ {os : List (Option Int)}, VersOk m os → os ≠ [] ∧ os.length ≤ 12 := fun v => by
      obtain ⟨a, b, e⟩ := v.head
      exact ⟨by rw [e]; exact List.cons_ne_nil _ _, v.few⟩
    have fin : ∀ (HX : Hp) (vs : List Addr) (xs : List Sl) (o : Int) (tt a : Addr), Dr d H HX → HX tt = none → Paired (SlAt HX) vs xs → xs.length ≤ 60 → (∀ s ∈ xs, VGood 24 s) → upd HX tt (.tup (vs.map V.ref)) a = none → Q (.ref a) (upd (upd HX tt (.tup (vs.map V.ref))) a (.tup [.str x.name, .int o, .ref tt])) := fun HX vs xs o tt a r nt hp few2 gd na => by
      have k1 := same_new (o := .tup (vs.map V.ref)) nt
      have k2 := same_new (o := .tup [.str x.name, .int o, .ref tt]) na
      exact q _ a o xs (r.then (k1.trans k2)) ⟨tt, vs, upd_same, k2 _ _ upd_same, sls_kept (Same.kt (k1.trans k2)) hp⟩ few2 gd
    have setf : ∀ (j : Nat) (HX : Hp) (e pv : Addr) (st : Int) (os : List (Option Int)), Dr d H HX → HX S = some (.lst (us.map V.ref)) → Paired (SlAt HX) us x.slots → HX pv = some (.tup (os.map optV)) → HX e = none → os ≠ [] → os.length ≤ 24 → ∃ (HY : Hp) (vs : List Addr) (xs : List Sl), HY = upd (upd HX e (.tup [.int st, .ref pv])) S (.lst ((us.map V.ref).set j (.ref e))) ∧ Dr d H HY ∧ HY S = some (.lst (vs.map V.ref)) ∧ Paired (SlAt HY) vs xs ∧ xs.length ≤ 60 ∧ (∀ s ∈ xs, VGood 24 s) := by
      intro j HX e pv st os r hS hp hv ne n0 n24
      have k1 := same_new (o := .tup [.int st, .ref pv]) ne
      have hS2 := k1 _ _ hS
      have kk := KT.trans (Same.kt k1) (kt_lst (ys := (us.map V.ref).set j (.ref e)) hS2)
      refine ⟨_, us.set j e, x.slots.set j ⟨st, os⟩, rfl, (r.then k1).keepNew nSd nHS, by rw [upd_same, List.map_set], paired_set (SlAt.kept (kt_lst hS2) ⟨pv, upd_same, k1 _ _ hv⟩) j (sls_kept kk hp), by rw [List.length_set]; omega, fun s hs => ?_⟩
      rcases List.mem_or_eq_of_mem_set hs with z | z
      · exact good1 s z
      · rw [z]
        exact ⟨n0, n24⟩
    have kk : kind = 0 ∨ kind = 1 ∨ kind = 2 ∨ kind = 3 ∨ kind = 4 ∨ kind = 5 ∨ kind = 6 ∨ kind = 7 := by omega
    rcases kk with rfl | rfl | rfl | rfl | rfl | rfl | rfl | rfl
    · refine ⟨.int 0, rfl, rfl, _, rfl, ite2 (fun _ => ?_) (fun e => absurd (decide_eq_true rfl) e)⟩
      have ht1 : SqT K H1 t [.str m.name, .int m.low, .int m.high, .int m.err] := .inl (.inl (rA.tup hd ht))
      refine ⟨.ref d, rfl, .ref t, rfl, t, _, 3, _, rfl, rfl, ht1, atI_nat (j := 3) rfl, _, _, rfl, rfl, .inl ⟨by decide, by decide⟩, _, _, rfl, rfl, d, _, rfl, r1.at_, by omega, fun H2 u r2 u0 u1 => ?_⟩
      refine ⟨.ref t, rfl, t, _, 3, _, rfl, rfl, .inl (.inl ((rA.trans r2).tup hd ht)), atI_nat (j := 3) rfl, _, _, rfl, rfl, ?_⟩
      have hS2 := r2.keep _ _ nSd hS1
      have rB := rA.trans r2
      have hus2 := sls_kept (r2.kt r1.at_) hus1
      refine ⟨.int 0, rfl, rfl, _, rfl, ite2 (fun e => absurd e (by decide +kernel)) (fun _ => ?_)⟩
      refine ⟨.ref S, rfl, S, _, rfl, .inl (.inl (.inl hS2)), rfl, _, rfl, ite2 (fun _ => ?c1) (fun _ => ⟨.int 0, rfl, _, _, rfl, rfl, _, rfl, ite2 (fun _ => ?c2) (fun e => absurd (by decide +kernel) e)⟩)⟩
      all_goals exact ⟨.ref g, rfl, g, _, 0, _, rfl, rfl, .inl (.inl ((rB.kt hd) _ _ hga)), atI_nat (j := 0) rfl, .int (u - m.err), rfl, .ref S, rfl, S, _, rfl, .inl ⟨.inl (.inl hS2), fun tt ntt => ⟨small' (n := 3) (by decide), fun a na => fin _ _ _ _ tt a rB ntt hus2 (by omega) good1 na⟩⟩⟩
    · refine ⟨.int 1, rfl, rfl, _, rfl, ite2 (fun e => absurd e (by decide +kernel)) (fun _ => ?_)⟩
      refine ⟨.int 1, rfl, rfl, _, rfl, ite2 (fun _ => ?_) (fun e => absurd (decide_eq_true rfl) e)⟩
      refine ⟨small' (n := 3) (by decide), fun p1 n1 => ?_⟩
      have n1d : p1 ≠ d := r1.ne n1
      have k1 := same_new (o := .lst [.int 0, .int 1, .int 9]) n1
      have q1 := r1.then k1
      refine ⟨.ref d, rfl, d, _, rfl, q1.at_, by decide, fun H2 u r2 u0 u1 => ?_⟩
      have h2 : H2 p1 = some (.lst [.int 0, .int 1, .int 9]) := r2.keep _ _ n1d upd_same
      obtain ⟨st, stm, sta⟩ := pick (xs := [0, 1, 9]) (vs := [.int 0, .int 1, .int 9]) (k := u) rfl u0 u1
      refine ⟨p1, _, _, _, rfl, rfl, .inl (.inl h2), sta, ?_⟩
      have hS2 : H2 S = some (.lst (us.map V.ref)) := r2.keep _ _ nSd (k1 _ _ hS1)
      have rB := (r0.trans q1).trans r2
      have hus2 := sls_kept (r2.kt q1.at_) (sls_kept (Same.kt k1) hus1)
      have fin1 : ∀ (st : Int) (H3 : Hp) (tw : Addr) (os : List (Option Int)) (e : Addr), Dr d H2 H3 → H3 tw = some (.tup (os.map optV)) → VersOk m os → H3 e = none → ∃ (HY : Hp) (vs : List Addr) (xs : List Sl), HY = upd (upd H3 e (.tup [.int st, .ref tw])) S (.lst (us.map V.ref ++ [.ref e])) ∧ Dr d H HY ∧ HY S = some (.lst (vs.map V.ref)) ∧ Paired (SlAt HY) vs xs ∧ xs.length ≤ 60 ∧ (∀ s ∈ xs, VGood 24 s) := by
        intro st H3 tw os e r3 htw vok ne
        have k3 := same_new (o := .tup [.int st, .ref tw]) ne
        have hS3 := k3 _ _ (r3.keep _ _ nSd hS2)
        have kk := KT.trans (Same.kt k3) (kt_lst (ys := us.map V.ref ++ [.ref e]) hS3)
        refine ⟨_, us ++ [e], x.slots ++ [⟨st, os⟩], rfl, ((rB.trans r3).then k3).keepNew nSd nHS, by rw [upd_same, map_snoc], (sls_kept kk (sls_kept (r3.kt r2.at_) hus2)).snoc (SlAt.kept (kt_lst hS3) ⟨tw, upd_same, k3 _ _ htw⟩), by rw [List.length_append]; show _ + 1 ≤ 60; omega, fun s hs => ?_⟩
        rcases List.mem_append.mp hs with z | z
        · exact good1 s z
        · rw [List.mem_singleton.mp z]
          exact ⟨(vfew vok).1, by have := (vfew vok).2; show os.length ≤ 24; omega⟩
      have lg : (us.map V.ref).length < sizeLine := by
        rw [List.length_map]
        exact small (by omega)
      have ht2 := rB.tup hd ht
      refine ⟨.ref S, rfl, S, _, rfl, .inl (.inl (.inl hS2)), _, _, rfl, rfl, _, rfl, ite2 (fun e => ?d1) (fun _ => ?d2)⟩
      case' d1 =>
        have lpos : 0 < us.length := by
          have c := of_decide_eq_true e
          rw [List.length_map] at c
          omega
        have atl : atI (us.map V.ref) (-1) = some (.ref us[us.length - 1]) := by
          unfold atI ixN
          rw [if_neg (by decide), if_pos (by rw [List.length_map]; omega), List.length_map, show (-1 + (us.length : Int)).toNat = us.length - 1 by omega]
          show (us.map V.ref)[us.length - 1]? = _
          rw [List.getElem?_map, List.getElem?_eq_getElem (by omega)]
          rfl
        obtain ⟨z, hz, tv, hza, hzv⟩ := sls_at hus2 (List.getElem?_eq_getElem (show us.length - 1 < us.length by omega))
        generalize us[us.length - 1] = sa at hza atl
        refine ⟨.ref S, rfl, _, rfl, S, _, _, _, rfl, rfl, .inl (.inl hS2), atl, sa, _, 0, _, rfl, rfl, .inl (.inl hza), atI_nat (j := 0) rfl, .int st, rfl, _, _, rfl, rfl, ?_⟩
        dsimp only
        generalize z.stamp + st = st2
      case' d2 =>
        obtain ⟨st2, rfl⟩ : ∃ st2, st2 = st := ⟨_, rfl⟩
        dsimp only
      all_goals (
        refine ⟨.ref S, rfl, .inl ⟨rfl, _, .inl (.inl hS2)⟩, .int st2, rfl, .ref d, rfl, .ref t, rfl, d, t, m, rfl, r2.at_, ht2, ho, fun H3 tw os r3 htw vok => ⟨small' (n := 2) (by decide), fun e ne => ⟨S, _, _, rfl, rfl, same_new ne _ _ (r3.keep _ _ nSd hS2), lg, ?_⟩⟩⟩
        obtain ⟨HY, vs', xs', eY, rY, hSY, hpY, lY, gY⟩ := fin1 st2 H3 tw os e r3 htw vok ne
        rw [← eY]
        refine ⟨.ref S, rfl, S, _, rfl, .inl (.inl (.inl hSY)), rfl, _, rfl, ite2 (fun _ => ?_) (fun _ => ⟨.int 1, rfl, _, _, rfl, rfl, _, rfl, ite2 (fun _ => ?_) (fun e => absurd (by decide +kernel) e)⟩)⟩
        all_goals exact ⟨.ref g, rfl, g, _, 0, _, rfl, rfl, .inl (.inl ((rY.kt hd) _ _ hga)), atI_nat (j := 0) rfl, .int x.off, rfl, .ref S, rfl, S, _, rfl, .inl ⟨.inl (.inl hSY), fun tt ntt => ⟨small' (n := 3) (by decide), fun a na => fin _ _ _ _ tt a rY ntt hpY lY gY na⟩⟩⟩)
    · refine ⟨.int 2, rfl, rfl, _, rfl, ite2 (fun e => absurd e (by decide +kernel)) (fun _ => ?_)⟩
      refine ⟨.int 2, rfl, rfl, _, rfl, ite2 (fun e => absurd e (by decide +kernel)) (fun _ => ?_)⟩
      refine ⟨.ref S, rfl, S, _, rfl, .inl (.inl (.inl hS1)), rfl, _, rfl, ite2 (fun _ => ?_) (fun e => ⟨.int 2, rfl, _, _, rfl, rfl, _, rfl, ite2 (fun e => absurd e (by decide +kernel)) (fun _ => ?_)⟩)⟩
      · exact ⟨.ref g, rfl, g, _, 0, _, rfl, rfl, .inl (.inl ((rA.kt hd) _ _ hga)), atI_nat (j := 0) rfl, .int x.off, rfl, .ref S, rfl, S, _, rfl, .inl ⟨.inl (.inl hS1), fun tt ntt => ⟨small' (n := 3) (by decide), fun a na => fin _ _ _ _ tt a rA ntt hus1 (by omega) good1 na⟩⟩⟩
      have lpos : 0 < us.length := by
        rcases Nat.eq_zero_or_pos us.length with z | z
        · exact absurd (decide_eq_true (by rw [List.length_map, z]; rfl)) e
        · exact z
      refine ⟨.ref d, rfl, .ref S, rfl, S, _, rfl, .inl (.inl (.inl hS1)), d, _, rfl, r1.at_, by rw [List.length_map]; omega, fun H2 at_ r2 a0 a1 => ?_⟩
      rw [List.length_map] at a1
      have hS2 := r2.keep _ _ nSd hS1
      have rB := rA.trans r2
      have hus2 := sls_kept (r2.kt r1.at_) hus1
      obtain ⟨j, rfl⟩ : ∃ j : Nat, at_ = (j : Int) := ⟨at_.toNat, by omega⟩
      have jl : j < us.length := by omega
      have hj : ixN (us.map V.ref).length (j : Int) = some j := by
        unfold ixN
        rw [if_pos (Int.natCast_nonneg j), if_pos (by rw [List.length_map]; omega)]
        rfl
      have atl : atI (us.map V.ref) (j : Int) = some (.ref us[j]) := atI_z (j := j) rfl (by rw [List.getElem?_map, List.getElem?_eq_getElem jl]; rfl)
      obtain ⟨z, hz, tv, hza, hzv⟩ := sls_at hus2 (List.getElem?_eq_getElem jl)
      have zg := good z (List.mem_of_getElem? hz)
      generalize us[j] = sa at hza atl
      refine ⟨.ref S, rfl, .int (j : Int), rfl, S, _, _, _, rfl, rfl, .inl (.inl hS2), atl, sa, _, 0, _, rfl, rfl, .inl (.inl hza), atI_nat (j := 0) rfl, ?_⟩
      refine ⟨.ref S, rfl, .int (j : Int), rfl, S, _, _, _, rfl, rfl, .inl (.inl hS2), atl, sa, _, 1, _, rfl, rfl, .inl (.inl hza), atI_nat (j := 1) rfl, ?_⟩
      refine ⟨.int 2, rfl, rfl, _, rfl, ite2 (fun _ => ?_) (fun e => absurd (decide_eq_true rfl) e)⟩
      refine ⟨.ref S, rfl, .inl ⟨rfl, _, .inl (.inl hS2)⟩, .int (j : Int), rfl, S, _, _, j, _, rfl, rfl, hS2, by omega, by omega, (ixN_seq hj).1, by rw [List.getElem?_map, List.getElem?_eq_getElem jl]; rfl, ?_⟩
      have hS3 : upd H2 S (.lst ((us.map V.ref).eraseIdx j)) S = some (.lst ((us.eraseIdx j).map V.ref)) := by rw [upd_same, map_erase]
      have rC : Dr d H (upd H2 S (.lst ((us.map V.ref).eraseIdx j))) := rB.keepNew nSd nHS
      have hus3 := paired_erase j (sls_kept (kt_lst (ys := (us.map V.ref).eraseIdx j) hS2) hus2)
      have l3 : (x.slots.eraseIdx j).length ≤ 60 := Nat.le_trans (List.length_eraseIdx_le _ _) (by omega)
      generalize upd H2 S (.lst ((us.map V.ref).eraseIdx j)) = H3 at hS3 rC hus3 ⊢
      refine ⟨.int 2, rfl, rfl, _, rfl, ite2 (fun e => absurd e (by decide +kernel)) (fun _ => ?_)⟩
      refine ⟨.int 2, rfl, rfl, _, rfl, ite2 (fun e => absurd e (by decide +kernel)) (fun _ => ?_)⟩
      refine ⟨.int 2, rfl, rfl, _, rfl, ite2 (fun e => absurd e (by decide +kernel)) (fun _ => ?_)⟩
      refine ⟨.int 2, rfl, rfl, _, rfl, ite2 (fun e => absurd e (by decide +kernel)) (fun _ => ?_)⟩
      exact ⟨.ref g, rfl, g, _, 0, _, rfl, rfl, .inl (.inl ((rC.kt hd) _ _ hga)), atI_nat (j := 0) rfl, .int x.off, rfl, .ref S, rfl, S, _, rfl, .inl ⟨.inl (.inl hS3), fun tt ntt => ⟨small' (n := 3) (by decide), fun a na => fin _ _ _ _ tt a rC ntt hus3 l3 (fun s hs => good1 s (List.mem_of_mem_eraseIdx hs)) na⟩⟩⟩
    · refine ⟨.int 3, rfl, rfl, _, rfl, ite2 (fun e => absurd e (by decide +kernel)) (fun _ => ?_)⟩
      refine ⟨.int 3, rfl, rfl, _, rfl, ite2 (fun e => absurd e (by decide +kernel)) (fun _ => ?_)⟩
      refine ⟨.ref S, rfl, S, _, rfl, .inl (.inl (.inl hS1)), rfl, _, rfl, ite2 (fun _ => ?_) (fun e => ⟨.int 3, rfl, _, _, rfl, rfl, _, rfl, ite2 (fun e => absurd e (by decide +kernel)) (fun _ => ?_)⟩)⟩
      · exact ⟨.ref g, rfl, g, _, 0, _, rfl, rfl, .inl (.inl ((rA.kt hd) _ _ hga)), atI_nat (j := 0) rfl, .int x.off, rfl, .ref S, rfl, S, _, rfl, .inl ⟨.inl (.inl hS1), fun tt ntt => ⟨small' (n := 3) (by decide), fun a na => fin _ _ _ _ tt a rA ntt hus1 (by omega) good1 na⟩⟩⟩
      have lpos : 0 < us.length := by
        rcases Nat.eq_zero_or_pos us.length with z | z
        · exact absurd (decide_eq_true (by rw [List.length_map, z]; rfl)) e
        · exact z
      refine ⟨.ref d, rfl, .ref S, rfl, S, _, rfl, .inl (.inl (.inl hS1)), d, _, rfl, r1.at_, by rw [List.length_map]; omega, fun H2 at_ r2 a0 a1 => ?_⟩
      rw [List.length_map] at a1
      have hS2 := r2.keep _ _ nSd hS1
      have rB := rA.trans r2
      have hus2 := sls_kept (r2.kt r1.at_) hus1
      obtain ⟨j, rfl⟩ : ∃ j : Nat, at_ = (j : Int) := ⟨at_.toNat, by omega⟩
      have jl : j < us.length := by omega
      have hj : ixN (us.map V.ref).length (j : Int) = some j := by
        unfold ixN
        rw [if_pos (Int.natCast_nonneg j), if_pos (by rw [List.length_map]; omega)]
        rfl
      have atl : atI (us.map V.ref) (j : Int) = some (.ref us[j]) := atI_z (j := j) rfl (by rw [List.getElem?_map, List.getElem?_eq_getElem jl]; rfl)
      obtain ⟨z, hz, tv, hza, hzv⟩ := sls_at hus2 (List.getElem?_eq_getElem jl)
      have zg := good z (List.mem_of_getElem? hz)
      generalize us[j] = sa at hza atl
      refine ⟨.ref S, rfl, .int (j : Int), rfl, S, _, _, _, rfl, rfl, .inl (.inl hS2), atl, sa, _, 0, _, rfl, rfl, .inl (.inl hza), atI_nat (j := 0) rfl, ?_⟩
      refine ⟨.ref S, rfl, .int (j : Int), rfl, S, _, _, _, rfl, rfl, .inl (.inl hS2), atl, sa, _, 1, _, rfl, rfl, .inl (.inl hza), atI_nat (j := 1) rfl, ?_⟩
      refine ⟨.int 3, rfl, rfl, _, rfl, ite2 (fun e => absurd e (by decide +kernel)) (fun _ => ?_)⟩
      refine ⟨.int 3, rfl, rfl, _, rfl, ite2 (fun _ => ?_) (fun e => absurd (decide_eq_true rfl) e)⟩
      refine ⟨.int z.stamp, rfl, .ref tv, rfl, .ref d, rfl, .ref t, rfl, d, t, m, rfl, r2.at_, rB.tup hd ht, ho, fun H3 tw os r3 htw vok => ?_⟩
      have hv3 := r3.tup r2.at_ hzv
      have hS3 := r3.keep _ _ nSd hS2
      have vg := vfew vok
      refine ⟨tv, tw, _, _, rfl, rfl, hv3, htw, Nat.le_trans (show _ ≤ 24 by rw [List.length_map, List.length_map]; have := zg.2; omega) (small' (n := 24) (by decide)), fun p2 G2 s2 h2 => ⟨small' (n := 2) (by decide), fun e ne => ⟨.ref S, rfl, .int (j : Int), rfl, S, _, _, j, rfl, rfl, same_new ne _ _ (s2 _ _ hS3), hj, ?_⟩⟩⟩
      have h2' : G2 p2 = some (.tup ((z.vers ++ os).map optV)) := by rw [h2, List.map_append]
      obtain ⟨HY, vs', xs', eY, rY, hSY, hpY, lY, gY⟩ := setf j G2 e p2 z.stamp (z.vers ++ os) ((rB.trans r3).then s2) (s2 _ _ hS3) (sls_kept (KT.trans (r3.kt r2.at_) (Same.kt s2)) hus2) h2' ne (fun c => zg.1 (List.append_eq_nil_iff.mp c).1) (by rw [List.length_append]; have := zg.2; omega)
      rw [← eY]
      refine ⟨.int 3, rfl, rfl, _, rfl, ite2 (fun e => absurd e (by decide +kernel)) (fun _ => ?_)⟩
      refine ⟨.int 3, rfl, rfl, _, rfl, ite2 (fun e => absurd e (by decide +kernel)) (fun _ => ?_)⟩
      refine ⟨.int 3, rfl, rfl, _, rfl, ite2 (fun e => absurd e (by decide +kernel)) (fun _ => ?_)⟩
      exact ⟨.ref g, rfl, g, _, 0, _, rfl, rfl, .inl (.inl ((rY.kt hd) _ _ hga)), atI_nat (j := 0) rfl, .int x.off, rfl, .ref S, rfl, S, _, rfl, .inl ⟨.inl (.inl hSY), fun tt ntt => ⟨small' (n := 3) (by decide), fun a na => fin _ _ _ _ tt a rY ntt hpY lY gY na⟩⟩⟩
    · refine ⟨.int 4, rfl, rfl, _, rfl, ite2 (fun e => absurd e (by decide +kernel)) (fun _ => ?_)⟩
      refine ⟨.int 4, rfl, rfl, _, rfl, ite2 (fun e => absurd e (by decide +kernel)) (fun _ => ?_)⟩
      refine ⟨.ref S, rfl, S, _, rfl, .inl (.inl (.inl hS1)), rfl, _, rfl, ite2 (fun _ => ?_) (fun e => ⟨.int 4, rfl, _, _, rfl, rfl, _, rfl, ite2 (fun e => absurd e (by decide +kernel)) (fun _ => ?_)⟩)⟩
      · exact ⟨.ref g, rfl, g, _, 0, _, rfl, rfl, .inl (.inl ((rA.kt hd) _ _ hga)), atI_nat (j := 0) rfl, .int x.off, rfl, .ref S, rfl, S, _, rfl, .inl ⟨.inl (.inl hS1), fun tt ntt => ⟨small' (n := 3) (by decide), fun a na => fin _ _ _ _ tt a rA ntt hus1 (by omega) good1 na⟩⟩⟩
      have lpos : 0 < us.length := by
        rcases Nat.eq_zero_or_pos us.length with z | z
        · exact absurd (decide_eq_true (by rw [List.length_map, z]; rfl)) e
        · exact z
      refine ⟨.ref d, rfl, .ref S, rfl, S, _, rfl, .inl (.inl (.inl hS1)), d, _, rfl, r1.at_, by rw [List.length_map]; omega, fun H2 at_ r2 a0 a1 => ?_⟩
      rw [List.length_map] at a1
      have hS2 := r2.keep _ _ nSd hS1
      have rB := rA.trans r2
      have hus2 := sls_kept (r2.kt r1.at_) hus1
      obtain ⟨j, rfl⟩ : ∃ j : Nat, at_ = (j : Int) := ⟨at_.toNat, by omega⟩
      have jl : j < us.length := by omega
      have hj : ixN (us.map V.ref).length (j : Int) = some j := by
        unfold ixN
        rw [if_pos (Int.natCast_nonneg j), if_pos (by rw [List.length_map]; omega)]
        rfl
      have atl : atI (us.map V.ref) (j : Int) = some (.ref us[j]) := atI_z (j := j) rfl (by rw [List.getElem?_map, List.getElem?_eq_getElem jl]; rfl)
      obtain ⟨z, hz, tv, hza, hzv⟩ := sls_at hus2 (List.getElem?_eq_getElem jl)
      have zg := good z (List.mem_of_getElem? hz)
      generalize us[j] = sa at hza atl
      refine ⟨.ref S, rfl, .int (j : Int), rfl, S, _, _, _, rfl, rfl, .inl (.inl hS2), atl, sa, _, 0, _, rfl, rfl, .inl (.inl hza), atI_nat (j := 0) rfl, ?_⟩
      refine ⟨.ref S, rfl, .int (j : Int), rfl, S, _, _, _, rfl, rfl, .inl (.inl hS2), atl, sa, _, 1, _, rfl, rfl, .inl (.inl hza), atI_nat (j := 1) rfl, ?_⟩
      refine ⟨.int 4, rfl, rfl, _, rfl, ite2 (fun e => absurd e (by decide +kernel)) (fun _ => ?_)⟩
      refine ⟨.int 4, rfl, rfl, _, rfl, ite2 (fun e => absurd e (by decide +kernel)) (fun _ => ?_)⟩
      refine ⟨.int 4, rfl, rfl, _, rfl, ite2 (fun _ => ?_) (fun e => absurd (decide_eq_true rfl) e)⟩
      have vpos : 0 < z.vers.length := List.length_pos_iff.mpr zg.1
      refine ⟨.int z.stamp, rfl, .ref tv, rfl, ?_⟩
      refine ⟨.ref tv, rfl, tv, _, rfl, .inr (.inl (.inl hzv)), _, _, rfl, rfl, _, _, rfl, ?_⟩
      rw [List.length_map]
      obtain ⟨n, n1, n2⟩ : ∃ n : Int, n = (if (z.vers.length : Int) - 1 > 1 then (z.vers.length : Int) - 1 else 1) ∧ 1 ≤ n := ⟨_, rfl, by split <;> omega⟩
      rw [← n1]
      refine ⟨_, rfl, tv, _, rfl, hzv, fun p2 G2 s2 h2 => ⟨small' (n := 2) (by decide), fun e ne => ⟨.ref S, rfl, .int (j : Int), rfl, S, _, _, j, rfl, rfl, same_new ne _ _ (s2 _ _ hS2), hj, ?_⟩⟩⟩
      have h2' : G2 p2 = some (.tup ((z.vers.take n.toNat).map optV)) := by rw [h2, cut_toM optV z.vers n (by omega)]
      obtain ⟨HY, vs', xs', eY, rY, hSY, hpY, lY, gY⟩ := setf j G2 e p2 z.stamp (z.vers.take n.toNat) (rB.then s2) (s2 _ _ hS2) (sls_kept (Same.kt s2) hus2) h2' ne (fun c => by rcases List.take_eq_nil_iff.mp c with z | z; omega; exact zg.1 z) (by rw [List.length_take]; have := zg.2; omega)
      rw [← eY]
      refine ⟨.int 4, rfl, rfl, _, rfl, ite2 (fun e => absurd e (by decide +kernel)) (fun _ => ?_)⟩
      refine ⟨.int 4, rfl, rfl, _, rfl, ite2 (fun e => absurd e (by decide +kernel)) (fun _ => ?_)⟩
      exact ⟨.ref g, rfl, g, _, 0, _, rfl, rfl, .inl (.inl ((rY.kt hd) _ _ hga)), atI_nat (j := 0) rfl, .int x.off, rfl, .ref S, rfl, S, _, rfl, .inl ⟨.inl (.inl hSY), fun tt ntt => ⟨small' (n := 3) (by decide), fun a na => fin _ _ _ _ tt a rY ntt hpY lY gY na⟩⟩⟩
    · refine ⟨.int 5, rfl, rfl, _, rfl, ite2 (fun e => absurd e (by decide +kernel)) (fun _ => ?_)⟩
      refine ⟨.int 5, rfl, rfl, _, rfl, ite2 (fun e => absurd e (by decide +kernel)) (fun _ => ?_)⟩
      refine ⟨.ref S, rfl, S, _, rfl, .inl (.inl (.inl hS1)), rfl, _, rfl, ite2 (fun _ => ?_) (fun e => ⟨.int 5, rfl, _, _, rfl, rfl, _, rfl, ite2 (fun e => absurd e (by decide +kernel)) (fun _ => ?_)⟩)⟩
      · exact ⟨.ref g, rfl, g, _, 0, _, rfl, rfl, .inl (.inl ((rA.kt hd) _ _ hga)), atI_nat (j := 0) rfl, .int x.off, rfl, .ref S, rfl, S, _, rfl, .inl ⟨.inl (.inl hS1), fun tt ntt => ⟨small' (n := 3) (by decide), fun a na => fin _ _ _ _ tt a rA ntt hus1 (by omega) good1 na⟩⟩⟩
      have lpos : 0 < us.length := by
        rcases Nat.eq_zero_or_pos us.length with z | z
        · exact absurd (decide_eq_true (by rw [List.length_map, z]; rfl)) e
        · exact z
      refine ⟨.ref d, rfl, .ref S, rfl, S, _, rfl, .inl (.inl (.inl hS1)), d, _, rfl, r1.at_, by rw [List.length_map]; omega, fun H2 at_ r2 a0 a1 => ?_⟩
      rw [List.length_map] at a1
      have hS2 := r2.keep _ _ nSd hS1
      have rB := rA.trans r2
      have hus2 := sls_kept (r2.kt r1.at_) hus1
      obtain ⟨j, rfl⟩ : ∃ j : Nat, at_ = (j : Int) := ⟨at_.toNat, by omega⟩
      have jl : j < us.length := by omega
      have hj : ixN (us.map V.ref).length (j : Int) = some j := by
        unfold ixN
        rw [if_pos (Int.natCast_nonneg j), if_pos (by rw [List.length_map]; omega)]
        rfl
      have atl : atI (us.map V.ref) (j : Int) = some (.ref us[j]) := atI_z (j := j) rfl (by rw [List.getElem?_map, List.getElem?_eq_getElem jl]; rfl)
      obtain ⟨z, hz, tv, hza, hzv⟩ := sls_at hus2 (List.getElem?_eq_getElem jl)
      have zg := good z (List.mem_of_getElem? hz)
      generalize us[j] = sa at hza atl
      refine ⟨.ref S, rfl, .int (j : Int), rfl, S, _, _, _, rfl, rfl, .inl (.inl hS2), atl, sa, _, 0, _, rfl, rfl, .inl (.inl hza), atI_nat (j := 0) rfl, ?_⟩
      refine ⟨.ref S, rfl, .int (j : Int), rfl, S, _, _, _, rfl, rfl, .inl (.inl hS2), atl, sa, _, 1, _, rfl, rfl, .inl (.inl hza), atI_nat (j := 1) rfl, ?_⟩
      refine ⟨.int 5, rfl, rfl, _, rfl, ite2 (fun e => absurd e (by decide +kernel)) (fun _ => ?_)⟩
      refine ⟨.int 5, rfl, rfl, _, rfl, ite2 (fun e => absurd e (by decide +kernel)) (fun _ => ?_)⟩
      refine ⟨.int 5, rfl, rfl, _, rfl, ite2 (fun e => absurd e (by decide +kernel)) (fun _ => ?_)⟩
      refine ⟨.int 5, rfl, rfl, _, rfl, ite2 (fun _ => ?_) (fun e => absurd (decide_eq_true rfl) e)⟩
      have vpos : 0 < z.vers.length := List.length_pos_iff.mpr zg.1
      refine ⟨.ref d, rfl, .ref tv, rfl, tv, _, rfl, .inr (.inl (.inl hzv)), d, _, rfl, r2.at_, by rw [List.length_map]; omega, fun H3 pl r3 p0 p1 => ?_⟩
      rw [List.length_map] at p1
      have hv3 := r3.tup r2.at_ hzv
      have hS3 := r3.keep _ _ nSd hS2
      refine ⟨.int z.stamp, rfl, .ref tv, rfl, .int pl, rfl, pl, rfl, tv, _, rfl, hv3, fun q1 G1 s1 h1 => ?_⟩
      have r3' := r3.then s1
      refine ⟨.ref d, rfl, .ref t, rfl, d, t, m, rfl, r3'.at_, (rB.trans r3').tup hd ht, ho, fun H4 v r4 v0 v1 => ⟨small' (n := 1) (by decide), fun e1 ne1 => ?_⟩⟩
      have k1 := same_new (o := .tup [.int v]) ne1
      have r4' := r4.then k1
      refine ⟨q1, e1, _, _, rfl, rfl, r4'.tup r3'.at_ h1, upd_same, ?_, fun q2 G2 s2 h2 => ?_⟩
      · have c1 := cutV_length (z.vers.map optV) none (some pl)
        rw [List.length_map] at c1
        have := zg.2
        exact Nat.le_trans (show _ + 1 ≤ 24 by omega) (small' (n := 24) (by decide))
      have r5 := r3'.trans (r4'.then s2)
      refine ⟨.ref tv, rfl, .int pl, rfl, _, _, rfl, rfl, _, rfl, tv, _, rfl, r5.tup r2.at_ hzv, fun q3 G3 s3 h3 => ?_⟩
      refine ⟨q2, q3, _, _, rfl, rfl, s3 _ _ h2, h3, ?_, fun q4 G4 s4 h4 => ?_⟩
      · have c1 := cutV_length (z.vers.map optV) none (some pl)
        have c2 := cutV_length (z.vers.map optV) (some (pl + 1)) none
        rw [List.length_map] at c1 c2
        have := zg.2
        rw [List.length_append]
        exact Nat.le_trans (show _ + 1 + _ ≤ 30 by omega) (small' (n := 30) (by decide))
      have r6 := r5.then (s3.trans s4)
      have hS6 := r6.keep _ _ nSd hS2
      refine ⟨small' (n := 2) (by decide), fun e ne => ⟨.ref S, rfl, .int (j : Int), rfl, S, _, _, j, rfl, rfl, same_new ne _ _ hS6, hj, ?_⟩⟩
      have h4' : G4 q4 = some (.tup ((z.vers.take pl.toNat ++ [some v] ++ z.vers.drop (pl + 1).toNat).map optV)) := by rw [h4, cut_toM optV z.vers pl p0, cut_fromM optV z.vers (pl + 1) (by omega), List.map_append, List.map_append]; rfl
      obtain ⟨HY, vs', xs', eY, rY, hSY, hpY, lY, gY⟩ := setf j G4 e q4 z.stamp _ (rB.trans r6) hS6 (sls_kept (r6.kt r2.at_) hus2) h4' ne (fun c => by have := congrArg List.length c; simp at this) (by have := zg.2; simp only [List.length_append, List.length_take, List.length_drop, List.length_singleton]; omega)
      rw [← eY]
      refine ⟨.int 5, rfl, rfl, _, rfl, ite2 (fun e => absurd e (by decide +kernel)) (fun _ => ?_)⟩
      exact ⟨.ref g, rfl, g, _, 0, _, rfl, rfl, .inl (.inl ((rY.kt hd) _ _ hga)), atI_nat (j := 0) rfl, .int x.off, rfl, .ref S, rfl, S, _, rfl, .inl ⟨.inl (.inl hSY), fun tt ntt => ⟨small' (n := 3) (by decide), fun a na => fin _ _ _ _ tt a rY ntt hpY lY gY na⟩⟩⟩
    · refine ⟨.int 6, rfl, rfl, _, rfl, ite2 (fun e => absurd e (by decide +kernel)) (fun _ => ?_)⟩
      refine ⟨.int 6, rfl, rfl, _, rfl, ite2 (fun e => absurd e (by decide +kernel)) (fun _ => ?_)⟩
      refine ⟨.ref S, rfl, S, _, rfl, .inl (.inl (.inl hS1)), rfl, _, rfl, ite2 (fun _ => ?_) (fun e => ⟨.int 6, rfl, _, _, rfl, rfl, _, rfl, ite2 (fun e => absurd e (by decide +kernel)) (fun _ => ?_)⟩)⟩
      · exact ⟨.ref g, rfl, g, _, 0, _, rfl, rfl, .inl (.inl ((rA.kt hd) _ _ hga)), atI_nat (j := 0) rfl, .int x.off, rfl, .ref S, rfl, S, _, rfl, .inl ⟨.inl (.inl hS1), fun tt ntt => ⟨small' (n := 3) (by decide), fun a na => fin _ _ _ _ tt a rA ntt hus1 (by omega) good1 na⟩⟩⟩
      have lpos : 0 < us.length := by
        rcases Nat.eq_zero_or_pos us.length with z | z
        · exact absurd (decide_eq_true (by rw [List.length_map, z]; rfl)) e
        · exact z
      refine ⟨.ref d, rfl, .ref S, rfl, S, _, rfl, .inl (.inl (.inl hS1)), d, _, rfl, r1.at_, by rw [List.length_map]; omega, fun H2 at_ r2 a0 a1 => ?_⟩
      rw [List.length_map] at a1
      have hS2 := r2.keep _ _ nSd hS1
      have rB := rA.trans r2
      have hus2 := sls_kept (r2.kt r1.at_) hus1
      obtain ⟨j, rfl⟩ : ∃ j : Nat, at_ = (j : Int) := ⟨at_.toNat, by omega⟩
      have jl : j < us.length := by omega
      have hj : ixN (us.map V.ref).length (j : Int) = some j := by
        unfold ixN
        rw [if_pos (Int.natCast_nonneg j), if_pos (by rw [List.length_map]; omega)]
        rfl
      have atl : atI (us.map V.ref) (j : Int) = some (.ref us[j]) := atI_z (j := j) rfl (by rw [List.getElem?_map, List.getElem?_eq_getElem jl]; rfl)
      obtain ⟨z, hz, tv, hza, hzv⟩ := sls_at hus2 (List.getElem?_eq_getElem jl)
      have zg := good z (List.mem_of_getElem? hz)
      generalize us[j] = sa at hza atl
      refine ⟨.ref S, rfl, .int (j : Int), rfl, S, _, _, _, rfl, rfl, .inl (.inl hS2), atl, sa, _, 0, _, rfl, rfl, .inl (.inl hza), atI_nat (j := 0) rfl, ?_⟩
      refine ⟨.ref S, rfl, .int (j : Int), rfl, S, _, _, _, rfl, rfl, .inl (.inl hS2), atl, sa, _, 1, _, rfl, rfl, .inl (.inl hza), atI_nat (j := 1) rfl, ?_⟩
      refine ⟨.int 6, rfl, rfl, _, rfl, ite2 (fun e => absurd e (by decide +kernel)) (fun _ => ?_)⟩
      refine ⟨.int 6, rfl, rfl, _, rfl, ite2 (fun e => absurd e (by decide +kernel)) (fun _ => ?_)⟩
      refine ⟨.int 6, rfl, rfl, _, rfl, ite2 (fun e => absurd e (by decide +kernel)) (fun _ => ?_)⟩
      refine ⟨.int 6, rfl, rfl, _, rfl, ite2 (fun e => absurd e (by decide +kernel)) (fun _ => ?_)⟩
      refine ⟨.int 6, rfl, rfl, _, rfl, ite2 (fun _ => ?_) (fun e => absurd (decide_eq_true rfl) e)⟩
      have atz : atI (us.map V.ref) (-1) = some (.ref us[us.length - 1]) := by
        unfold atI ixN
        rw [if_neg (by decide), if_pos (by rw [List.length_map]; omega), List.length_map, show (-1 + (us.length : Int)).toNat = us.length - 1 by omega]
        show (us.map V.ref)[us.length - 1]? = _
        rw [List.getElem?_map, List.getElem?_eq_getElem (by omega)]
        rfl
      have hjz : ixN (us.map V.ref).length (-1) = some (us.length - 1) := by
        unfold ixN
        rw [if_neg (by decide), if_pos (by rw [List.length_map]; omega), List.length_map, show (-1 + (us.length : Int)).toNat = us.length - 1 by omega]
      obtain ⟨y, hy, ty, hya, hyv⟩ := sls_at hus2 (List.getElem?_eq_getElem (show us.length - 1 < us.length by omega))
      have yg := good y (List.mem_of_getElem? hy)
      generalize us[us.length - 1] = sy at hya atz
      refine ⟨.ref S, rfl, _, rfl, S, _, _, _, rfl, rfl, .inl (.inl hS2), atz, sy, _, 0, _, rfl, rfl, .inl (.inl hya), atI_nat (j := 0) rfl, _, _, rfl, rfl, ?_⟩
      refine ⟨.ref S, rfl, _, rfl, S, _, _, _, rfl, rfl, .inl (.inl hS2), atz, sy, _, 1, _, rfl, rfl, .inl (.inl hya), atI_nat (j := 1) rfl, small' (n := 2) (by decide), fun e ne => ?_⟩
      refine ⟨.ref S, rfl, _, rfl, S, _, _, _, rfl, rfl, same_new ne _ _ hS2, hjz, ?_⟩
      obtain ⟨HY, vs', xs', eY, rY, hSY, hpY, lY, gY⟩ := setf (us.length - 1) H2 e ty (y.stamp + 1) y.vers rB hS2 hus2 hyv ne yg.1 (by have := yg.2; omega)
      rw [← eY]
      exact ⟨.ref g, rfl, g, _, 0, _, rfl, rfl, .inl (.inl ((rY.kt hd) _ _ hga)), atI_nat (j := 0) rfl, .int x.off, rfl, .ref S, rfl, S, _, rfl, .inl ⟨.inl (.inl hSY), fun tt ntt => ⟨small' (n := 3) (by decide), fun a na => fin _ _ _ _ tt a rY ntt hpY lY gY na⟩⟩⟩
    · refine ⟨.int 7, rfl, rfl, _, rfl, ite2 (fun e => absurd e (by decide +kernel)) (fun _ => ?_)⟩
      refine ⟨.int 7, rfl, rfl, _, rfl, ite2 (fun e => absurd e (by decide +kernel)) (fun _ => ?_)⟩
      refine ⟨.ref S, rfl, S, _, rfl, .inl (.inl (.inl hS1)), rfl, _, rfl, ite2 (fun _ => ?_) (fun e => ⟨.int 7, rfl, _, _, rfl, rfl, _, rfl, ite2 (fun e => absurd e (by decide +kernel)) (fun _ => ?_)⟩)⟩
      · exact ⟨.ref g, rfl, g, _, 0, _, rfl, rfl, .inl (.inl ((rA.kt hd) _ _ hga)), atI_nat (j := 0) rfl, .int x.off, rfl, .ref S, rfl, S, _, rfl, .inl ⟨.inl (.inl hS1), fun tt ntt => ⟨small' (n := 3) (by decide), fun a na => fin _ _ _ _ tt a rA ntt hus1 (by omega) good1 na⟩⟩⟩
      have lpos : 0 < us.length := by
        rcases Nat.eq_zero_or_pos us.length with z | z
        · exact absurd (decide_eq_true (by rw [List.length_map, z]; rfl)) e
        · exact z
      refine ⟨.ref d, rfl, .ref S, rfl, S, _, rfl, .inl (.inl (.inl hS1)), d, _, rfl, r1.at_, by rw [List.length_map]; omega, fun H2 at_ r2 a0 a1 => ?_⟩
      rw [List.length_map] at a1
      have hS2 := r2.keep _ _ nSd hS1
      have rB := rA.trans r2
      have hus2 := sls_kept (r2.kt r1.at_) hus1
      obtain ⟨j, rfl⟩ : ∃ j : Nat, at_ = (j : Int) := ⟨at_.toNat, by omega⟩
      have jl : j < us.length := by omega
      have hj : ixN (us.map V.ref).length (j : Int) = some j := by
        unfold ixN
        rw [if_pos (Int.natCast_nonneg j), if_pos (by rw [List.length_map]; omega)]
        rfl
      have atl : atI (us.map V.ref) (j : Int) = some (.ref us[j]) := atI_z (j := j) rfl (by rw [List.getElem?_map, List.getElem?_eq_getElem jl]; rfl)
      obtain ⟨z, hz, tv, hza, hzv⟩ := sls_at hus2 (List.getElem?_eq_getElem jl)
      have zg := good z (List.mem_of_getElem? hz)
      generalize us[j] = sa at hza atl
      refine ⟨.ref S, rfl, .int (j : Int), rfl, S, _, _, _, rfl, rfl, .inl (.inl hS2), atl, sa, _, 0, _, rfl, rfl, .inl (.inl hza), atI_nat (j := 0) rfl, ?_⟩
      refine ⟨.ref S, rfl, .int (j : Int), rfl, S, _, _, _, rfl, rfl, .inl (.inl hS2), atl, sa, _, 1, _, rfl, rfl, .inl (.inl hza), atI_nat (j := 1) rfl, ?_⟩
      refine ⟨.int 7, rfl, rfl, _, rfl, ite2 (fun e => absurd e (by decide +kernel)) (fun _ => ?_)⟩
      refine ⟨.int 7, rfl, rfl, _, rfl, ite2 (fun e => absurd e (by decide +kernel)) (fun _ => ?_)⟩
      refine ⟨.int 7, rfl, rfl, _, rfl, ite2 (fun e => absurd e (by decide +kernel)) (fun _ => ?_)⟩
      refine ⟨.int 7, rfl, rfl, _, rfl, ite2 (fun e => absurd e (by decide +kernel)) (fun _ => ?_)⟩
      refine ⟨.int 7, rfl, rfl, _, rfl, ite2 (fun e => absurd e (by decide +kernel)) (fun _ => ?_)⟩
      exact ⟨.ref g, rfl, g, _, 0, _, rfl, rfl, .inl (.inl ((rB.kt hd) _ _ hga)), atI_nat (j := 0) rfl, .int x.off, rfl, .ref S, rfl, S, _, rfl, .inl ⟨.inl (.inl hS2), fun tt ntt => ⟨small' (n := 3) (by decide), fun a na => fin _ _ _ _ tt a rB ntt hus2 (by omega) good1 na⟩⟩⟩
end
def sp_l_full (K : PySem.W.Frag) : Sp := fun vs H Q _ => ∃ (d h : Addr) (ls : List Lg), vs = [.ref d, .ref h] ∧ DrA H d ∧ HistAt H h ls ∧ HistFew ls ∧ (∀ g ∈ ls, (g.slots.map Sl.stamp).Pairwise (· ≤ ·)) ∧
  ∀ (H' : Hp) (f S F : Addr) (zs : List Int) (us : List Addr), Dr d H H' → H' f = some (.tup [.ref S, .ref F]) → S ≠ d → F ≠ d → H' S = some (.lst (zs.map V.int)) → H' F = some (.lst (us.map V.ref)) → Paired (LtAt H') us (dueL ls ++ ccL ls zs) → Paired StOk ls zs → Q (.ref f) H'
theorem top_stamp {xs : List Sl} (h : (xs.map Sl.stamp).Pairwise (· ≤ ·)) {ys : List Sl} {l : Sl} (e : xs = ys ++ [l]) : ∀ s ∈ xs, s.stamp ≤ l.stamp := by
  subst e
  intro s hs
  rcases List.mem_append.mp hs with m | m
  · rw [List.map_append] at h
    exact (List.pairwise_append.mp h).2.2 _ (List.mem_map_of_mem m) _ (List.mem_singleton.mpr rfl)
  · rw [List.mem_singleton.mp m]
    exact Int.le_refl _
section
variable {P : Program} {w : World} {K : PySem.W.Frag} {mg : Str → Option Value} {base : Heap}
set_option pp.maxSteps 300 in
set_option maxHeartbeats 2000000 in
theorem ok_l_full (T : Ctx K mg) : FnOk P w K mg base CX0 2 T.f_l_full T.fd_l_full ["draws", "history"] (sp_l_full K) := by
  refine T.F_l_full.ok sc_l_full (fun vs H Q E h => ?_) (fun cdv A outer s H vs Q E hr h => ?_)
  · obtain ⟨d, h', ls, rfl, _⟩ := h
    rfl
  · obtain ⟨d, h0, ls, rfl, hd, hhis, few, up, q⟩ := h
    obtain ⟨gs, hh, hgs⟩ := id hhis
    refine ⟨_, (pss_cons (ps_set (i := 2) sc_l_full.nd rfl (.inl rfl) (pe_lst pa_nil))
      (pss_cons (ps_set (i := 3) sc_l_full.nd rfl (.inl rfl) (pe_callTy call_list_of (by rfl) T.m_list (by decide +kernel) (pa_cons (pe_call (ok_reads_of T) (hr.mono (by decide)) (by rfl) T.g_reads_of T.F_reads_of.kp T.b_reads_of .nil pass0 (pa_cons (pv 1) pa_nil)) pa_nil)))
      (pss_cons (ps_for PassesOwn.never rfl (pi_tup (pv 1)) (pg_name (i := 4) sc_l_full.nd rfl (.inl rfl))
        (pss_cons (ps_set (i := 5) sc_l_full.nd rfl (.inl rfl) (pe_op op_sub (pe_call (ok_l_take T) (hr.mono (by decide)) (by rfl) T.g_l_take T.F_l_take.kp T.b_l_take .nil pass0 (pa_cons (pv 0) (pa_cons pe_int pa_nil))) pe_int))
      (pss_cons (ps_if (pt_cmpR op_gt (pe_callB call_len_seq (by rfl) T.m_len (by decide +kernel) (pa_cons (pe_ix ix_tup (pv 4) pe_int (fun _ _ => rfl)) pa_nil)) pe_int (nomark _))
        (pss_one (ps_set (i := 5) sc_l_full.nd rfl (.inl rfl) (pe_op op_add (pe_op op_add (pe_ix ix_tup (pe_ix ix_tup (pe_ix ix_tup (pv 4) pe_int (fun _ _ => rfl)) (pe_un un_neg pe_int) (fun _ _ => rfl)) pe_int (fun _ _ => rfl)) pe_int) (pe_call (ok_l_take T) (hr.mono (by decide)) (by rfl) T.g_l_take T.F_l_take.kp T.b_l_take .nil pass0 (pa_cons (pv 0) (pa_cons pe_int pa_nil))))))
        pss_nil)
      (pss_cons (ps_expr (pe_bm PySem.F.plainAttrs_list PySem.F.slot_list_append PySem.F.type_list_append mt_append (pv 2) (pa_cons (pv 5) pa_nil)))
      (pss_cons (ps_expr (pe_bm PySem.F.plainAttrs_list PySem.F.slot_list_append PySem.F.type_list_append mt_append (pv 3) (pa_cons (pe_tup (pa_cons pe_str (pa_cons (pe_ix ix_tup (pv 4) pe_int (fun _ _ => rfl)) (pa_cons (pe_callB call_len_seq (by rfl) T.m_len (by decide +kernel) (pa_cons (pe_ix ix_tup (pv 4) pe_int (fun _ _ => rfl)) pa_nil)) (pa_cons (pv 5) (pa_cons (pe_callB (cr_sum rfl) (by rfl) T.m_sum (by decide +kernel) (pa_cons (pe_lc (own := [("slot", 6)]) (g := gName 6) (by rfl) sc_l_full.nd (pi_tup (pe_ix ix_tup (pv 4) pe_int (fun _ _ => rfl))) (blkOk_by (own := [("slot", 6)]) (N := ["draws", "history", "stamps", "letters", "log", "stamp", "slot"]) (sc := defScope s_l_full) (by decide +kernel)) (fun _ _ _ _ _ => pg_name (i := 6) sc_l_full.nd rfl (Or.inl rfl)) (fun _ _ _ _ _ => pts_nil) (fun _ _ _ _ _ => (pe_callB (show CallR _ _ (rLenK K) from call_len_seq) (by rfl) T.m_len (by decide +kernel) (pa_cons (pe_ix (show IxR _ (rIxT K) from ix_tup) (pv 6) pe_int (fun _ _ => rfl)) pa_nil)))) pa_nil)) pa_nil)))))) pa_nil)))
      (pss_one (ps_expr (pe_bm PySem.F.plainAttrs_list PySem.F.slot_list_append PySem.F.type_list_append mt_append (pv 3) (pa_cons (pe_tup (pa_cons pe_str (pa_cons (pe_ix ix_tup (pv 4) pe_int (fun _ _ => rfl)) (pa_cons (pe_ix ix_tup (pv 4) pe_int (fun _ _ => rfl)) (pa_cons (pe_ix ix_tup (pv 4) pe_int (fun _ _ => rfl)) pa_nil))))) pa_nil)))))))))
      (pss_one (ps_ret (pe_tup (pa_cons (pv 2) (pa_cons (pv 3) pa_nil)))))))), ?_⟩
    have big : (100000 : Nat) < sizeLine := by rw [sizeLine_eq]; decide
    have gl : gs.length = ls.length := hgs.length
    have f1 := few.logs
    refine ⟨small' (n := 0) (by decide), fun S nS => ?_⟩
    have kS := same_new (o := .lst []) nS
    refine ⟨.ref h0, rfl, h0, ls, rfl, hhis.kept (Same.kt kS), few, fun H1 b vs s1 hb hvs => ⟨b, _, rfl, .inr (.inl (.inl hb)), fun F nF => ?_⟩⟩
    have kF := same_new (o := .lst (vs.map V.ref)) nF
    have s01 := (kS.trans s1).trans kF
    have hS1 : upd H1 F (.lst (vs.map V.ref)) S = some (.lst []) := kF _ _ (s1 _ _ upd_same)
    have nSF : S ≠ F := fun z => by
      have := s1 _ _ (upd_same (H := H) (a := S) (o := .lst []))
      rw [z, nF] at this
      cases this
    have nSd : S ≠ d := (Dr.refl hd).ne nS
    have rF := (Dr.refl hd).then s01
    have nFd : F ≠ d := ((Dr.refl hd).then (kS.trans s1)).ne nF
    have nFH : H F = none := Same.free (kS.trans s1) nF
    have hF1 : upd H1 F (.lst (vs.map V.ref)) F = some (.lst (vs.map V.ref)) := upd_same
    have hvs1 : Paired (LtAt (upd H1 F (.lst (vs.map V.ref)))) vs (dueL ls) := same_lts kF hvs
    have vl : vs.length ≤ 28800 := by
      have a := hvs.length
      have b := due_len few.slots few.vers
      omega
    generalize upd H1 F (.lst (vs.map V.ref)) = H2 at s01 hS1 rF hF1 hvs1 ⊢
    refine ⟨.ref h0, rfl, h0, rfl, ⟨_, .inl (.inl (s01 _ _ hh))⟩, for_tup (K := K) (a := h0) (xs := gs.map V.ref) (fun i σ H' => ∃ (y4 y5 y6 : Option V) (zs : List Int) (us : List Addr), σ = [some (.ref d), some (.ref h0), some (.ref S), some (.ref F), y4, y5, y6] ∧ Dr d H H' ∧ H' S = some (.lst (zs.map V.int)) ∧ H' F = some (.lst (us.map V.ref)) ∧ Paired (LtAt H') us (dueL ls ++ ccL (ls.take i) zs) ∧ zs.length = i ∧ us.length ≤ 28800 + 2 * i ∧ Paired StOk (ls.take i) zs)
      ⟨none, none, none, [], vs, rfl, rF, hS1, hF1, by rw [show ccL (ls.take 0) [] = [] by rw [List.take_zero]; rfl, List.append_nil]; exact hvs1, rfl, vl, by rw [List.take_zero]; exact .nil⟩ (fun i σ H' _ hp => ?_) (fun i x σ H3 hx hp => ?_) (fun σ H3 hp => ?_)⟩
    · obtain ⟨_, _, _, _, _, _, r, _⟩ := hp
      exact .inl (.inl (r.tup hd hh))
    · obtain ⟨y4, y5, y6, zs, us, rfl, r3, hS3, hF3, hus, zl, ul, st⟩ := hp
      rw [List.getElem?_map] at hx
      obtain ⟨ga, hga, rfl⟩ := Option.map_eq_some_iff.mp hx
      have il := (List.getElem?_eq_some_iff.mp hga).1
      obtain ⟨g, hg, tt, ss, hat, htt, hss⟩ := lgs_at hgs hga
      have gm := List.mem_of_getElem? hg
      have sl := few.slots g gm
      have ssl := hss.length
      have gup := up g gm
      refine ⟨.ref d, rfl, d, _, rfl, r3.at_, by decide, fun H4 x r4 x0 x1 => ⟨_, _, rfl, rfl, ?_⟩⟩
      have r34 := r3.trans r4
      have hat4 := r34.tup hd hat
      have htt4 := r34.tup hd htt
      have hG4 : SqT K H4 ga [.str g.name, .int g.off, .ref tt] := .inl (.inl hat4)
      have hS4 := r4.keep _ _ nSd hS3
      have hF4 := r4.keep _ _ nFd hF3
      have hus4 := lts_kept (r4.kt r3.at_) hus
      refine ⟨.ref ga, rfl, ga, _, 2, _, rfl, rfl, hG4, atI_nat (j := 2) rfl, tt, _, rfl, .inr (.inl (.inl htt4)), _, _, rfl, rfl, _, rfl, ite2 (fun e => ?c1) (fun e => ?c2)⟩
      case' c1 =>
        have c0 : (0 : Int) < ((ss.map V.ref).length : Nat) := of_decide_eq_true e
        rw [List.length_map] at c0
        have hne : g.slots ≠ [] := fun z => by rw [z] at ssl; rw [ssl] at c0; exact absurd c0 (by decide)
        have jl : ss.length - 1 < ss.length := by omega
        have el : g.slots = g.slots.dropLast ++ [g.slots.getLast hne] := (List.dropLast_concat_getLast hne).symm
        obtain ⟨sz, hsz, tv, hsa, _⟩ := sls_at hss (List.getElem?_eq_getElem jl)
        have esz : sz = g.slots.getLast hne := by
          rw [ssl, at_last hne] at hsz
          exact (Option.some.inj hsz).symm
        have hsne : ss ≠ [] := fun z => by rw [z] at jl; exact absurd jl (by decide)
        have ela : ss.map V.ref = (ss.dropLast).map V.ref ++ [.ref (ss.getLast hsne)] := by
          conv => lhs; rw [← List.dropLast_concat_getLast hsne, List.map_append]
          rfl
        have esl : ss[ss.length - 1] = ss.getLast hsne := by rw [List.getLast_eq_getElem]
        have ax : atI (ss.map V.ref) (-1) = some (.ref (ss.getLast hsne)) := by rw [ela]; exact atI_last _ _
        rw [esl] at hsa
        generalize ss.getLast hsne = sa at ax hsa
        have hsa4 := r34.tup hd hsa
        refine ⟨.ref ga, rfl, ga, _, 2, _, rfl, rfl, hG4, atI_nat (j := 2) rfl, _, rfl, tt, _, -1, _, rfl, rfl, .inl (.inl htt4), ax, sa, _, 0, _, rfl, rfl, .inl (.inl hsa4), atI_nat (j := 0) rfl, _, _, rfl, rfl, .ref d, rfl, d, _, rfl, r4.at_, by decide, fun HX y rX y0 y1 => ⟨_, _, rfl, rfl, ?_⟩⟩
        have zok : StOk g (sz.stamp + 1 + y) := fun s hs => by
          have := top_stamp gup el s hs
          rw [← esz] at this
          omega
        dsimp only
        generalize sz.stamp + 1 + y = z at zok
        have rHX := r34.trans rX
        have hSX := rX.keep _ _ nSd hS4
        have hFX := rX.keep _ _ nFd hF4
        have husX := lts_kept (rX.kt r4.at_) hus4
      case' c2 =>
        have c0 : ¬ (0 : Int) < ((ss.map V.ref).length : Nat) := fun z => e (decide_eq_true z)
        rw [List.length_map] at c0
        have hnil : g.slots = [] := List.length_eq_zero_iff.mp (by omega)
        have zok : StOk g (x - 2) := fun s hs => by rw [hnil] at hs; cases hs
        obtain ⟨HX, eH⟩ : ∃ HX, HX = H4 := ⟨_, rfl⟩
        dsimp only
        generalize x - 2 = z at zok
        have rHX : Dr d H HX := by rw [eH]; exact r34
        have hSX : HX S = some (.lst (zs.map V.int)) := by rw [eH]; exact hS4
        have hFX : HX F = some (.lst (us.map V.ref)) := by rw [eH]; exact hF4
        have husX : Paired (LtAt HX) us (dueL ls ++ ccL (ls.take i) zs) := by rw [eH]; exact hus4
        rw [← eH]
      all_goals (
        -- stamps
        have nSH : H S = none := nS
        refine ⟨.ref S, rfl, .inl ⟨rfl, _, .inl (.inl hSX)⟩, .int z, rfl, S, _, _, rfl, rfl, hSX, by rw [List.length_map]; exact small (n := zs.length) (by omega), ?_⟩
        have hSY : upd HX S (.lst (zs.map V.int ++ [.int z])) S = some (.lst ((zs ++ [z]).map V.int)) := by rw [upd_same, List.map_append]; rfl
        have rY : Dr d H (upd HX S (.lst (zs.map V.int ++ [.int z]))) := rHX.keepNew nSd nSH
        have hFY : upd HX S (.lst (zs.map V.int ++ [.int z])) F = some (.lst (us.map V.ref)) := by rw [upd_ne nSF.symm]; exact hFX
        have husY := lts_kept (kt_lst (ys := zs.map V.int ++ [.int z]) hSX) husX
        generalize upd HX S (.lst (zs.map V.int ++ [.int z])) = HY at hSY rY hFY husY ⊢
        have hatY := rY.tup hd hat
        have httY := rY.tup hd htt
        have hGY : SqT K HY ga [.str g.name, .int g.off, .ref tt] := .inl (.inl hatY)
        have hssY := sls_kept (rY.kt hd) hss
        -- close
        refine ⟨.ref F, rfl, .inl ⟨rfl, _, .inl (.inl hFY)⟩, .ref ga, rfl, ga, _, 0, _, rfl, rfl, hGY, atI_nat (j := 0) rfl, .ref ga, rfl, ga, _, 2, _, rfl, rfl, hGY, atI_nat (j := 2) rfl, tt, _, rfl, .inr (.inl (.inl httY)), .int z, rfl, ?_⟩
        refine ⟨.ref ga, rfl, ga, _, 2, _, rfl, rfl, hGY, atI_nat (j := 2) rfl, tt, rfl, ⟨_, .inl (.inl httY)⟩, fun C nC => lc_tup (K := K) (a := tt) (xs := ss.map V.ref) (fun j H' => Same HY H' ∧ H' C = some (.lst (((g.slots.take j).map fun s => (s.vers.length : Int)).map V.int))) ⟨same_new nC, by rw [upd_same, List.take_zero]; rfl⟩ (fun j H' _ z => .inl (.inl (z.1 _ _ httY))) (fun j x H' hx z => ?_) (fun HZ z => ?_)⟩
        · obtain ⟨sC, hC⟩ := z
          rw [List.getElem?_map] at hx
          obtain ⟨sa, hsa0, rfl⟩ := Option.map_eq_some_iff.mp hx
          have hj := (List.getElem?_eq_some_iff.mp hsa0).1
          obtain ⟨s, hs, tv, hsa, htv⟩ := sls_at hssY hsa0
          refine ⟨rfl, .ref sa, rfl, sa, _, 1, _, rfl, rfl, .inl (.inl (sC _ _ hsa)), atI_nat (j := 1) rfl, tv, _, rfl, .inr (.inl (.inl (sC _ _ htv))), _, hC, by rw [List.length_map, List.length_map, List.length_take]; omega, same_keep sC nC, ?_⟩
          rw [upd_same, vsum_snoc hs, List.map_append (l₂ := [(s.vers.length : Int)]), List.length_map]
          rfl
        obtain ⟨sC, hC⟩ := z
        rw [List.length_map, ssl, List.take_length] at hC
        refine ⟨C, _, rfl, .inl (.inl hC), small' (n := 5) (by decide), fun p np => ?_⟩
        rw [List.length_map]
        have ev : [V.str "close", .str g.name, .int ((ss.length : Nat) : Int), .int z, .int (g.slots.map fun s => (s.vers.length : Int)).sum] = (Lt.close g.name (g.slots.length : Nat) z (vsum g.slots)).vals := by
          rw [ssl]
          rfl
        rw [ev]
        have kp := same_new (o := .tup (Lt.close g.name (g.slots.length : Nat) z (vsum g.slots)).vals) np
        have sCp := sC.trans kp
        have hFp := sCp _ _ hFY
        refine ⟨F, _, _, rfl, rfl, hFp, by rw [List.length_map]; omega, ?_⟩
        have kk := KT.trans (Same.kt sCp) (kt_lst (ys := us.map V.ref ++ [.ref p]) hFp)
        have hF5 : upd (upd HZ p (.tup (Lt.close g.name (g.slots.length : Nat) z (vsum g.slots)).vals)) F (.lst (us.map V.ref ++ [.ref p])) F = some (.lst ((us ++ [p]).map V.ref)) := by rw [upd_same, map_snoc]
        have hS5 : upd (upd HZ p (.tup (Lt.close g.name (g.slots.length : Nat) z (vsum g.slots)).vals)) F (.lst (us.map V.ref ++ [.ref p])) S = some (.lst ((zs ++ [z]).map V.int)) := by rw [upd_ne nSF]; exact sCp _ _ hSY
        have r5 : Dr d H (upd (upd HZ p (.tup (Lt.close g.name (g.slots.length : Nat) z (vsum g.slots)).vals)) F (.lst (us.map V.ref ++ [.ref p]))) := (rY.then sCp).keepNew nFd nFH
        have hus5 := (lts_kept kk husY).snoc (b := Lt.close g.name (g.slots.length : Nat) z (vsum g.slots)) (kt_lst (ys := us.map V.ref ++ [V.ref p]) hFp p (Lt.close g.name (g.slots.length : Nat) z (vsum g.slots)).vals upd_same)
        generalize upd (upd HZ p (.tup (Lt.close g.name (g.slots.length : Nat) z (vsum g.slots)).vals)) F (.lst (us.map V.ref ++ [.ref p])) = H5 at hF5 hS5 r5 hus5 ⊢
        have hat5 := r5.tup hd hat
        have hG5 : SqT K H5 ga [.str g.name, .int g.off, .ref tt] := .inl (.inl hat5)
        -- clock
        refine ⟨.ref F, rfl, .inl ⟨rfl, _, .inl (.inl hF5)⟩, .ref ga, rfl, ga, _, 0, _, rfl, rfl, hG5, atI_nat (j := 0) rfl, .ref ga, rfl, ga, _, 1, _, rfl, rfl, hG5, atI_nat (j := 1) rfl, .ref ga, rfl, ga, _, 1, _, rfl, rfl, hG5, atI_nat (j := 1) rfl, small' (n := 4) (by decide), fun p2 np2 => ?_⟩
        have kp2 := same_new (o := .tup (Lt.clock g.name g.off g.off).vals) np2
        have hF6 := kp2 _ _ hF5
        refine ⟨F, _, _, rfl, rfl, hF6, by rw [List.length_map, List.length_append]; show us.length + 1 < _; omega, ?_⟩
        have kk2 := KT.trans (Same.kt kp2) (kt_lst (ys := (us ++ [p]).map V.ref ++ [.ref p2]) hF6)
        refine ⟨_, _, _, zs ++ [z], us ++ [p] ++ [p2], rfl, (r5.then kp2).keepNew nFd nFH, ?_, by rw [upd_same, map_snoc], ?_, by rw [List.length_append, zl]; rfl, by rw [List.length_append, List.length_append]; show us.length + 1 + 1 ≤ _; omega, paired_snoc_at st hg zok⟩
        · rw [upd_ne nSF]
          exact kp2 _ _ hS5
        · rw [ccL_snoc hg zl, ← List.append_assoc]
          have := (lts_kept kk2 hus5).snoc (b := Lt.clock g.name g.off g.off) (kt_lst (ys := (us ++ [p]).map V.ref ++ [V.ref p2]) hF6 p2 (Lt.clock g.name g.off g.off).vals upd_same)
          rw [List.append_assoc (_ ++ _)] at this
          exact this)
    · obtain ⟨y4, y5, y6, zs, us, rfl, r3, hS3, hF3, hus, zl, ul, st⟩ := hp
      rw [List.length_map, gl, List.take_length] at hus st
      refine ⟨.ref S, rfl, .ref F, rfl, small' (n := 2) (by decide), fun f nf => ?_⟩
      have kf := same_new (o := .tup [.ref S, .ref F]) nf
      exact q _ f S F zs us (r3.then kf) upd_same nSd nFd (kf _ _ hS3) (kf _ _ hF3) (same_lts kf hus) st
end
def sp_l_same_logs (K : PySem.W.Frag) : Sp := fun vs H Q _ => ∃ (h t S : Addr) (ls lo : List Lg) (zs : List Int), vs = [.ref h, .ref t, .ref S] ∧ HistAt H h ls ∧ HistAt H t lo ∧ HistFew ls ∧ HistFew lo ∧ ls.length = lo.length ∧ ls.length = zs.length ∧ H S = some (.lst (zs.map V.int)) ∧ ∀ H' b, Same H H' → (b = true ↔ SameL ls lo zs) → Q (.bl b) H'
section
variable {P : Program} {w : World} {K : PySem.W.Frag} {mg : Str → Option Value} {base : Heap}
set_option pp.maxSteps 400 in
set_option maxHeartbeats 1000000 in
theorem ok_l_same_logs (T : Ctx K mg) : FnOk P w K mg base CX0 1 T.f_l_same_logs T.fd_l_same_logs ["history", "other", "stamps"] (sp_l_same_logs K) := by
  refine T.F_l_same_logs.ok sc_l_same_logs (fun vs H Q E h => ?_) (fun cdv A outer s H vs Q E hr h => ?_)
  · obtain ⟨h', t, S, ls, lo, zs, rfl, _⟩ := h
    rfl
  · obtain ⟨h0, t, S, ls, lo, zs, rfl, ⟨gs, hh, hgs⟩, ⟨os, ht, hos⟩, few, few2, ll, lz, hS, q⟩ := h
    refine ⟨_, (pss_cons (ps_for PassesOwn.never rfl (pi_range1 (by rfl) T.m_range (pa_cons (pe_callB call_len_seq (by rfl) T.m_len (by decide +kernel) (pa_cons (pv 0) pa_nil)) pa_nil)) (pg_name (i := 3) sc_l_same_logs.nd rfl (.inl rfl))
        (pss_cons (ps_set (i := 4) sc_l_same_logs.nd rfl (.inl rfl) (pe_ix ix_tup (pe_ix ix_tup (pv 0) (pv 3) (fun _ _ => rfl)) pe_int (fun _ _ => rfl)))
      (pss_cons (ps_if (PW.pt (pw_or (pt_cmpR op_ne (pe_ix ix_tup (pe_ix ix_tup (pv 1) (pv 3) (fun _ _ => rfl)) pe_int (fun _ _ => rfl)) (pe_ix ix_tup (pe_ix ix_tup (pv 0) (pv 3) (fun _ _ => rfl)) pe_int (fun _ _ => rfl)) (nomark _)) (pw_or1 (pt_cmpR (op_neD hr.units) (pe_slice TT.sl_t (pe_ix ix_tup (pe_ix ix_tup (pv 1) (pv 3) (fun _ _ => rfl)) pe_int (fun _ _ => rfl)) po_none (po_some (pe_callB call_len_seq (by rfl) T.m_len (by decide +kernel) (pa_cons (pv 4) pa_nil)))) (pv 4) (nomark _)))))
        (pss_one (ps_ret pe_bl))
        pss_nil)
      (pss_one (ps_for PassesOwn.never rfl (pi_tup (pe_slice TT.sl_t (pe_ix ix_tup (pe_ix ix_tup (pv 1) (pv 3) (fun _ _ => rfl)) pe_int (fun _ _ => rfl)) (po_some (pe_callB call_len_seq (by rfl) T.m_len (by decide +kernel) (pa_cons (pv 4) pa_nil))) po_none)) (pg_name (i := 5) sc_l_same_logs.nd rfl (.inl rfl))
        (pss_one (ps_if (pt_cmpR op_lt (pe_ix ix_tup (pv 5) pe_int (fun _ _ => rfl)) (pe_ix ix_list (pv 2) (pv 3) (fun _ _ => rfl)) (nomark _))
        (pss_one (ps_ret pe_bl))
        pss_nil)))))))
      (pss_one (ps_ret pe_bl))), ?_⟩
    have gl : gs.length = ls.length := hgs.length
    have ol : os.length = lo.length := hos.length
    have f1 := few.logs
    refine ⟨.ref h0, rfl, h0, _, rfl, .inr (.inl (.inl hh)), ((gs.map V.ref).length : Int), rfl, by omega, by rw [List.length_map]; omega, for_range (lo := 0) (n := (gs.map V.ref).length) (fun i σ H' => ∃ (y3 y4 y5 : Option V), σ = [some (.ref h0), some (.ref t), some (.ref S), y3, y4, y5] ∧ Same H H' ∧ ∀ (k : Nat) (g o : Lg) (z : Int), k < i → ls[k]? = some g → lo[k]? = some o → zs[k]? = some z → SameLg g o z) ⟨none, none, none, rfl, Same.refl _, fun _ _ _ _ z => absurd z (Nat.not_lt_zero _)⟩ (fun i σ H' hi z => ?_) (fun σ H' z => ?_)⟩
    · obtain ⟨y3, y4, y5, rfl, s1, bg⟩ := z
      rw [List.length_map] at hi
      have hio : i < os.length := by omega
      have hiz : i < zs.length := by omega
      have ati : atI (gs.map V.ref) (0 + (i : Int)) = some (.ref gs[i]) := atI_z (j := i) (by omega) (by rw [List.getElem?_map, List.getElem?_eq_getElem hi]; rfl)
      have ato : atI (os.map V.ref) (0 + (i : Int)) = some (.ref os[i]) := atI_z (j := i) (by omega) (by rw [List.getElem?_map, List.getElem?_eq_getElem hio]; rfl)
      have atz : atI (zs.map V.int) (0 + (i : Int)) = some (.int zs[i]) := atI_z (j := i) (by omega) (map_at hiz)
      obtain ⟨g, hg, tt, ss, hat, htt, hss⟩ := lgs_at hgs (List.getElem?_eq_getElem hi)
      obtain ⟨o, ho, tu, su, hau, htu, hsu⟩ := lgs_at hos (List.getElem?_eq_getElem hio)
      have hz := List.getElem?_eq_getElem hiz
      generalize gs[i] = ga at hat ati
      generalize os[i] = oa at hau ato
      generalize zs[i] = zi at atz hz
      have sl := few.slots g (List.mem_of_getElem? hg)
      have sl2 := few2.slots o (List.mem_of_getElem? ho)
      have ssl : ss.length = g.slots.length := hss.length
      have sul : su.length = o.slots.length := hsu.length
      have hT : SqT K H' t (os.map V.ref) := .inl (.inl (s1 _ _ ht))
      have hHh : SqT K H' h0 (gs.map V.ref) := .inl (.inl (s1 _ _ hh))
      have hGa : SqT K H' ga [.str g.name, .int g.off, .ref tt] := .inl (.inl (s1 _ _ hat))
      have hOa : SqT K H' oa [.str o.name, .int o.off, .ref tu] := .inl (.inl (s1 _ _ hau))
      have bad : ∀ H2, Same H H2 → ¬ SameLg g o zi → Q (.bl false) H2 := fun H2 s2 n => q _ false s2 ⟨fun z => absurd z Bool.false_ne_true, fun z => absurd (z i g o zi hg ho hz) n⟩
      refine ⟨.ref h0, rfl, .int (0 + (i : Int)), rfl, h0, _, _, _, rfl, rfl, hHh, ati, ga, _, 2, _, rfl, rfl, hGa, atI_nat (j := 2) rfl, ?_⟩
      refine ⟨.ref t, rfl, .int (0 + (i : Int)), rfl, t, _, _, _, rfl, rfl, hT, ato, oa, _, 1, _, rfl, rfl, hOa, atI_nat (j := 1) rfl, .ref h0, rfl, .int (0 + (i : Int)), rfl, h0, _, _, _, rfl, rfl, hHh, ati, ga, _, 1, _, rfl, rfl, hGa, atI_nat (j := 1) rfl, rfl, _, rfl, ite2 (fun e => ?_) (fun e => ?_)⟩
      · refine bad _ s1 fun z => ?_
        rw [decide_eq_true (show V.int o.off = V.int g.off by rw [z.1])] at e
        exact Bool.false_ne_true e
      have eoff : o.off = g.off := by
        cases c : decide (V.int o.off = V.int g.off) with
        | true => exact V.int.inj (of_decide_eq_true c)
        | false => rw [c] at e; exact absurd rfl e
      refine ⟨.ref t, rfl, .int (0 + (i : Int)), rfl, t, _, _, _, rfl, rfl, hT, ato, oa, _, 2, _, rfl, rfl, hOa, atI_nat (j := 2) rfl, .ref tt, rfl, tt, _, rfl, .inr (.inl (.inl (s1 _ _ htt))), _, rfl, tu, _, rfl, s1 _ _ htu, fun pc H2 s2 hpc => ?_⟩
      rw [cut_toM V.ref su _ (by omega), List.length_map, Int.toNat_natCast] at hpc
      have s12 := s1.trans s2
      have hsu2 := sls_kept (Same.kt s12) hsu
      have hss2 := sls_kept (Same.kt s12) hss
      refine ⟨.ref tt, rfl, _, _, .tup (.inl (.inl hpc)) (sls_dp (paired_take _ hsu2)), .tup (.inl (.inl (s12 _ _ htt))) (sls_dp hss2), sls_shaped _, sls_shaped _, _, rfl, ite2 (fun e2 => ?_) (fun e2 => ?_)⟩
      · refine bad _ s12 fun z => ?_
        rw [ssl, (sls_eqv _ _).mpr z.2.1] at e2
        exact Bool.false_ne_true e2
      have etake : o.slots.take g.slots.length = g.slots := by
        cases c : PyData.eqv (.tuple ((o.slots.take ss.length).map slD)) (.tuple (g.slots.map slD)) with
        | true => rw [← ssl]; exact (sls_eqv _ _).mp c
        | false => rw [c] at e2; exact absurd rfl e2
      have hT2 : SqT K H2 t (os.map V.ref) := .inl (.inl (s12 _ _ ht))
      have hOa2 : SqT K H2 oa [.str o.name, .int o.off, .ref tu] := .inl (.inl (s12 _ _ hau))
      refine ⟨.ref t, rfl, .int (0 + (i : Int)), rfl, t, _, _, _, rfl, rfl, hT2, ato, oa, _, 2, _, rfl, rfl, hOa2, atI_nat (j := 2) rfl, .ref tt, rfl, tt, _, rfl, .inr (.inl (.inl (s12 _ _ htt))), _, rfl, tu, _, rfl, s12 _ _ htu, fun pd H3 s3 hpd => ?_⟩
      rw [cut_fromM V.ref su _ (by omega), List.length_map, Int.toNat_natCast] at hpd
      have s13 := s12.trans s3
      have hsd := paired_drp ss.length (sls_kept (Same.kt s13) hsu)
      refine ⟨pd, rfl, ⟨_, .inl (.inl hpd)⟩, for_tup (K := K) (a := pd) (xs := (su.drop ss.length).map V.ref) (fun j σ H' => ∃ (y5 : Option V), σ = [some (.ref h0), some (.ref t), some (.ref S), some (.int (0 + (i : Int))), some (.ref tt), y5] ∧ Same H3 H' ∧ ∀ s ∈ (o.slots.drop ss.length).take j, zi ≤ s.stamp) ⟨_, rfl, Same.refl _, by rw [List.take_zero]; exact fun _ z => nomatch z⟩ (fun j σ H' _ z => ?_) (fun j x σ H4 hx z => ?_) (fun σ H4 z => ?_)⟩
      · obtain ⟨_, _, s, _⟩ := z
        exact .inl (.inl (s _ _ hpd))
      · obtain ⟨y5, rfl, s4, ge⟩ := z
        rw [List.getElem?_map] at hx
        obtain ⟨u, hu, rfl⟩ := Option.map_eq_some_iff.mp hx
        obtain ⟨x, hx, tv, hxa, _⟩ := sls_at hsd hu
        have s14 := s13.trans s4
        refine ⟨.ref u, rfl, u, _, 0, _, rfl, rfl, .inl (.inl (s4 _ _ hxa)), atI_nat (j := 0) rfl, .ref S, rfl, .int (0 + (i : Int)), rfl, S, _, _, _, rfl, rfl, .inl (.inl (s14 _ _ hS)), atz, _, _, rfl, rfl, _, rfl, ite2 (fun e3 => ?_) (fun e3 => ?_)⟩
        · have c : x.stamp < zi := of_decide_eq_true e3
          refine bad _ s14 fun z => ?_
          have := z.2.2 x (by rw [← ssl]; exact List.mem_of_getElem? hx)
          omega
        · have c : ¬ x.stamp < zi := fun z => e3 (decide_eq_true z)
          refine ⟨_, rfl, s4, fun s hs => ?_⟩
          rw [List.take_add_one, hx] at hs
          rcases List.mem_append.mp hs with m | m
          · exact ge s m
          · rw [List.mem_singleton.mp m]
            omega
      · obtain ⟨y5, rfl, s4, ge⟩ := z
        have ld : (su.drop ss.length).length = (o.slots.drop ss.length).length := by rw [List.length_drop, List.length_drop, sul]
        rw [List.length_map, ld, List.take_length, ssl] at ge
        refine ⟨_, _, _, rfl, s13.trans s4, fun k g' o' z' hk h1 h2 h3 => ?_⟩
        by_cases c : k = i
        · subst c
          rw [hg] at h1
          rw [ho] at h2
          rw [hz] at h3
          cases h1
          cases h2
          cases h3
          exact ⟨eoff, etake, ge⟩
        · exact bg k g' o' z' (by omega) h1 h2 h3
    · obtain ⟨y3, y4, y5, rfl, s1, bg⟩ := z
      refine q _ true s1 ⟨fun _ k g o z h1 h2 h3 => bg k g o z ?_ h1 h2 h3, fun _ => rfl⟩
      have := (List.getElem?_eq_some_iff.mp h1).1
      rw [List.length_map]
      omega
end
def SlBeg (s t : Sl) : Prop := t.stamp = s.stamp ∧ t.vers.take s.vers.length = s.vers
def LgBeg (g o : Lg) : Prop := g.slots.length ≤ o.slots.length ∧ ∀ (j : Nat) (s t : Sl), g.slots[j]? = some s → o.slots[j]? = some t → SlBeg s t
def HistBeg (ls lo : List Lg) : Prop := ∀ (k : Nat) (g o : Lg), ls[k]? = some g → lo[k]? = some o → LgBeg g o
theorem paired_get {α β : Type} {R : α → β → Prop} : ∀ {xs : List α} {ys : List β} {i : Nat} {y : β}, Paired R xs ys → ys[i]? = some y → ∃ x, xs[i]? = some x ∧ R x y
  | _, _, _, _, .nil, h => by simp at h
  | _, _, 0, _, .cons a _, h => by
    cases (Option.some.inj h)
    exact ⟨_, rfl, a⟩
  | _, _, i + 1, _, .cons _ r, h => paired_get (i := i) r h
theorem trueOf_one {lo : List Lg} {o : Lg} {l : Lt} (nd : (lo.map Lg.name).Nodup) (ho : o ∈ lo) (e : l.name = o.name) : trueOf lo l = trueIn o l := by
  unfold trueOf
  rw [e, one_log nd ho]
theorem own_true {ls : List Lg} {l : Lt} (nd : (ls.map Lg.name).Nodup) (h : l ∈ dueL ls) : trueOf ls l = true := by
  obtain ⟨g, hg, j, s, i, v, hs, hv, rfl⟩ := due_iff.mp h
  rw [trueOf_one nd hg rfl]
  exact read_iff.mpr ⟨s, hs, rfl, hv⟩
theorem true_own {ls : List Lg} {g : Lg} {j i : Nat} {a : Int} {v : Option Int} (nd : (ls.map Lg.name).Nodup) (hg : g ∈ ls) : trueOf ls (.read g.name ((j : Int) + 1) (i : Int) a v) = true ↔ Lt.read g.name ((j : Int) + 1) (i : Int) a v ∈ dueL ls := by
  rw [trueOf_one nd hg rfl, read_iff]
  constructor
  · rintro ⟨s, hs, rfl, hv⟩
    exact due_iff.mpr ⟨g, hg, j, s, i, v, hs, hv, rfl⟩
  · intro h
    obtain ⟨g2, hg2, j2, s, i2, v2, hs, hv, e⟩ := due_iff.mp h
    obtain ⟨e1, e2, e3, e4, e5⟩ := Lt.read.inj e
    have z1 := one_log nd hg
    have z2 : g2 ∈ ls.filter (fun x => decide (V.str x.name = V.str g.name)) := List.mem_filter.mpr ⟨hg2, decide_eq_true (by rw [e1])⟩
    rw [z1] at z2
    cases List.mem_singleton.mp z2
    have a1 : j2 = j := by omega
    have a2 : i2 = i := by omega
    subst a1 a2
    rw [e5]
    exact ⟨s, hs, e4.symm, hv⟩
theorem beg_iff {ls lo : List Lg} (ll : ls.length = lo.length) (nm : ∀ (k : Nat) (g o : Lg), ls[k]? = some g → lo[k]? = some o → g.name = o.name) (nd : (lo.map Lg.name).Nodup) (ne : ∀ g ∈ ls, ∀ s ∈ g.slots, s.vers ≠ []) : (dueL ls).all (trueOf lo) = true ↔ HistBeg ls lo := by
  rw [List.all_eq_true]
  constructor
  · intro al k g o hg ho
    have gm := List.mem_of_getElem? hg
    have om := List.mem_of_getElem? ho
    have tell : ∀ (j : Nat) (s : Sl) (i : Nat) (v : Option Int), g.slots[j]? = some s → s.vers[i]? = some v → ∃ t, o.slots[j]? = some t ∧ t.stamp = s.stamp ∧ t.vers[i]? = some v := fun j s i v hs hv => by
      have a := al _ (due_iff.mpr ⟨g, gm, j, s, i, v, hs, hv, rfl⟩)
      rw [trueOf_one (l := .read g.name ((j : Int) + 1) (i : Int) s.stamp v) nd om (nm k g o hg ho)] at a
      exact read_iff.mp a
    have first : ∀ (j : Nat) (s : Sl), g.slots[j]? = some s → ∃ v, s.vers[0]? = some v := fun j s hs => by
      cases h : s.vers with
      | nil => exact absurd h (ne g gm s (List.mem_of_getElem? hs))
      | cons v r => exact ⟨v, rfl⟩
    refine ⟨?_, fun j s t hs ht => ?_⟩
    · refine Nat.le_of_not_lt fun c => ?_
      have hs := List.getElem?_eq_getElem c
      obtain ⟨v, hv⟩ := first _ _ hs
      obtain ⟨t, ht, _⟩ := tell _ _ _ _ hs hv
      have := (List.getElem?_eq_some_iff.mp ht).1
      omega
    · obtain ⟨v, hv⟩ := first _ _ hs
      obtain ⟨t', ht', st, _⟩ := tell _ _ _ _ hs hv
      rw [ht] at ht'
      cases ht'
      refine ⟨st, List.ext_getElem? fun i => ?_⟩
      rw [List.getElem?_take]
      by_cases c : i < s.vers.length
      · rw [if_pos c, List.getElem?_eq_getElem c]
        obtain ⟨t', ht', _, h⟩ := tell _ _ _ _ hs (List.getElem?_eq_getElem c)
        rw [ht] at ht'
        cases ht'
        exact h
      · rw [if_neg c, List.getElem?_eq_none (by omega)]
  · intro bg l hl
    obtain ⟨g, hg, j, s, i, v, hs, hv, rfl⟩ := due_iff.mp hl
    obtain ⟨k, hk⟩ := List.getElem?_of_mem hg
    have kl : k < lo.length := by
      have := (List.getElem?_eq_some_iff.mp hk).1
      omega
    have hko := List.getElem?_eq_getElem kl
    have om := List.mem_of_getElem? hko
    have e := nm k g _ hk hko
    obtain ⟨b1, b2⟩ := bg k g _ hk hko
    rw [trueOf_one (l := .read g.name ((j : Int) + 1) (i : Int) s.stamp v) nd om e, read_iff]
    have jl : j < lo[k].slots.length := by
      have := (List.getElem?_eq_some_iff.mp hs).1
      omega
    have ht := List.getElem?_eq_getElem jl
    obtain ⟨c1, c2⟩ := b2 j s _ hs ht
    refine ⟨_, ht, c1, ?_⟩
    have il := (List.getElem?_eq_some_iff.mp hv).1
    have c3 := congrArg (·[i]?) c2
    rw [List.getElem?_take, if_pos il, hv] at c3
    exact c3
def NearL (g o : Lg) : Prop := o.name = g.name ∧ o.slots.length ≤ 60 ∧ ∀ s ∈ o.slots, VGood 24 s
theorem paired_both {α β : Type} {R : α → β → Prop} {xs : List α} {ys : List β} {i : Nat} {x : α} {y : β} (h : Paired R xs ys) (hx : xs[i]? = some x) (hy : ys[i]? = some y) : R x y := by
  obtain ⟨x', e, r⟩ := paired_get h hy
  rw [hx] at e
  cases e
  exact r
theorem paired_map {α β γ : Type} {R : α → β → Prop} {f : α → γ} {g : β → γ} (k : ∀ x y, R x y → g y = f x) : ∀ {xs : List α} {ys : List β}, Paired R xs ys → ys.map g = xs.map f
  | _, _, .nil => rfl
  | _, _, .cons a r => by rw [List.map_cons, List.map_cons, k _ _ a, paired_map k r]
theorem known_due {ls lo : List Lg} (nm : lo.map Lg.name = ls.map Lg.name) (nd : (lo.map Lg.name).Nodup) : ∀ l ∈ dueL ls, Known lo l := fun l hl => by
  obtain ⟨g, hg, j, s, i, v, hs, hv, rfl⟩ := due_iff.mp hl
  have m : g.name ∈ lo.map Lg.name := by
    rw [nm]
    exact List.mem_map_of_mem hg
  obtain ⟨o, ho, e⟩ := List.mem_map.mp m
  refine ⟨⟨by omega, by omega⟩, o, [], ?_⟩
  have z := one_log nd ho
  rw [e] at z
  exact z
theorem vsum_le : ∀ {xs ys : List Sl}, xs.length = ys.length → (∀ (j : Nat) (s t : Sl), xs[j]? = some s → ys[j]? = some t → SlBeg s t) → vsum xs ≤ vsum ys
  | [], [], _, _ => Int.le_refl _
  | [], _ :: _, h, _ => by simp at h
  | _ :: _, [], h, _ => by simp at h
  | s :: xs, t :: ys, h, b => by
    have ih := vsum_le (xs := xs) (ys := ys) (by simpa using h) fun j u v h1 h2 => b (j + 1) u v h1 h2
    have h0 := (b 0 s t rfl rfl).2
    have hl := congrArg List.length h0
    rw [List.length_take] at hl
    unfold vsum at ih ⊢
    rw [List.map_cons, List.map_cons, List.sum_cons, List.sum_cons]
    omega
theorem eq_of_beg : ∀ {xs ys : List Sl}, xs.length = ys.length → (∀ (j : Nat) (s t : Sl), xs[j]? = some s → ys[j]? = some t → SlBeg s t) → vsum ys = vsum xs → ys = xs
  | [], [], _, _, _ => rfl
  | [], _ :: _, h, _, _ => by simp at h
  | _ :: _, [], h, _, _ => by simp at h
  | s :: xs, t :: ys, h, b, e => by
    have bt : ∀ (j : Nat) (u v : Sl), xs[j]? = some u → ys[j]? = some v → SlBeg u v := fun j u v h1 h2 => b (j + 1) u v h1 h2
    have hl' : xs.length = ys.length := by simpa using h
    have le := vsum_le hl' bt
    obtain ⟨h1, h0⟩ := b 0 s t rfl rfl
    have hl := congrArg List.length h0
    rw [List.length_take] at hl
    have e2 : vsum ys = vsum xs ∧ t.vers.length = s.vers.length := by
      unfold vsum at le e ⊢
      rw [List.map_cons, List.map_cons, List.sum_cons, List.sum_cons] at e
      omega
    rw [eq_of_beg hl' bt e2.1]
    rw [← e2.2, List.take_length] at h0
    cases s
    cases t
    cases h1
    cases h0
    rfl
theorem same_iff {g o : Lg} {z : Int} (hz : StOk g z) : (LgBeg g o ∧ trueIn o (.close g.name (g.slots.length : Nat) z (vsum g.slots)) = true ∧ trueIn o (.clock g.name g.off g.off) = true) ↔ SameLg g o z := by
  unfold trueIn
  dsimp only
  unfold closeOf
  rw [Int.toNat_natCast]
  constructor
  · rintro ⟨⟨len, sb⟩, hc, hk⟩
    rw [if_neg (by omega), Bool.and_eq_true, Bool.and_eq_true] at hc
    obtain ⟨_, hfrom, hsum⟩ := hc
    have es : vsum (o.slots.take g.slots.length) = vsum g.slots := V.int.inj (of_decide_eq_true hsum)
    refine ⟨?_, eq_of_beg (by rw [List.length_take]; omega) (fun j s t h1 h2 => ?_) es, fun s hs => ?_⟩
    · by_cases c : g.off ≤ o.off
      · rw [if_pos c] at hk
        have := of_decide_eq_true hk
        omega
      · rw [if_neg c] at hk
        exact absurd hk Bool.false_ne_true
    · rw [List.getElem?_take] at h2
      split at h2
      · exact sb j s t h1 h2
      · cases h2
    · have := List.all_eq_true.mp hfrom s hs
      exact of_decide_eq_true (p := s.stamp ≥ z) this
  · rintro ⟨e1, e2, e3⟩
    have hl := congrArg List.length e2
    rw [List.length_take] at hl
    have len : g.slots.length ≤ o.slots.length := by omega
    refine ⟨⟨len, fun j s t h1 h2 => ?_⟩, ?_, ?_⟩
    · have jl := (List.getElem?_eq_some_iff.mp h1).1
      rw [← e2, List.getElem?_take, if_pos jl, h2] at h1
      cases h1
      exact ⟨rfl, List.take_length⟩
    · rw [if_neg (by omega), Bool.and_eq_true, Bool.and_eq_true, e2]
      refine ⟨List.all_eq_true.mpr fun s hs => decide_eq_true (hz s hs), List.all_eq_true.mpr fun s hs => decide_eq_true (e3 s hs), decide_eq_true rfl⟩
    · rw [if_pos (by omega)]
      exact decide_eq_true (by omega)
theorem full_iff {ls lo : List Lg} {zs : List Int} (ll : ls.length = lo.length) (nm : ∀ (k : Nat) (g o : Lg), ls[k]? = some g → lo[k]? = some o → g.name = o.name) (nd : (lo.map Lg.name).Nodup) (ne : ∀ g ∈ ls, ∀ s ∈ g.slots, s.vers ≠ []) (st : Paired StOk ls zs) :
    (dueL ls ++ ccL ls zs).all (trueOf lo) = true ↔ SameL ls lo zs := by
  rw [List.all_append, Bool.and_eq_true, beg_iff ll nm nd ne, List.all_eq_true]
  have lz := st.length
  constructor
  · rintro ⟨hb, hc⟩ k g o z hg ho hz
    have om := List.mem_of_getElem? ho
    have e := nm k g o hg ho
    have c1 := hc _ (cc_mem.mpr ⟨k, g, z, hg, hz, List.mem_cons_self⟩)
    have c2 := hc _ (cc_mem.mpr ⟨k, g, z, hg, hz, List.mem_cons_of_mem _ List.mem_cons_self⟩)
    rw [trueOf_one (l := .close g.name (g.slots.length : Nat) z (vsum g.slots)) nd om e] at c1
    rw [trueOf_one (l := .clock g.name g.off g.off) nd om e] at c2
    exact (same_iff (paired_both st hg hz)).mp ⟨hb k g o hg ho, c1, c2⟩
  · intro h
    refine ⟨fun k g o hg ho => ?_, fun l hl => ?_⟩
    · have kl : k < zs.length := by
        have := (List.getElem?_eq_some_iff.mp hg).1
        omega
      have hz := List.getElem?_eq_getElem kl
      exact ((same_iff (paired_both st hg hz)).mpr (h k g o _ hg ho hz)).1
    · obtain ⟨k, g, z, hg, hz, hm⟩ := cc_mem.mp hl
      have kl : k < lo.length := by
        have := (List.getElem?_eq_some_iff.mp hg).1
        omega
      have ho := List.getElem?_eq_getElem kl
      have om := List.mem_of_getElem? ho
      have e := nm k g _ hg ho
      obtain ⟨_, c1, c2⟩ := (same_iff (paired_both st hg hz)).mpr (h k g _ z hg ho hz)
      unfold ccOne at hm
      rcases List.mem_cons.mp hm with rfl | m
      · rw [trueOf_one (l := .close g.name (g.slots.length : Nat) z (vsum g.slots)) nd om e]
        exact c1
      · rw [List.mem_singleton.mp m, trueOf_one (l := .clock g.name g.off g.off) nd om e]
        exact c2
theorem known_full {ls lo : List Lg} {zs : List Int} (nm : lo.map Lg.name = ls.map Lg.name) (nd : (lo.map Lg.name).Nodup) : ∀ l ∈ dueL ls ++ ccL ls zs, Known lo l := fun l hl => by
  rcases List.mem_append.mp hl with m | m
  · exact known_due nm nd l m
  · obtain ⟨k, g, z, hg, _, hm⟩ := cc_mem.mp m
    have mem : g.name ∈ lo.map Lg.name := by
      rw [nm]
      exact List.mem_map_of_mem (List.mem_of_getElem? hg)
    obtain ⟨o, ho, e⟩ := List.mem_map.mp mem
    have z2 := one_log nd ho
    rw [e] at z2
    unfold ccOne at hm
    rcases List.mem_cons.mp hm with rfl | m
    · exact ⟨(show (0 : Int) ≤ (g.slots.length : Nat) by omega), o, [], z2⟩
    · rw [List.mem_singleton.mp m]
      exact ⟨trivial, o, [], z2⟩
def sp_law (K : PySem.W.Frag) : Sp := fun vs H Q _ => ∃ (a : Addr) (ns : List Int), vs = [.ref a] ∧ SqL K H a (ns.map V.int) ∧ ns.length ≤ 63 ∧ ∀ H', Q (.bl true) H'
section
variable {P : Program} {w : World} {K : PySem.W.Frag} {mg : Str → Option Value} {base : Heap}
set_option pp.maxSteps 300 in
set_option maxHeartbeats 4000000 in
theorem ok_law (T : Ctx K mg) : FnOk P w K mg base CX0 6 T.f_law T.fd_law ["script"] (sp_law K) := by
  refine T.F_law.ok sc_law (fun vs H Q E h => ?_) (fun cdv A outer s H vs Q E hr h => ?_)
  · obtain ⟨a, ns, rfl, _⟩ := h
    rfl
  · obtain ⟨a, ns, rfl, hS, hlen, q⟩ := h
    refine ⟨_, (pss_cons (ps_set (i := 1) sc_law.nd rfl (.inr rfl) (pe_call (ok_l_draws T) (hr.mono (by decide)) (by rfl) T.g_l_draws T.F_l_draws.kp T.b_l_draws .nil pass0 (pa_cons (pv 0) (pa_cons pe_int pa_nil))))
      (pss_cons (ps_set (i := 2) sc_law.nd rfl (.inl rfl) (pe_call (ok_l_cell T) (hr.mono (by decide)) (by rfl) T.g_l_cell T.F_l_cell.kp T.b_l_cell .nil pass0 (pa_cons (pv 0) (pa_cons (pv 1) pa_nil))))
      (pss_cons (ps_set (i := 3) sc_law.nd rfl (.inr rfl) (pe_call (ok_l_plan T) (hr.mono (by decide)) (by rfl) T.g_l_plan T.F_l_plan.kp T.b_l_plan .nil pass0 (pa_cons (pv 1) (pa_cons (pv 2) pa_nil))))
      (pss_cons (ps_set (i := 4) sc_law.nd rfl (.inr rfl) (pe_call (ok_l_history T) (hr.mono (by decide)) (by rfl) T.g_l_history T.F_l_history.kp T.b_l_history .nil pass0 (pa_cons (pv 1) (pa_cons (pv 3) (pa_cons pe_int (pa_cons (pv 2) pa_nil))))))
      (pss_cons (ps_set (i := 5) sc_law.nd rfl (.inl rfl) (pe_callTy call_tuple_of (by rfl) T.m_tuple (by decide +kernel) (pa_cons (pe_lc (own := [("k", 9)]) (g := gName 9) (by rfl) sc_law.nd (pi_range1 (by rfl) T.m_range (pa_cons (pe_callB call_len_seq (by rfl) T.m_len (by decide +kernel) (pa_cons (pv 4) pa_nil)) pa_nil)) (blkOk_by (own := [("k", 9)]) (N := ["script", "draws", "cell", "plan", "history", "other", "full", "one", "mixed", "k"]) (sc := defScope s_law) (by decide +kernel)) (fun _ _ _ _ _ => pg_name (i := 9) sc_law.nd rfl (Or.inl rfl)) (fun _ _ _ _ _ => pts_nil) (fun _ _ _ _ _ => (pe_call (ok_l_other_log T) (hr.mono (by decide)) (by rfl) T.g_l_other_log T.F_l_other_log.kp T.b_l_other_log .nil pass0 (pa_cons (pv 1) (pa_cons (pe_ix (show IxR _ (rIxT K) from ix_tup) (pe_ix (show IxR _ (rIxT K) from ix_tup) (pv 3) pe_int (fun _ _ => rfl)) (pv 9) (fun _ _ => rfl)) (pa_cons (pe_ix (show IxR _ (rIxT K) from ix_tup) (pv 4) (pv 9) (fun _ _ => rfl)) pa_nil)))))) pa_nil)))
      (pss_cons (ps_set (i := 6) sc_law.nd rfl (.inl rfl) (pe_call (ok_l_full T) (hr.mono (by decide)) (by rfl) T.g_l_full T.F_l_full.kp T.b_l_full .nil pass0 (pa_cons (pv 1) (pa_cons (pv 4) pa_nil))))
      (pss_cons (ps_if (pt_not (pt_val (pe_call (ok_l_is_truth T) (hr.mono (by decide)) (by rfl) T.g_l_is_truth T.F_l_is_truth.kp T.b_l_is_truth .nil pass0 (pa_cons (pe_call (ok_agrees T) (hr.mono (by decide)) (by rfl) T.g_agrees T.F_agrees.kp T.b_agrees .nil pass0 (pa_cons (pv 5) (pa_cons (pe_ix ix_tup (pv 6) pe_int (fun _ _ => rfl)) pa_nil))) (pa_cons (pe_call (ok_l_same_logs T) (hr.mono (by decide)) (by rfl) T.g_l_same_logs T.F_l_same_logs.kp T.b_l_same_logs .nil pass0 (pa_cons (pv 4) (pa_cons (pv 5) (pa_cons (pe_ix ix_tup (pv 6) pe_int (fun _ _ => rfl)) pa_nil)))) pa_nil)))))
        (pss_one (ps_ret pe_bl))
        pss_nil)
      (pss_cons (ps_set (i := 7) sc_law.nd rfl (.inl rfl) (pe_call (ok_l_take T) (hr.mono (by decide)) (by rfl) T.g_l_take T.F_l_take.kp T.b_l_take .nil pass0 (pa_cons (pv 1) (pa_cons (pe_callB call_len_seq (by rfl) T.m_len (by decide +kernel) (pa_cons (pv 4) pa_nil)) pa_nil))))
      (pss_cons (ps_set (i := 8) sc_law.nd rfl (.inl rfl) (pe_op TT.op_cat_t (pe_op TT.op_cat_t (pe_slice TT.sl_t (pv 4) po_none (po_some (pv 7))) (pe_slice TT.sl_t (pv 5) (po_some (pv 7)) (po_some (pe_op op_add (pv 7) pe_int)))) (pe_slice TT.sl_t (pv 4) (po_some (pe_op op_add (pv 7) pe_int)) po_none)))
      (pss_cons (ps_if (pt_not (pt_val (pe_call (ok_l_is_truth T) (hr.mono (by decide)) (by rfl) T.g_l_is_truth T.F_l_is_truth.kp T.b_l_is_truth .nil pass0 (pa_cons (pe_call (ok_agrees T) (hr.mono (by decide)) (by rfl) T.g_agrees T.F_agrees.kp T.b_agrees .nil pass0 (pa_cons (pv 8) (pa_cons (pe_ix ix_tup (pv 6) pe_int (fun _ _ => rfl)) pa_nil))) (pa_cons (pe_call (ok_l_same_logs T) (hr.mono (by decide)) (by rfl) T.g_l_same_logs T.F_l_same_logs.kp T.b_l_same_logs .nil pass0 (pa_cons (pv 4) (pa_cons (pv 8) (pa_cons (pe_ix ix_tup (pv 6) pe_int (fun _ _ => rfl)) pa_nil)))) pa_nil)))))
        (pss_one (ps_ret pe_bl))
        pss_nil)
      (pss_one (ps_ret (pe_and (pe_cmpR op_is_bl (pe_call (ok_agrees T) (hr.mono (by decide)) (by rfl) T.g_agrees T.F_agrees.kp T.b_agrees .nil pass0 (pa_cons (pv 4) (pa_cons (pe_ix ix_tup (pv 6) pe_int (fun _ _ => rfl)) pa_nil))) pe_bl (nomark _)) (pe_one (pe_cmpR op_is_bl (pe_call (ok_agrees T) (hr.mono (by decide)) (by rfl) T.g_agrees T.F_agrees.kp T.b_agrees .nil pass0 (pa_cons (pv 4) (pa_cons (pe_callTy call_tuple_of (by rfl) T.m_tuple (by decide +kernel) (pa_cons (pe_revL (pe_ix ix_tup (pv 6) pe_int (fun _ _ => rfl))) pa_nil)) pa_nil))) pe_bl (nomark _)))))))))))))))), ?_⟩
    refine ⟨.ref a, rfl, a, ns, 530, rfl, hS, by omega, by decide, fun H1 d s1 nd hd => ?_⟩
    refine ⟨.ref a, rfl, .ref d, rfl, a, d, ns, rfl, fun H' r => r.script hS nd s1, hd, fun H2 cell r2 hc => ?_⟩
    refine ⟨.ref d, rfl, .int cell, rfl, d, cell, rfl, r2.at_, fun H3 p tm ts P r3 pa po iw => ?_⟩
    refine ⟨.ref d, rfl, .ref p, rfl, .int cell, rfl, d, p, tm, ts, P, 5, cell, rfl, r3.at_, pa, po, by decide, by decide, fun H4 h ls r4 hh hok => ?_⟩
    have few := hok.few (by have := po.few; omega)
    obtain ⟨gs, hh1, hgs⟩ := id hh
    have gl : gs.length = ls.length := hgs.length
    have ol : ls.length = P.ms.length := (show Paired (fun m x => LgOk m cell x) P.ms ls from hok).length.symm
    have tl : ts.length = P.ms.length := pa.low.length
    have f6 := po.few
    have pa4 := r4.plan r3.at_ pa
    refine ⟨.ref h, rfl, h, _, rfl, .inr (.inl (.inl hh1)), ((gs.map V.ref).length : Int), rfl, by omega, by rw [List.length_map]; omega, fun C nC => lc_range (lo := 0) (n := (gs.map V.ref).length) (fun i H' => ∃ (es : List Addr) (lo : List Lg), Dr d H4 H' ∧ H' C = some (.lst (es.map V.ref)) ∧ Paired (LgAt H') es lo ∧ es.length = i ∧ Paired NearL (ls.take i) lo) ⟨[], [], (Dr.refl r4.at_).then (same_new nC), upd_same, .nil, rfl, by rw [List.take_zero]; exact .nil⟩ (fun i H5 hi z => ?_) (fun H5 z => ?_)⟩
    · obtain ⟨es, lo, r5, hC5, hp5, el, nr⟩ := z
      rw [List.length_map] at hi
      have hit : i < ts.length := by omega
      have ath : atI (gs.map V.ref) (0 + (i : Int)) = some (.ref gs[i]) := atI_z (j := i) (by omega) (by rw [List.getElem?_map, List.getElem?_eq_getElem hi]; rfl)
      have att : atI (ts.map V.ref) (0 + (i : Int)) = some (.ref ts[i]) := atI_z (j := i) (by omega) (by rw [List.getElem?_map, List.getElem?_eq_getElem hit]; rfl)
      have pa5 := r5.plan r4.at_ pa4
      obtain ⟨g, hg, hga⟩ := lgs_at hgs (List.getElem?_eq_getElem hi)
      obtain ⟨m, hm, hma⟩ := mts_at pa5.low (List.getElem?_eq_getElem hit)
      obtain ⟨m', hm', lok⟩ := paired_get hok hg
      rw [hm] at hm'
      cases hm'
      have mo := po.each m (List.mem_of_getElem? hm)
      obtain ⟨st, slok⟩ := lok.slots
      have hga5 := hga.kept (r5.kt r4.at_)
      have nCd : C ≠ d := (Dr.refl r4.at_).ne nC
      have vg : ∀ s ∈ g.slots, VGood 12 s := fun s hs => by
        obtain ⟨a, b, e⟩ := (slok.vers s hs).head
        exact ⟨by rw [e]; exact List.cons_ne_nil _ _, (slok.vers s hs).few⟩
      generalize gs[i] = ga at ath hga5
      generalize ts[i] = ta at att hma
      refine ⟨rfl, .ref d, rfl, .ref p, rfl, p, _, 1, _, rfl, rfl, .inl (.inl pa5.top), atI_nat (j := 1) rfl, .int (0 + (i : Int)), rfl, tm, _, _, _, rfl, rfl, .inl (.inl pa5.mid), att, .ref h, rfl, .int (0 + (i : Int)), rfl, h, _, _, _, rfl, rfl, .inl (.inl (r5.tup r4.at_ hh1)), ath, d, ta, ga, m, g, rfl, r5.at_, hma, mo.order, mo.err0, hga5, lok.few, vg, fun H6 e o xs r6 he len gd => ?_⟩
      have hC6 := r6.keep _ _ nCd hC5
      have kk := KT.trans (r6.kt r5.at_) (kt_lst (ys := es.map V.ref ++ [.ref e]) hC6)
      refine ⟨_, hC6, by rw [List.length_map]; exact small (by omega), es ++ [e], lo ++ [⟨g.name, o, xs⟩], (r5.trans r6).keepNew nCd nC, by rw [upd_same, map_snoc], (lgs_kept kk hp5).snoc (he.kept (kt_lst hC6)), by rw [List.length_append, el]; rfl, ?_⟩
      rw [List.take_add_one, hg]
      exact nr.snoc ⟨rfl, len, gd⟩
    · obtain ⟨es, lo, r5, hC5, hp5, el, nr⟩ := z
      rw [List.length_map, gl, List.take_length] at nr
      refine ⟨C, _, rfl, .inl ⟨.inl (.inl hC5), fun t nt => ?_⟩⟩
      have kt := same_new (o := .tup (es.map V.ref)) nt
      have r7 := r5.then kt
      have hoA : HistAt (upd H5 t (.tup (es.map V.ref))) t lo := ⟨es, upd_same, lgs_kept (Same.kt kt) hp5⟩
      have hhA := hh.kept (r7.kt r4.at_)
      generalize upd H5 t (.tup (es.map V.ref)) = H7 at r7 hoA hhA ⊢
      have ll : ls.length = lo.length := nr.length
      have nmM : lo.map Lg.name = ls.map Lg.name := paired_map (fun _ _ z => z.1) nr
      have nmP : ls.map Lg.name = P.ms.map Mt.name := paired_map (fun _ _ z => z.name) hok
      have ndl : (ls.map Lg.name).Nodup := by
        rw [nmP]
        exact po.risen.2
      have ndo : (lo.map Lg.name).Nodup := by
        rw [nmM]
        exact ndl
      have nelo : ∀ g ∈ lo, ∀ s ∈ g.slots, s.vers ≠ [] := fun g hg s hs => by
        obtain ⟨_, _, z⟩ := paired_mem nr g hg
        exact (z.2.2 s hs).1
      have nels : ∀ g ∈ ls, ∀ s ∈ g.slots, s.vers ≠ [] := fun g hg s hs => by
        obtain ⟨m, _, z⟩ := paired_mem hok g hg
        obtain ⟨st, sk⟩ := z.slots
        obtain ⟨a, b, e⟩ := (sk.vers s hs).head
        rw [e]
        exact List.cons_ne_nil _ _
      have fewO : HistFew lo := ⟨by omega, fun g hg => by
        obtain ⟨_, _, z⟩ := paired_mem nr g hg
        exact z.2.1, fun g hg s hs => by
        obtain ⟨_, _, z⟩ := paired_mem nr g hg
        exact (z.2.2 s hs).2⟩
      have f1 : ∀ g ∈ ls, g.slots.length ≤ 1000 := fun g hg => by
        have := few.slots g hg
        omega
      have f2 : ∀ g ∈ lo, g.slots.length ≤ 1000 := fun g hg => by
        have := fewO.slots g hg
        omega
      have ups : ∀ g ∈ ls, (g.slots.map Sl.stamp).Pairwise (· ≤ ·) := fun g hg => by
        obtain ⟨m, _, z⟩ := paired_mem hok g hg
        obtain ⟨st, sk⟩ := z.slots
        exact sk.up
      have vgs : ∀ g ∈ ls, NearL g g := fun g hg => by
        obtain ⟨m, _, z⟩ := paired_mem hok g hg
        obtain ⟨st, sk⟩ := z.slots
        exact ⟨rfl, by have := z.few; omega, fun s hs => ⟨nels g hg s hs, by have := (sk.vers s hs).few; omega⟩⟩
      have big : (100000 : Nat) < sizeLine := by rw [sizeLine_eq]; decide
      have l0 : 0 < ls.length := by
        have := List.length_pos_iff.mpr po.some_
        omega
      refine ⟨.ref d, rfl, .ref h, rfl, d, h, ls, rfl, r7.at_, hhA, few, ups, fun H8 f S F zs us r8 hf nSd nFd hSl hFl hus st => ?_⟩
      have k8 := r8.kt r7.at_
      have hh8 := hhA.kept k8
      have ho8 := hoA.kept k8
      have lzs := st.length
      -- the question, whatever other history it is
      have ask : ∀ (lm : List Lg) (H : Hp) (m : Addr), KT H8 H → H S = some (.lst (zs.map V.int)) → H F = some (.lst (us.map V.ref)) → HistAt H m lm → Paired NearL ls lm → HistFew lm ∧ (∀ g ∈ lm, g.slots.length ≤ 1000) ∧ (lm.map Lg.name).Nodup ∧ (∀ l ∈ dueL ls ++ ccL ls zs, Known lm l) ∧ ((dueL ls ++ ccL ls zs).all (trueOf lm) = true ↔ SameL ls lm zs) ∧ ls.length = lm.length := by
        intro lm H m _ _ _ _ nr
        have lml : ls.length = lm.length := nr.length
        have nmm : lm.map Lg.name = ls.map Lg.name := paired_map (fun _ _ z => z.1) nr
        have ndm : (lm.map Lg.name).Nodup := by rw [nmm]; exact ndl
        have fm : HistFew lm := ⟨by omega, fun g hg => by
          obtain ⟨_, _, z⟩ := paired_mem nr g hg
          exact z.2.1, fun g hg s hs => by
          obtain ⟨_, _, z⟩ := paired_mem nr g hg
          exact (z.2.2 s hs).2⟩
        exact ⟨fm, fun g hg => by have := fm.slots g hg; omega, ndm, known_full nmm ndm, full_iff lml (fun k g o a b => ((paired_both nr a b).1).symm) ndm nels st, lml⟩
      obtain ⟨fo, fo2, ndo, kno, iffo, llo⟩ := ask lo H8 t (fun _ _ e => e) hSl hFl ho8 nr
      have hf8 : SqT K H8 f [.ref S, .ref F] := .inl (.inl hf)
      refine ⟨.ref t, rfl, .ref f, rfl, f, _, 1, _, rfl, rfl, hf8, atI_nat (j := 1) rfl, t, F, lo, us, _, rfl, ho8, fo2, .inl (.inl (.inl hFl)), hus, kno, fun H9 s9 => ?_⟩
      refine ⟨.ref h, rfl, .ref t, rfl, .ref f, rfl, f, _, 0, _, rfl, rfl, .inl (.inl (s9 _ _ hf)), atI_nat (j := 0) rfl, h, t, S, ls, lo, zs, rfl, hh8.kept (Same.kt s9), ho8.kept (Same.kt s9), few, fo, llo, lzs, s9 _ _ hSl, fun H10 b1 s10 e1 => ?_⟩
      have q1 : (dueL ls ++ ccL ls zs).all (trueOf lo) = b1 := Bool.eq_iff_iff.mpr (iffo.trans e1.symm)
      refine ⟨b1, by rw [q1]; rfl, true, rfl, iteF ?_⟩
      have sA := s9.trans s10
      have rA := r8.then sA
      -- one
      have hh10 := hh8.kept (Same.kt sA)
      have ho10 := ho8.kept (Same.kt sA)
      obtain ⟨gs', hg1, hg2⟩ := id hh10
      have gl' : gs'.length = ls.length := hg2.length
      refine ⟨.ref d, rfl, .ref h, rfl, h, _, rfl, .inr (.inl (.inl hg1)), d, _, rfl, rA.at_, by rw [List.length_map]; omega, fun H11 o r11 o0 o1 => ?_⟩
      rw [List.length_map, gl'] at o1
      have k11 := r11.kt rA.at_
      have hg11 := k11 _ _ hg1
      obtain ⟨es', he1, he2⟩ := id ho10
      have he11 := k11 _ _ he1
      have el' : es'.length = lo.length := he2.length
      refine ⟨.ref h, rfl, .int o, rfl, o, rfl, h, _, rfl, hg11, fun a1 Ha sa ha => ?_⟩
      refine ⟨.ref t, rfl, .int o, rfl, o, rfl, .int o, rfl, _, _, rfl, rfl, o + 1, rfl, t, _, rfl, sa _ _ he11, fun a2 Hb sb hb2 => ?_⟩
      have cla := cutV_length (gs'.map V.ref) none (some o)
      have clb := cutV_length (es'.map V.ref) (some o) (some (o + 1))
      rw [List.length_map] at cla clb
      refine ⟨a1, a2, _, _, rfl, rfl, sb _ _ ha, hb2, by omega, fun a3 Hc sc hc3 => ?_⟩
      have sac := (sa.trans sb).trans sc
      refine ⟨.ref h, rfl, .int o, rfl, _, _, rfl, rfl, o + 1, rfl, h, _, rfl, sac _ _ hg11, fun a4 He se he4 => ?_⟩
      have cld := cutV_length (gs'.map V.ref) (some (o + 1)) none
      rw [List.length_map] at cld
      refine ⟨a3, a4, _, _, rfl, rfl, se _ _ hc3, he4, by rw [List.length_append]; omega, fun m Hm sm hm => ?_⟩
      have sam := (sac.trans se).trans sm
      have kam := Same.kt sam
      obtain ⟨i, rfl⟩ : ∃ i : Nat, o = (i : Int) := ⟨o.toNat, by omega⟩
      have ecat : cutV (gs'.map V.ref) none (some (i : Int)) ++ cutV (es'.map V.ref) (some (i : Int)) (some ((i : Int) + 1)) ++ cutV (gs'.map V.ref) (some ((i : Int) + 1)) none = (gs'.take i ++ (es'.drop i).take 1 ++ gs'.drop (i + 1)).map V.ref := by
        have c1 := cut_toM V.ref gs' (i : Int) (by omega)
        have c2 := cutM V.ref es' i (i + 1) (by omega) (by omega)
        have c3 := cut_fromM V.ref gs' ((i : Int) + 1) (by omega)
        rw [Int.toNat_natCast] at c1
        rw [show ((i + 1 : Nat) : Int) = (i : Int) + 1 by omega, show i + 1 - i = 1 by omega] at c2
        rw [show ((i : Int) + 1).toNat = i + 1 by omega] at c3
        rw [c1, c2, c3, List.map_append, List.map_append]
      rw [ecat] at hm
      have hist : HistAt Hm m (ls.take i ++ (lo.drop i).take 1 ++ ls.drop (i + 1)) := ⟨_, hm, paired_app (paired_app (paired_take _ (lgs_kept kam (lgs_kept k11 hg2))) (paired_take _ (paired_drp _ (lgs_kept kam (lgs_kept k11 he2))))) (paired_drp _ (lgs_kept kam (lgs_kept k11 hg2)))⟩
      have selfP : ∀ xs : List Lg, (∀ g ∈ xs, g ∈ ls) → Paired NearL xs xs := by
        intro xs
        induction xs with
        | nil => exact fun _ => .nil
        | cons x r ih => exact fun h => .cons (vgs x (h x List.mem_cons_self)) (ih fun g hg => h g (List.mem_cons_of_mem _ hg))
      have nrm : Paired NearL ls (ls.take i ++ (lo.drop i).take 1 ++ ls.drop (i + 1)) := by
        have e : ls.take i ++ (ls.drop i).take 1 ++ ls.drop (i + 1) = ls := by rw [← List.take_add, List.take_append_drop]
        have p := paired_app (paired_app (selfP (ls.take i) fun g hg => List.mem_of_mem_take hg) (paired_take 1 (paired_drp i nr))) (selfP (ls.drop (i + 1)) fun g hg => List.mem_of_mem_drop hg)
        rw [e] at p
        exact p
      have rM : Dr d H8 Hm := (((Dr.refl r8.at_).then sA).trans r11).then sam
      have kM := rM.kt r8.at_
      have hSm := rM.keep _ _ nSd hSl
      have hFm := rM.keep _ _ nFd hFl
      have hfm := kM _ _ hf
      have husm := lts_kept kM hus
      obtain ⟨fm, fm2, ndm, knm, iffm, llm⟩ := ask _ Hm m kM hSm hFm hist nrm
      generalize ls.take i ++ (lo.drop i).take 1 ++ ls.drop (i + 1) = lm at hist fm fm2 ndm knm iffm llm
      refine ⟨.ref m, rfl, .ref f, rfl, f, _, 1, _, rfl, rfl, .inl (.inl hfm), atI_nat (j := 1) rfl, m, F, lm, us, _, rfl, hist, fm2, .inl (.inl (.inl hFm)), husm, knm, fun HA sA2 => ?_⟩
      refine ⟨.ref h, rfl, .ref m, rfl, .ref f, rfl, f, _, 0, _, rfl, rfl, .inl (.inl (sA2 _ _ hfm)), atI_nat (j := 0) rfl, h, m, S, ls, lm, zs, rfl, (hh8.kept kM).kept (Same.kt sA2), hist.kept (Same.kt sA2), few, fm, llm, lzs, sA2 _ _ hSm, fun HB b2 sB e2 => ?_⟩
      have q2 : (dueL ls ++ ccL ls zs).all (trueOf lm) = b2 := Bool.eq_iff_iff.mpr (iffm.trans e2.symm)
      refine ⟨b2, by rw [q2]; rfl, true, rfl, iteF ?_⟩
      have sAB := sA2.trans sB
      have kB := KT.trans kM (Same.kt sAB)
      -- the history itself
      obtain ⟨fl, fl2, ndl2, knl, iffl, lll⟩ := ask ls HB h kB (sAB _ _ hSm) (sAB _ _ hFm) (hh8.kept kB) (selfP ls fun _ z => z)
      have own : (dueL ls ++ ccL ls zs).all (trueOf ls) = true := iffl.mpr fun k g o z h1 h2 h3 => by
        rw [h1] at h2
        cases h2
        exact ⟨rfl, List.take_length, fun s hs => by rw [List.drop_length] at hs; cases hs⟩
      refine ⟨.ref h, rfl, .ref f, rfl, f, _, 1, _, rfl, rfl, .inl (.inl (sAB _ _ hfm)), atI_nat (j := 1) rfl, h, F, ls, us, _, rfl, hh8.kept kB, fl2, .inl (.inl (.inl (sAB _ _ hFm))), same_lts sAB husm, knl, fun HC sC => ?_⟩
      rw [own]
      refine ⟨true, true, rfl, rfl, _, rfl, iteT ?_⟩
      have sAC := sAB.trans sC
      refine ⟨.ref h, rfl, .ref f, rfl, f, _, 1, _, rfl, rfl, .inl (.inl (sAC _ _ hfm)), atI_nat (j := 1) rfl, F, _, rfl, .inl (.inl (sAC _ _ hFm)), fun R nR => ⟨R, _, rfl, .inl ⟨.inl (.inl upd_same), fun tr ntr => ?_⟩⟩⟩
      have kR := same_new (o := .lst (us.map V.ref).reverse) nR
      have kr := same_new (o := .tup (us.map V.ref).reverse) ntr
      have sAD := (sAC.trans kR).trans kr
      have ownR : (dueL ls ++ ccL ls zs).reverse.all (trueOf ls) = true := by rw [List.all_reverse]; exact own
      have hr : upd (upd HC R (.lst (us.map V.ref).reverse)) tr (.tup (us.map V.ref).reverse) tr = some (.tup (us.reverse.map V.ref)) := by rw [upd_same, List.map_reverse]
      refine ⟨h, tr, ls, us.reverse, _, rfl, hh8.kept (KT.trans kM (Same.kt sAD)), fl2, .inr (.inl (.inl hr)), paired_rev (same_lts sAD husm), fun l hl => knl l (List.mem_reverse.mp hl), fun HD sD => ?_⟩
      rw [ownR]
      exact ⟨true, true, rfl, rfl, q _⟩
end
theorem all_mk {l : PySem.W.OpenLaw} {w : World} {K : PySem.W.Frag} {h : Heap} {mg : Str → Option Value} {fa : Addr} (X : K.In h) (G : h.Ns mainGlobals mg) (hfa : mg "law" = some (.ref fa)) 
    {f1 : Addr} {od1 an1 : Option Addr} {sl1 : Array (Option Value)} {oc1 kV1 dc1 pm1 cd1 ct1 : Value}
    {f2 : Addr} {od2 an2 : Option Addr} {sl2 : Array (Option Value)} {oc2 kV2 dc2 pm2 cd2 ct2 : Value}
    {f3 : Addr} {od3 an3 : Option Addr} {sl3 : Array (Option Value)} {oc3 kV3 dc3 pm3 cd3 ct3 : Value}
    {f4 : Addr} {od4 an4 : Option Addr} {sl4 : Array (Option Value)} {oc4 kV4 dc4 pm4 cd4 ct4 : Value}
    {f5 : Addr} {od5 an5 : Option Addr} {sl5 : Array (Option Value)} {oc5 kV5 dc5 pm5 cd5 ct5 : Value}
    {f6 : Addr} {od6 an6 : Option Addr} {sl6 : Array (Option Value)} {oc6 kV6 dc6 pm6 cd6 ct6 : Value}
    {f7 : Addr} {od7 an7 : Option Addr} {sl7 : Array (Option Value)} {oc7 kV7 dc7 pm7 cd7 ct7 : Value}
    {f8 : Addr} {od8 an8 : Option Addr} {sl8 : Array (Option Value)} {oc8 kV8 dc8 pm8 cd8 ct8 : Value}
    {f9 : Addr} {od9 an9 : Option Addr} {sl9 : Array (Option Value)} {oc9 kV9 dc9 pm9 cd9 ct9 : Value}
    {f10 : Addr} {od10 an10 : Option Addr} {sl10 : Array (Option Value)} {oc10 kV10 dc10 pm10 cd10 ct10 : Value}
    {f11 : Addr} {od11 an11 : Option Addr} {sl11 : Array (Option Value)} {oc11 kV11 dc11 pm11 cd11 ct11 : Value}
    {f12 : Addr} {od12 an12 : Option Addr} {sl12 : Array (Option Value)} {oc12 kV12 dc12 pm12 cd12 ct12 : Value}
    {f13 : Addr} {od13 an13 : Option Addr} {sl13 : Array (Option Value)} {oc13 kV13 dc13 pm13 cd13 ct13 : Value}
    {f14 : Addr} {od14 an14 : Option Addr} {sl14 : Array (Option Value)} {oc14 kV14 dc14 pm14 cd14 ct14 : Value}
    {f15 : Addr} {od15 an15 : Option Addr} {sl15 : Array (Option Value)} {oc15 kV15 dc15 pm15 cd15 ct15 : Value}
    {f16 : Addr} {od16 an16 : Option Addr} {sl16 : Array (Option Value)} {oc16 kV16 dc16 pm16 cd16 ct16 : Value}
    {f17 : Addr} {od17 an17 : Option Addr} {sl17 : Array (Option Value)} {oc17 kV17 dc17 pm17 cd17 ct17 : Value}
    {f18 : Addr} {od18 an18 : Option Addr} {sl18 : Array (Option Value)} {oc18 kV18 dc18 pm18 cd18 ct18 : Value}
    {f19 : Addr} {od19 an19 : Option Addr} {sl19 : Array (Option Value)} {oc19 kV19 dc19 pm19 cd19 ct19 : Value}
    {f20 : Addr} {od20 an20 : Option Addr} {sl20 : Array (Option Value)} {oc20 kV20 dc20 pm20 cd20 ct20 : Value}
    {f21 : Addr} {od21 an21 : Option Addr} {sl21 : Array (Option Value)} {oc21 kV21 dc21 pm21 cd21 ct21 : Value}
    (a1 : PySem.W.nsIn K mainGlobals "is_true" = some (some (.ref f1))) (l1 : K.lookup f1 = some ⟨oc1, od1, .func (PySem.W.fnOf "is_true" "is_true" (defArgs s_is_true) (defBody s_is_true) (defScope s_is_true) .none kV1 dc1 pm1 an1 cd1 ct1), sl1⟩) (c1 : PySem.W.codeIn K cd1 "is_true" = true) (k1 : PySem.W.keepIn K (.ref f1) = true)
    (a2 : PySem.W.nsIn K mainGlobals "_log_of" = some (some (.ref f2))) (l2 : K.lookup f2 = some ⟨oc2, od2, .func (PySem.W.fnOf "_log_of" "_log_of" (defArgs s_log_of) (defBody s_log_of) (defScope s_log_of) .none kV2 dc2 pm2 an2 cd2 ct2), sl2⟩) (c2 : PySem.W.codeIn K cd2 "_log_of" = true) (k2 : PySem.W.keepIn K (.ref f2) = true)
    (a3 : PySem.W.nsIn K mainGlobals "_is_read_true" = some (some (.ref f3))) (l3 : K.lookup f3 = some ⟨oc3, od3, .func (PySem.W.fnOf "_is_read_true" "_is_read_true" (defArgs s_is_read_true) (defBody s_is_read_true) (defScope s_is_read_true) .none kV3 dc3 pm3 an3 cd3 ct3), sl3⟩) (c3 : PySem.W.codeIn K cd3 "_is_read_true" = true) (k3 : PySem.W.keepIn K (.ref f3) = true)
    (a4 : PySem.W.nsIn K mainGlobals "_is_close_true" = some (some (.ref f4))) (l4 : K.lookup f4 = some ⟨oc4, od4, .func (PySem.W.fnOf "_is_close_true" "_is_close_true" (defArgs s_is_close_true) (defBody s_is_close_true) (defScope s_is_close_true) .none kV4 dc4 pm4 an4 cd4 ct4), sl4⟩) (c4 : PySem.W.codeIn K cd4 "_is_close_true" = true) (k4 : PySem.W.keepIn K (.ref f4) = true)
    (a5 : PySem.W.nsIn K mainGlobals "agrees" = some (some (.ref f5))) (l5 : K.lookup f5 = some ⟨oc5, od5, .func (PySem.W.fnOf "agrees" "agrees" (defArgs s_agrees) (defBody s_agrees) (defScope s_agrees) .none kV5 dc5 pm5 an5 cd5 ct5), sl5⟩) (c5 : PySem.W.codeIn K cd5 "agrees" = true) (k5 : PySem.W.keepIn K (.ref f5) = true)
    (a6 : PySem.W.nsIn K mainGlobals "reads_of" = some (some (.ref f6))) (l6 : K.lookup f6 = some ⟨oc6, od6, .func (PySem.W.fnOf "reads_of" "reads_of" (defArgs s_reads_of) (defBody s_reads_of) (defScope s_reads_of) .none kV6 dc6 pm6 an6 cd6 ct6), sl6⟩) (c6 : PySem.W.codeIn K cd6 "reads_of" = true) (k6 : PySem.W.keepIn K (.ref f6) = true)
    (a7 : PySem.W.nsIn K mainGlobals "_law_draws" = some (some (.ref f7))) (l7 : K.lookup f7 = some ⟨oc7, od7, .func (PySem.W.fnOf "_law_draws" "_law_draws" (defArgs s_l_draws) (defBody s_l_draws) (defScope s_l_draws) .none kV7 dc7 pm7 an7 cd7 ct7), sl7⟩) (c7 : PySem.W.codeIn K cd7 "_law_draws" = true) (k7 : PySem.W.keepIn K (.ref f7) = true)
    (a8 : PySem.W.nsIn K mainGlobals "_law_take" = some (some (.ref f8))) (l8 : K.lookup f8 = some ⟨oc8, od8, .func (PySem.W.fnOf "_law_take" "_law_take" (defArgs s_l_take) (defBody s_l_take) (defScope s_l_take) .none kV8 dc8 pm8 an8 cd8 ct8), sl8⟩) (c8 : PySem.W.codeIn K cd8 "_law_take" = true) (k8 : PySem.W.keepIn K (.ref f8) = true)
    (a9 : PySem.W.nsIn K mainGlobals "_law_cell" = some (some (.ref f9))) (l9 : K.lookup f9 = some ⟨oc9, od9, .func (PySem.W.fnOf "_law_cell" "_law_cell" (defArgs s_l_cell) (defBody s_l_cell) (defScope s_l_cell) .none kV9 dc9 pm9 an9 cd9 ct9), sl9⟩) (c9 : PySem.W.codeIn K cd9 "_law_cell" = true) (k9 : PySem.W.keepIn K (.ref f9) = true)
    (a10 : PySem.W.nsIn K mainGlobals "_law_word" = some (some (.ref f10))) (l10 : K.lookup f10 = some ⟨oc10, od10, .func (PySem.W.fnOf "_law_word" "_law_word" (defArgs s_l_word) (defBody s_l_word) (defScope s_l_word) .none kV10 dc10 pm10 an10 cd10 ct10), sl10⟩) (c10 : PySem.W.codeIn K cd10 "_law_word" = true) (k10 : PySem.W.keepIn K (.ref f10) = true)
    (a11 : PySem.W.nsIn K mainGlobals "_law_some_word" = some (some (.ref f11))) (l11 : K.lookup f11 = some ⟨oc11, od11, .func (PySem.W.fnOf "_law_some_word" "_law_some_word" (defArgs s_l_some_word) (defBody s_l_some_word) (defScope s_l_some_word) .none kV11 dc11 pm11 an11 cd11 ct11), sl11⟩) (c11 : PySem.W.codeIn K cd11 "_law_some_word" = true) (k11 : PySem.W.keepIn K (.ref f11) = true)
    (a12 : PySem.W.nsIn K mainGlobals "_law_is_truth" = some (some (.ref f12))) (l12 : K.lookup f12 = some ⟨oc12, od12, .func (PySem.W.fnOf "_law_is_truth" "_law_is_truth" (defArgs s_l_is_truth) (defBody s_l_is_truth) (defScope s_l_is_truth) .none kV12 dc12 pm12 an12 cd12 ct12), sl12⟩) (c12 : PySem.W.codeIn K cd12 "_law_is_truth" = true) (k12 : PySem.W.keepIn K (.ref f12) = true)
    (a13 : PySem.W.nsIn K mainGlobals "_law_reading" = some (some (.ref f13))) (l13 : K.lookup f13 = some ⟨oc13, od13, .func (PySem.W.fnOf "_law_reading" "_law_reading" (defArgs s_l_reading) (defBody s_l_reading) (defScope s_l_reading) .none kV13 dc13 pm13 an13 cd13 ct13), sl13⟩) (c13 : PySem.W.codeIn K cd13 "_law_reading" = true) (k13 : PySem.W.keepIn K (.ref f13) = true)
    (a14 : PySem.W.nsIn K mainGlobals "_law_plan" = some (some (.ref f14))) (l14 : K.lookup f14 = some ⟨oc14, od14, .func (PySem.W.fnOf "_law_plan" "_law_plan" (defArgs s_l_plan) (defBody s_l_plan) (defScope s_l_plan) .none kV14 dc14 pm14 an14 cd14 ct14), sl14⟩) (c14 : PySem.W.codeIn K cd14 "_law_plan" = true) (k14 : PySem.W.keepIn K (.ref f14) = true)
    (a15 : PySem.W.nsIn K mainGlobals "_law_versions" = some (some (.ref f15))) (l15 : K.lookup f15 = some ⟨oc15, od15, .func (PySem.W.fnOf "_law_versions" "_law_versions" (defArgs s_l_versions) (defBody s_l_versions) (defScope s_l_versions) .none kV15 dc15 pm15 an15 cd15 ct15), sl15⟩) (c15 : PySem.W.codeIn K cd15 "_law_versions" = true) (k15 : PySem.W.keepIn K (.ref f15) = true)
    (a16 : PySem.W.nsIn K mainGlobals "_law_slots" = some (some (.ref f16))) (l16 : K.lookup f16 = some ⟨oc16, od16, .func (PySem.W.fnOf "_law_slots" "_law_slots" (defArgs s_l_slots) (defBody s_l_slots) (defScope s_l_slots) .none kV16 dc16 pm16 an16 cd16 ct16), sl16⟩) (c16 : PySem.W.codeIn K cd16 "_law_slots" = true) (k16 : PySem.W.keepIn K (.ref f16) = true)
    (a17 : PySem.W.nsIn K mainGlobals "_law_history" = some (some (.ref f17))) (l17 : K.lookup f17 = some ⟨oc17, od17, .func (PySem.W.fnOf "_law_history" "_law_history" (defArgs s_l_history) (defBody s_l_history) (defScope s_l_history) .none kV17 dc17 pm17 an17 cd17 ct17), sl17⟩) (c17 : PySem.W.codeIn K cd17 "_law_history" = true) (k17 : PySem.W.keepIn K (.ref f17) = true)
    (a18 : PySem.W.nsIn K mainGlobals "_law_other_log" = some (some (.ref f18))) (l18 : K.lookup f18 = some ⟨oc18, od18, .func (PySem.W.fnOf "_law_other_log" "_law_other_log" (defArgs s_l_other_log) (defBody s_l_other_log) (defScope s_l_other_log) .none kV18 dc18 pm18 an18 cd18 ct18), sl18⟩) (c18 : PySem.W.codeIn K cd18 "_law_other_log" = true) (k18 : PySem.W.keepIn K (.ref f18) = true)
    (a19 : PySem.W.nsIn K mainGlobals "_law_full" = some (some (.ref f19))) (l19 : K.lookup f19 = some ⟨oc19, od19, .func (PySem.W.fnOf "_law_full" "_law_full" (defArgs s_l_full) (defBody s_l_full) (defScope s_l_full) .none kV19 dc19 pm19 an19 cd19 ct19), sl19⟩) (c19 : PySem.W.codeIn K cd19 "_law_full" = true) (k19 : PySem.W.keepIn K (.ref f19) = true)
    (a20 : PySem.W.nsIn K mainGlobals "_law_same_logs" = some (some (.ref f20))) (l20 : K.lookup f20 = some ⟨oc20, od20, .func (PySem.W.fnOf "_law_same_logs" "_law_same_logs" (defArgs s_l_same_logs) (defBody s_l_same_logs) (defScope s_l_same_logs) .none kV20 dc20 pm20 an20 cd20 ct20), sl20⟩) (c20 : PySem.W.codeIn K cd20 "_law_same_logs" = true) (k20 : PySem.W.keepIn K (.ref f20) = true)
    (a21 : PySem.W.nsIn K mainGlobals "law" = some (some (.ref f21))) (l21 : K.lookup f21 = some ⟨oc21, od21, .func (PySem.W.fnOf "law" "law" (defArgs s_law) (defBody s_law) (defScope s_law) .none kV21 dc21 pm21 an21 cd21 ct21), sl21⟩) (c21 : PySem.W.codeIn K cd21 "law" = true) (k21 : PySem.W.keepIn K (.ref f21) = true)
    (z22 : PySem.W.nsIn K mainGlobals "abs" = some none)
    (z23 : PySem.W.nsIn K mainGlobals "all" = some none)
    (z24 : PySem.W.nsIn K mainGlobals "bool" = some none)
    (z25 : PySem.W.nsIn K mainGlobals "enumerate" = some none)
    (z26 : PySem.W.nsIn K mainGlobals "int" = some none)
    (z27 : PySem.W.nsIn K mainGlobals "isinstance" = some none)
    (z28 : PySem.W.nsIn K mainGlobals "len" = some none)
    (z29 : PySem.W.nsIn K mainGlobals "list" = some none)
    (z30 : PySem.W.nsIn K mainGlobals "max" = some none)
    (z31 : PySem.W.nsIn K mainGlobals "range" = some none)
    (z32 : PySem.W.nsIn K mainGlobals "set" = some none)
    (z33 : PySem.W.nsIn K mainGlobals "sorted" = some none)
    (z34 : PySem.W.nsIn K mainGlobals "sum" = some none)
    (z35 : PySem.W.nsIn K mainGlobals "tuple" = some none) :
    ∃ fd : FuncData, (∀ (s : Shared) (v : Value), BindsTo s fd ⟨[v], []⟩ [("script", v)]) ∧ ∀ base : Heap, K.In base → base.Ns mainGlobals mg →  FnOk l.prog w K mg base CX0 6 fa fd ["script"] (sp_law K) := by
  have e := hfa.symm.trans (PySem.W.mg_of X G a21)
  cases e
  have F1 := fun_mk (st := s_is_true) l1 c1 k1
  have B1 := F1.binds (ps := ["letter", "history"]) (fun _ _ _ _ _ _ us hl => match us, hl with | [_, _], _ => rfl)
  have F2 := fun_mk (st := s_log_of) l2 c2 k2
  have B2 := F2.binds (ps := ["history", "name"]) (fun _ _ _ _ _ _ us hl => match us, hl with | [_, _], _ => rfl)
  have F3 := fun_mk (st := s_is_read_true) l3 c3 k3
  have B3 := F3.binds (ps := ["slots", "slot", "version", "stamp", "value"]) (fun _ _ _ _ _ _ us hl => match us, hl with | [_, _, _, _, _], _ => rfl)
  have F4 := fun_mk (st := s_is_close_true) l4 c4 k4
  have B4 := F4.binds (ps := ["slots", "many", "stamp", "versions"]) (fun _ _ _ _ _ _ us hl => match us, hl with | [_, _, _, _], _ => rfl)
  have F5 := fun_mk (st := s_agrees) l5 c5 k5
  have B5 := F5.binds (ps := ["history", "letters"]) (fun _ _ _ _ _ _ us hl => match us, hl with | [_, _], _ => rfl)
  have F6 := fun_mk (st := s_reads_of) l6 c6 k6
  have B6 := F6.binds (ps := ["history"]) (fun _ _ _ _ _ _ us hl => match us, hl with | [_], _ => rfl)
  have F7 := fun_mk (st := s_l_draws) l7 c7 k7
  have B7 := F7.binds (ps := ["script", "many"]) (fun _ _ _ _ _ _ us hl => match us, hl with | [_, _], _ => rfl)
  have F8 := fun_mk (st := s_l_take) l8 c8 k8
  have B8 := F8.binds (ps := ["draws", "many"]) (fun _ _ _ _ _ _ us hl => match us, hl with | [_, _], _ => rfl)
  have F9 := fun_mk (st := s_l_cell) l9 c9 k9
  have B9 := F9.binds (ps := ["script", "draws"]) (fun _ _ _ _ _ _ us hl => match us, hl with | [_, _], _ => rfl)
  have F10 := fun_mk (st := s_l_word) l10 c10 k10
  have B10 := F10.binds (ps := ["number"]) (fun _ _ _ _ _ _ us hl => match us, hl with | [_], _ => rfl)
  have F11 := fun_mk (st := s_l_some_word) l11 c11 k11
  have B11 := F11.binds (ps := ["draws"]) (fun _ _ _ _ _ _ us hl => match us, hl with | [_], _ => rfl)
  have F12 := fun_mk (st := s_l_is_truth) l12 c12 k12
  have B12 := F12.binds (ps := ["actual", "due"]) (fun _ _ _ _ _ _ us hl => match us, hl with | [_, _], _ => rfl)
  have F13 := fun_mk (st := s_l_reading) l13 c13 k13
  have B13 := F13.binds (ps := ["draws", "meter"]) (fun _ _ _ _ _ _ us hl => match us, hl with | [_, _], _ => rfl)
  have F14 := fun_mk (st := s_l_plan) l14 c14 k14
  have B14 := F14.binds (ps := ["draws", "cell"]) (fun _ _ _ _ _ _ us hl => match us, hl with | [_, _], _ => rfl)
  have F15 := fun_mk (st := s_l_versions) l15 c15 k15
  have B15 := F15.binds (ps := ["draws", "meter"]) (fun _ _ _ _ _ _ us hl => match us, hl with | [_, _], _ => rfl)
  have F16 := fun_mk (st := s_l_slots) l16 c16 k16
  have B16 := F16.binds (ps := ["draws", "meter", "most", "cell"]) (fun _ _ _ _ _ _ us hl => match us, hl with | [_, _, _, _], _ => rfl)
  have F17 := fun_mk (st := s_l_history) l17 c17 k17
  have B17 := F17.binds (ps := ["draws", "plan", "most", "cell"]) (fun _ _ _ _ _ _ us hl => match us, hl with | [_, _, _, _], _ => rfl)
  have F18 := fun_mk (st := s_l_other_log) l18 c18 k18
  have B18 := F18.binds (ps := ["draws", "meter", "log"]) (fun _ _ _ _ _ _ us hl => match us, hl with | [_, _, _], _ => rfl)
  have F19 := fun_mk (st := s_l_full) l19 c19 k19
  have B19 := F19.binds (ps := ["draws", "history"]) (fun _ _ _ _ _ _ us hl => match us, hl with | [_, _], _ => rfl)
  have F20 := fun_mk (st := s_l_same_logs) l20 c20 k20
  have B20 := F20.binds (ps := ["history", "other", "stamps"]) (fun _ _ _ _ _ _ us hl => match us, hl with | [_, _, _], _ => rfl)
  have F21 := fun_mk (st := s_law) l21 c21 k21
  have B21 := F21.binds (ps := ["script"]) (fun _ _ _ _ _ _ us hl => match us, hl with | [_], _ => rfl)
  let T : Ctx K mg := { f_is_true := f1, fd_is_true := _, F_is_true := F1, b_is_true := B1, g_is_true := PySem.W.mg_of X G a1, f_log_of := f2, fd_log_of := _, F_log_of := F2, b_log_of := B2, g_log_of := PySem.W.mg_of X G a2, f_is_read_true := f3, fd_is_read_true := _, F_is_read_true := F3, b_is_read_true := B3, g_is_read_true := PySem.W.mg_of X G a3, f_is_close_true := f4, fd_is_close_true := _, F_is_close_true := F4, b_is_close_true := B4, g_is_close_true := PySem.W.mg_of X G a4, f_agrees := f5, fd_agrees := _, F_agrees := F5, b_agrees := B5, g_agrees := PySem.W.mg_of X G a5, f_reads_of := f6, fd_reads_of := _, F_reads_of := F6, b_reads_of := B6, g_reads_of := PySem.W.mg_of X G a6, f_l_draws := f7, fd_l_draws := _, F_l_draws := F7, b_l_draws := B7, g_l_draws := PySem.W.mg_of X G a7, f_l_take := f8, fd_l_take := _, F_l_take := F8, b_l_take := B8, g_l_take := PySem.W.mg_of X G a8, f_l_cell := f9, fd_l_cell := _, F_l_cell := F9, b_l_cell := B9, g_l_cell := PySem.W.mg_of X G a9, f_l_word := f10, fd_l_word := _, F_l_word := F10, b_l_word := B10, g_l_word := PySem.W.mg_of X G a10, f_l_some_word := f11, fd_l_some_word := _, F_l_some_word := F11, b_l_some_word := B11, g_l_some_word := PySem.W.mg_of X G a11, f_l_is_truth := f12, fd_l_is_truth := _, F_l_is_truth := F12, b_l_is_truth := B12, g_l_is_truth := PySem.W.mg_of X G a12, f_l_reading := f13, fd_l_reading := _, F_l_reading := F13, b_l_reading := B13, g_l_reading := PySem.W.mg_of X G a13, f_l_plan := f14, fd_l_plan := _, F_l_plan := F14, b_l_plan := B14, g_l_plan := PySem.W.mg_of X G a14, f_l_versions := f15, fd_l_versions := _, F_l_versions := F15, b_l_versions := B15, g_l_versions := PySem.W.mg_of X G a15, f_l_slots := f16, fd_l_slots := _, F_l_slots := F16, b_l_slots := B16, g_l_slots := PySem.W.mg_of X G a16, f_l_history := f17, fd_l_history := _, F_l_history := F17, b_l_history := B17, g_l_history := PySem.W.mg_of X G a17, f_l_other_log := f18, fd_l_other_log := _, F_l_other_log := F18, b_l_other_log := B18, g_l_other_log := PySem.W.mg_of X G a18, f_l_full := f19, fd_l_full := _, F_l_full := F19, b_l_full := B19, g_l_full := PySem.W.mg_of X G a19, f_l_same_logs := f20, fd_l_same_logs := _, F_l_same_logs := F20, b_l_same_logs := B20, g_l_same_logs := PySem.W.mg_of X G a20, f_law := fa, fd_law := _, F_law := F21, b_law := B21, g_law := PySem.W.mg_of X G a21, m_abs := PySem.W.mg_none_of X G z22, m_all := PySem.W.mg_none_of X G z23, m_bool := PySem.W.mg_none_of X G z24, m_enumerate := PySem.W.mg_none_of X G z25, m_int := PySem.W.mg_none_of X G z26, m_isinstance := PySem.W.mg_none_of X G z27, m_len := PySem.W.mg_none_of X G z28, m_list := PySem.W.mg_none_of X G z29, m_max := PySem.W.mg_none_of X G z30, m_range := PySem.W.mg_none_of X G z31, m_set := PySem.W.mg_none_of X G z32, m_sorted := PySem.W.mg_none_of X G z33, m_sum := PySem.W.mg_none_of X G z34, m_tuple := PySem.W.mg_none_of X G z35 }
  exact ⟨PySem.W.fnOf "law" "law" (defArgs s_law) (defBody s_law) (defScope s_law) .none kV21 dc21 pm21 an21 cd21 ct21, fun s v => .of_eq rfl, fun base _ _  => ok_law T ⟩
end Tw
open PySem PySem.W PyProof.Rows
set_option maxHeartbeats 0 in
theorem PySem.Challenge.cw_toldwhensure_k15_whole_full_bags_tell_lo_holds : PySem.Challenge.rw_toldwhensure_k15_whole_full_bags_tell_lo.Holds := by
  w_on; o_law; k_head; (case hw => w_witness2)
  k_fill
  refine L2.walk_of (l := PySem.Challenge.rw_toldwhensure_k15_whole_full_bags_tell_lo) (n := 63) (k := 6) (x := "script") (CX := fun _ => L2.CX0) (sp := fun w => Tw.sp_law _) rfl (by decide) rfl ⟨rfl, by decide, by decide⟩ (fun w h Y => PySem.W.kIn_of Y) ?F
    (fun _ _ a ns hl _ hS => ⟨a, ns, rfl, hS, hl, fun _ => rfl⟩) (fun _ _ _ _ _ h => h)
  case F =>
    intro w mg fa h KX G hmg
    refine' Tw.all_mk KX G hmg  ?a1 ?l1 ?c1 ?k1 ?a2 ?l2 ?c2 ?k2 ?a3 ?l3 ?c3 ?k3 ?a4 ?l4 ?c4 ?k4 ?a5 ?l5 ?c5 ?k5 ?a6 ?l6 ?c6 ?k6 ?a7 ?l7 ?c7 ?k7 ?a8 ?l8 ?c8 ?k8 ?a9 ?l9 ?c9 ?k9 ?a10 ?l10 ?c10 ?k10 ?a11 ?l11 ?c11 ?k11 ?a12 ?l12 ?c12 ?k12 ?a13 ?l13 ?c13 ?k13 ?a14 ?l14 ?c14 ?k14 ?a15 ?l15 ?c15 ?k15 ?a16 ?l16 ?c16 ?k16 ?a17 ?l17 ?c17 ?k17 ?a18 ?l18 ?c18 ?k18 ?a19 ?l19 ?c19 ?k19 ?a20 ?l20 ?c20 ?k20 ?a21 ?l21 ?c21 ?k21 ?z22 ?z23 ?z24 ?z25 ?z26 ?z27 ?z28 ?z29 ?z30 ?z31 ?z32 ?z33 ?z34 ?z35
    (case a1 => k_is); (case l1 => k_is); (case c1 => k_is); (case k1 => k_is); (case a2 => k_is); (case l2 => k_is); (case c2 => k_is); (case k2 => k_is); (case a3 => k_is); (case l3 => k_is); (case c3 => k_is); (case k3 => k_is); (case a4 => k_is); (case l4 => k_is); (case c4 => k_is); (case k4 => k_is); (case a5 => k_is); (case l5 => k_is); (case c5 => k_is); (case k5 => k_is); (case a6 => k_is); (case l6 => k_is); (case c6 => k_is); (case k6 => k_is); (case a7 => k_is); (case l7 => k_is); (case c7 => k_is); (case k7 => k_is); (case a8 => k_is); (case l8 => k_is); (case c8 => k_is); (case k8 => k_is); (case a9 => k_is); (case l9 => k_is); (case c9 => k_is); (case k9 => k_is); (case a10 => k_is); (case l10 => k_is); (case c10 => k_is); (case k10 => k_is); (case a11 => k_is); (case l11 => k_is); (case c11 => k_is); (case k11 => k_is); (case a12 => k_is); (case l12 => k_is); (case c12 => k_is); (case k12 => k_is); (case a13 => k_is); (case l13 => k_is); (case c13 => k_is); (case k13 => k_is); (case a14 => k_is); (case l14 => k_is); (case c14 => k_is); (case k14 => k_is); (case a15 => k_is); (case l15 => k_is); (case c15 => k_is); (case k15 => k_is); (case a16 => k_is); (case l16 => k_is); (case c16 => k_is); (case k16 => k_is); (case a17 => k_is); (case l17 => k_is); (case c17 => k_is); (case k17 => k_is); (case a18 => k_is); (case l18 => k_is); (case c18 => k_is); (case k18 => k_is); (case a19 => k_is); (case l19 => k_is); (case c19 => k_is); (case k19 => k_is); (case a20 => k_is); (case l20 => k_is); (case c20 => k_is); (case k20 => k_is); (case a21 => k_is); (case l21 => k_is); (case c21 => k_is); (case k21 => k_is); (case z22 => k_is); (case z23 => k_is); (case z24 => k_is); (case z25 => k_is); (case z26 => k_is); (case z27 => k_is); (case z28 => k_is); (case z29 => k_is); (case z30 => k_is); (case z31 => k_is); (case z32 => k_is); (case z33 => k_is); (case z34 => k_is); (case z35 => k_is)
