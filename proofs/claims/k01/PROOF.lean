import PyProof.Rows.All
import Wide.All
import OpenK.AllK
import Wide.FinOn
import PyProof.Rows.ReprOcc
import HandS.ForMost
import HandS.Wide
import HandS.WideBits
import HandS.TupAny
import HandS.IsInst
import HandS.SetFor
import HandS.SetTxt0
import HandS.Strs
import HandS.More
import HandS.EndBits
import HandS.Zip
import HandS.FStr
import HandS.Walk
import HandS.Star
import HandS.TryOnly
import HandS.Exc
import HandS.StrMore
import HandS.Sort
import KE.GoesEnumKw
import HandS.ForExc
import HandS.ExcCtx
import HandS.ExcIs
import HandS.ExcOwn
import HandS.Hot
import HandS.HotCalls
import HandS.Comp
import HandS.TryMany
import HandS.WordsExc
import HandS.TupLe
import PyProof.Rows.StrMeet
import PySem.Challenge.RW_toldwhensure_k01_right_plans
set_option Elab.async false
set_option linter.all false
set_option maxRecDepth 100000
/-! sets of texts: set(list of texts), sorted(such a set). The members are told as a list without duplicates. -/
namespace Tset
open PySem PySem.Spec PyProof.Rows L2 PySem.Froz
/-- the payload D has the texts l, can be walked and can be read in order -/
structure Pay (P : Program) (w : World) (D : SD) (l : List Str) : Prop where
  tx : TxOk P w D l
  ris : Ris D.2.2.place.toList
  led : w.params.followText "set-order" = true ∨ D.2.2.led = true
  nd : l.Nodup
def Holds (P : Program) (w : World) (h : Heap) (a : Addr) (l : List Str) : Prop := ∃ D : SD, h.get? a = some (sObj "set" D) ∧ Pay P w D l
section
variable {P : Program} {w : World} {A : Around} {E : Value → Shared → Prop} {s : Shared}
theorem Holds.kept {h h' : Heap} {a : Addr} {l : List Str} (x : Holds P w h a l) (k : ∀ o, h.get? a = some o → h'.get? a = some o) : Holds P w h' a l :=
  let ⟨D, e, r⟩ := x
  ⟨D, k _ e, r⟩
theorem Pay.tail {es : Array (Int × Value)} {t : SetTable} {l : List Str} (ep : Nat) (dm : Bool) (tx : TxOk P w (tailTx ep es t dm) l) (nd : l.Nodup) (r : Ris t.place.toList) (g : w.params.followText "set-order" = true ∨ t.led = true) :
    Pay P w (tailTx ep es t dm) l := by
  refine ⟨tx, ?_, ?_, nd⟩ <;> unfold tailTx <;> split
  · exact relayAll_ris _ _ _
  · exact r
  · rcases g with g | g
    · exact .inl g
    · exact .inr ((relayAll_led _ _ _).trans g)
  · exact g
theorem Pay.add {D : SD} {l : List Str} {k : Str} (u : Tok) (x : Pay P w D l) (hk : k ∉ l) : Pay P w (addTx (hashStr w k) (.str k u) D) (k :: l) := by
  have tx := add_ok (k := k) u x.tx
  unfold addTx at tx ⊢
  have r1 := layNew_ris D.2.2 D.1 (hashStr w k) (.str k u) x.ris
  have l1 := layNew_led D.2.2 D.1 (hashStr w k) (.str k u)
  refine Pay.tail _ _ tx (List.nodup_cons.mpr ⟨hk, x.nd⟩) ?_ ?_
  · split <;> exact r1
  · rcases x.led with g | g
    · exact .inl g
    · right
      split
      · exact l1.trans g
      · exact l1.trans g
/-- a text that is there already is not added -/
theorem add_there {a : Addr} {D : SD} {l : List Str} {k : Str} {u : Tok} {Q : Bool → Shared → Prop} (ho : s.heap.get? a = some (sObj "set" D)) (x : TxOk P w D l) (hk : k ∈ l) (hb : l.length < scanBound) (q : Q false s) :
    wpAny (model P w) A (setAddHashed a (.str k u) (hashStr w k)) Q E s := by
  obtain ⟨es, ep, t⟩ := D
  have hy : (strKind P w).is k (.str k u) = true := is_str k u
  have hsz : es.size = l.length := x.sz
  have fits : t.fits es.size = true := x.fit
  have elems : ElemsOf (strKind P w) es.toList := x.el
  have few : es.size < scanBound := by rw [hsz]; exact hb
  obtain ⟨e, he, hz⟩ := (x.mem k).mp hk
  unfold setAddHashed setAddHashedIn
  refine wpAny_holding (wpAny_bind (wpAny_setState_of ho rfl fits ?_))
  dsimp only
  rw [byScan_of rfl few elems]
  simp only [↓reduceIte]
  unfold setAddByScan
  refine wpAny_bind (wpAny_bind (wpAny_rule ?_))
  refine wpAny_bind (wpAny_setScan_of (knd := strKind P w) (k := k) hy ho rfl fits elems ?_)
  cases hf : List.findIdx? (fun e => (strKind P w).is k e.2) es.toList with
  | some j => exact wpAny_pure (wpAny_pure q)
  | none =>
    have no := List.findIdx?_eq_none_iff.mp hf e he
    rw [hz] at no
    cases no
/-- one text more: it is there behind it -/
theorem add_one {a : Addr} {l : List Str} {k : Str} {u : Tok} {Q : Bool → Shared → Prop} (x : Holds P w s.heap a l) (hb : l.length + 1 < scanBound)
    (q : ∀ b h' l', Heap.SameBut a s.heap h' → Holds P w h' a l' → (∀ z, z ∈ l' ↔ z = k ∨ z ∈ l) → l'.length ≤ l.length + 1 → Q b { s with heap := h' }) :
    wpAny (model P w) A (setAddHashed a (.str k u) (hashStr w k)) Q E s := by
  obtain ⟨D, ho, p⟩ := x
  by_cases hk : k ∈ l
  · exact add_there ho p.tx hk (by omega) (q false s.heap l (Heap.SameBut.refl a s.heap) ⟨D, ho, p⟩ (fun z => ⟨.inr, fun h => h.elim (fun e => e ▸ hk) id⟩) (by omega))
  · refine add_x ho p.tx hk hb (q true _ (k :: l) (Heap.SameBut.update s.heap a _) ⟨_, get_upd _ ho rfl, p.add u hk⟩ (fun z => List.mem_cons) (by simp))
/-- the fresh set -/
theorem fresh {h : Heap} {a : Addr} (ho : h.get? a = some { cls := .type "set", dict := none, data := .set #[] 0 (.fresh 0 0 (!w.params.followText "set-order")) }) : Holds P w h a [] := by
  refine ⟨(#[], 0, .fresh 0 0 (!w.params.followText "set-order")), ho, TxOk.nil rfl, List.Pairwise.nil, ?_, List.nodup_nil⟩
  show _ ∨ (!w.params.followText "set-order") = true
  cases w.params.followText "set-order"
  · exact .inr rfl
  · exact .inl rfl
/-- the loop that puts the items in -/
theorem fill {I S : Addr} {fp wr : List Addr} {G : Array GenState → Array GenState → Prop} {n : Nat} {Pv : Nat → Value → Prop} {Sx : Nat → Shared → Prop} {R : Result → Shared → Prop} (W : WalksS P w A.in1 I fp wr G n Pv Sx)
    (nS : S ∉ fp) (ks : List Str) (hn : n = ks.length) (hb : ks.length + 1 < scanBound) (val : ∀ i v, Pv i v → ∃ k t, ks[i]? = some k ∧ v = .str k t) :
    ∀ (left i : Nat) (s : Shared), n - i = left → i ≤ n → Sx i s → (∃ l, Holds P w s.heap S l ∧ (∀ z, z ∈ l ↔ z ∈ ks.take i) ∧ l.length ≤ i) →
      (∀ s' l, Moved (S :: wr) G s s' → Holds P w s'.heap S l → (∀ z, z ∈ l ↔ z ∈ ks) → l.length ≤ n → R (.ok (.ret .none)) s') → codeAny (model P w) A (.builtin "set.update.loop" ⟨[.ref S, .ref I], []⟩) R s := by
  have nSw : S ∉ wr := fun z => nS (W.sub _ z)
  have up : ∀ b ∈ wr, b ∈ S :: wr := fun b z => List.mem_cons_of_mem _ z
  intro left
  induction left with
  | zero =>
    intro i s e hi st ⟨l, hl, hm, hll⟩ hR
    obtain rfl : i = n := by omega
    refine codeAny_builtin F.entry_set_update_loop ?_
    rw [Around.under_plainId F.plain_set_update_loop _]
    refine wpAny_bind (m := pyNext (.ref I)) (W.done s _ _ st fun s' mv => ?_)
    rw [List.take_of_length_le (by omega)] at hm
    exact wpAny_pure (hR s' l (mv.mono up) (hl.kept fun o z => mv.heap S o nSw z) hm hll)
  | succ left ih =>
    intro i s e hi st ⟨l, hl, hm, hll⟩ hR
    have lt : i < n := by omega
    refine codeAny_builtin F.entry_set_update_loop ?_
    rw [Around.under_plainId F.plain_set_update_loop _]
    refine wpAny_bind (m := pyNext (.ref I)) (W.item i s _ _ lt st fun v s1 hv st1 mv => ?_)
    obtain ⟨k, t, hk, rfl⟩ := val i v hv
    refine wpAny_bind (m := holding [Value.str k t] (setAdd S (.str k t))) (wpAny_holding ?_)
    unfold setAdd
    refine wpAny_holding (wpAny_bind ((strKind P w).pyHash (is_str k t) ?_))
    refine add_one (s := { s1 with toks := s1.toks + 1 }) (l := l) (hl.kept fun o z => mv.heap S o nSw z) (by omega) fun b h2 l2 sb hl2 hm2 hll2 => ?_
    refine wpAny_pure ⟨plainId_quiet F.plain_set_update_loop _, ih (i + 1) _ (by omega) lt (W.frame _ s1 _ _ st1 (Nat.le_succ _) fun b hb o z => ?_) ⟨l2, hl2, fun z => ?_, by omega⟩ fun s3 l3 mv3 hl3 hm3 hll3 => ?_⟩
    · rw [sb.2 b fun x => nS (x ▸ hb)]
      exact z
    · rw [hm2, hm, List.take_add_one, hk]
      simp only [Option.toList_some, List.mem_append, List.mem_singleton]
      exact Or.comm
    · refine hR s3 l3 (Moved.trans W.gtrans ((mv.mono up).then_heap (Nat.le_succ _) fun b o hb z => ?_) mv3) hl3 hm3 hll3
      rw [sb.2 b fun x => hb (x ▸ List.mem_cons_self)]
      exact z
theorem at_text : ∀ {us : List Value} {ks : List Str}, StrsAre us ks → ∀ (i : Nat) (v : Value), us[i]? = some v → ∃ k t, ks[i]? = some k ∧ v = .str k t
  | _, _, .nil, i, v, h => by simp at h
  | _, _, .cons k t r, 0, v, h => ⟨k, t, rfl, (Option.some.inj h).symm⟩
  | _, _, .cons k t r, i + 1, v, h => at_text r i v h
set_option maxHeartbeats 3200000 in
theorem made {l : Addr} {items : Array Value} (ks : List Str) {Q : Value → Shared → Prop} (hh : A.handled = none) (hl : s.heap.IsList l items) (hit : StrsAre items.toList ks) (hb : ks.length + 1 < scanBound)
    (q : ∀ (h' : Heap) (tk : Nat) (ls : List Str), Holds P w h' s.heap.objs.size ls → (∀ z, z ∈ ls ↔ z ∈ ks) → ls.length ≤ ks.length → (∀ b o, s.heap.get? b = some o → h'.get? b = some o) → Q (.ref s.heap.objs.size) { s with heap := h', toks := tk }) :
    wpAny (model P w) A (call (.type "set") [.ref l]) Q E s := by
  have sz : items.size = ks.length := by rw [← Array.length_toList]; exact StrsAre.length hit
  obtain ⟨_, _, hmro⟩ := F.called_set.mro
  have hmade := F.called_set.made
  have hsub := F.called_set.sub
  have h1 := F.called_set.notType
  have h2 := F.called_set.canCreate
  have h3 := F.typeCall_set_1 (.ref l)
  refine wpAny_call (codeAny_of_tree ?_)
  show wpAny _ _ (callAny (.type "set") _) _ _ _
  refine wpAny_pure ⟨Code.quiet_builtin _ (by decide +kernel), codeAny_builtin F.entry_type_call ?_⟩
  rw [Around.under_plain (weight_type_call_type "set" [.ref l] []) rfl]
  repeat (any_goals (first | assumption | wp_step))
  generalize eo : ({ cls := .type "set", dict := none, data := .set #[] 0 (.fresh 0 0 (!w.params.followText "set-order")) } : Obj) = ob
  refine codeAny_mono (code_set_led1 (.ref l) (E := E) (Q₁ := fun r s' => r = .ref s.heap.objs.size ∧ s' = { s with heap := s.heap.push ob }) (by subst eo; exact ⟨rfl, rfl⟩)) fun r s' hr => ?_
  rcases r with e | fl
  · exact hr
  cases fl with
  | ret r =>
    obtain ⟨rfl, rfl⟩ := hr
    have at0 : (s.heap.push ob).get? s.heap.objs.size = some ob := Heap.get?_push_size _ (by subst eo; rfl)
    have ty0 : Shared.TypeIs { s with heap := s.heap.push ob } (.ref s.heap.objs.size) "set" := ⟨ob, at0, by subst eo; rfl⟩
    have hli := F.called_set.init.lookup
    have hbi := F.called_set.init.bind (.ref s.heap.objs.size)
    repeat (any_goals (first | assumption | wp_step))
    refine codeAny_mono (codeAny_call_builtin (R := wants (fun r s2 => r = .none ∧ ∃ h' tk ls, s2 = { s with heap := h', toks := tk } ∧ Holds P w h' s.heap.objs.size ls ∧ (∀ z, z ∈ ls ↔ z ∈ ks) ∧ ls.length ≤ ks.length ∧ (∀ b o, s.heap.get? b = some o → h'.get? b = some o)) E)
      F.called_set.init.plain F.entry_set_init (check_set_init_1 ty0 ?_)) fun r s2 hr => ?_
    · obtain ⟨⟨oc, od, oD, os⟩, hol, hc, nl, hd⟩ := hl
      simp only at hc hd
      subst hc; subst hd
      have lst1 : (s.heap.push ob).IsList l items := ⟨_, Heap.get?_push_of_some _ hol, rfl, nl, rfl⟩
      have hol' := Heap.get?_push_of_some ob hol
      have neI : l ≠ (s.heap.push ob).objs.size := by
        rw [Heap.size_push]
        exact Nat.ne_of_lt (Nat.lt_succ_of_lt (Heap.lt_size hol))
      subst eo
      have a1 := F.sub_list_set
      have a2 := F.sub_list_frozenset
      have a3 : (Value.type "list" == Value.type "dict") = false := by decide
      unfold Builtin.«set.__init__» noKeywords Builtin.Frozenset.updateFrom
      generalize hPI : pyIter = PI
      wp_walk
      subst hPI
      refine wpAny_pyIter_list lst1 ?_
      refine wpAny_bind (wpAny_runValue ?_)
      have ltl : l < s.heap.objs.size := Heap.lt_size hol
      have hd3 : A.in1.in1.in1.handled = none := by simp [hh]
      have val : ∀ (i : Nat) (v : Value), items[i]? = some v → ∃ k t, ks[i]? = some k ∧ v = .str k t := fun i v hv => at_text hit i v (by rw [Array.getElem?_toList]; exact hv)
      refine fill ((Walks.list hd3 _ l neI items).toS) (S := s.heap.objs.size) ?nS ks sz hb val (items.size - 0) 0 _ (by omega) (Nat.zero_le _) ⟨⟨_, Heap.get?_push_size _ rfl, rfl, rfl⟩, (lst1.push _)⟩ ⟨[], ?f, by simp, Nat.le_refl 0⟩ ?R
      case nS =>
        rw [Heap.size_push]
        simp only [List.mem_cons, List.mem_singleton, List.not_mem_nil, or_false, not_or]
        exact ⟨Nat.ne_of_lt (Nat.lt_succ_self _), Nat.ne_of_gt ltl⟩
      case f =>
        have z := Heap.get?_push_of_some ({ cls := .type "list_iterator", data := .fields #[.ref l, .int 0 0] } : Obj) at0
        exact fresh z
      case R =>
        rintro ⟨h', g2, d2, t2, o2⟩ ls mv hH hm hll
        obtain rfl : g2 = s.gens := mv.gens
        obtain rfl : d2 = s.drawn := mv.drawn
        obtain rfl : o2 = s.os := mv.os
        show wpAny _ _ _ _ _ _
        refine wpAny_pure ?_
        show wpAny _ _ (ret Value.none) _ _ _
        refine wpAny_pure ⟨rfl, h', t2, ls, rfl, hH, hm, by rw [← sz]; exact hll, fun b o e => ?_⟩
        have b0 : b < s.heap.objs.size := Heap.lt_size e
        refine mv.heap b o ?_ (Heap.get?_push_of_some _ (Heap.get?_push_of_some _ e))
        simp only [List.mem_cons, List.mem_singleton, List.not_mem_nil, or_false, not_or]
        refine ⟨Nat.ne_of_lt b0, ?_⟩
        rw [Heap.size_push]
        exact Nat.ne_of_lt (Nat.lt_succ_of_lt b0)
    · rcases r with e | fl
      · exact hr
      cases fl with
      | ret r =>
        obtain ⟨rfl, h', tk, ls, rfl, hH, hm, hll, hk⟩ := hr
        repeat (any_goals (first | assumption | wp_step))
        exact q _ _ _ hH hm hll hk
      | _ => exact hr.elim
  | _ => exact hr.elim
/-- as many items as members, each member among them: the members in another order -/
theorem perm_of : ∀ (l ls : List Str), l.Nodup → (∀ z ∈ l, z ∈ ls) → ls.length ≤ l.length → ls.Perm l
  | [], ls, _, _, h => by
    have e : ls = [] := List.length_eq_zero_iff.mp (by simpa using h)
    rw [e]
  | x :: l, ls, nd, sub, h => by
    obtain ⟨nx, nd⟩ := List.nodup_cons.mp nd
    have hx : x ∈ ls := sub x List.mem_cons_self
    have p := List.perm_cons_erase hx
    have e1 : (ls.erase x).length ≤ l.length := by
      rw [List.length_erase_of_mem hx]
      simp only [List.length_cons] at h
      omega
    refine p.trans (List.Perm.cons x (perm_of l (ls.erase x) nd (fun z hz => ?_) e1))
    rcases List.mem_cons.mp (p.mem_iff.mp (sub z (List.mem_cons_of_mem _ hz))) with e | m
    · exact absurd (e ▸ hz) nx
    · exact m
theorem texts : ∀ (es : List (Int × Value)), ElemsOf (strKind P w) es → ∃ ls : List Str, StrsAre (es.map (·.2)) ls ∧ ∀ z, z ∈ ls ↔ ∃ e ∈ es, (strKind P w).is z e.2 = true
  | [], _ => ⟨[], .nil, fun z => by simp⟩
  | e :: es, h => by
    obtain ⟨ls, r, m⟩ := texts es fun x hx => h x (List.mem_cons_of_mem _ hx)
    obtain ⟨⟨k, hk, _⟩, _⟩ := h e List.mem_cons_self
    obtain ⟨t, ek⟩ := Value.isStrOf_shape (x := k) (v := e.2) hk
    refine ⟨k :: ls, ?_, fun z => ?_⟩
    · show StrsAre (e.2 :: es.map (·.2)) (k :: ls)
      rw [ek]
      exact .cons k t r
    · rw [List.mem_cons, m]
      constructor
      · rintro (rfl | ⟨x, hx, y⟩)
        · exact ⟨e, List.mem_cons_self, hk⟩
        · exact ⟨x, List.mem_cons_of_mem _ hx, y⟩
      · rintro ⟨x, hx, y⟩
        rcases List.mem_cons.mp hx with rfl | hx
        · exact .inl ((strKind P w).inj x.2 z k y hk)
        · exact .inr ⟨x, hx, y⟩
/-- the values of the payload, whatever their order, are the members, whatever theirs -/
theorem values {D : SD} {l : List Str} {vs : List Value} (p : Pay P w D l) (pm : vs.Perm (D.1.toList.map (·.2))) : ∃ ls : List Str, StrsAre vs ls ∧ ls.Perm l := by
  obtain ⟨l1, r1, m1⟩ := texts D.1.toList p.tx.el
  have e1 : l1.length = l.length := by rw [← StrsAre.length r1, List.length_map, Array.length_toList, p.tx.sz]
  have p1 : l1.Perm l := perm_of l l1 p.nd (fun z hz => (m1 z).mpr ((p.tx.mem z).mp hz)) (by omega)
  have all : ∀ v ∈ vs, ∃ x t, v = .str x t := fun v hv => r1.all v (pm.mem_iff.mp hv)
  refine ⟨vs.map strOf, strsAre_map vs all, ?_⟩
  have e2 := pm.map strOf
  rw [r1.strs] at e2
  exact e2.trans p1
/-- sorted(the set), fewer than 64 members -/
theorem inOrder {a : Addr} {l : List Str} {Q : Value → Shared → Prop} (x : Holds P w s.heap a l) (hh : A.handled = none) (few : l.length < 64)
    (q : ∀ s' p (out : Array Value) (c : Nat) (ls : List Str), (∀ b o, s.heap.get? b = some o → s'.heap.get? b = some o) → s'.gens = s.gens → s'.os = s.os → s.heap.objs.size ≤ p → s'.heap.get? p = some (seqObj "list" out c) →
      StrsAre out.toList ls → ls.Perm l → sortedS ls = true → Q (.ref p) s') : wpAny (model P w) A (call (.builtin "sorted") [.ref a]) Q E s := by
  obtain ⟨⟨es, ep, t⟩, ho, p⟩ := x
  have sz : es.size = l.length := p.tx.sz
  refine Calls.call_function_entry kind_sorted plain_sorted entry_sorted (args_sorted1 _) ?_
  unfold Builtin.«sorted»
  refine wpAny_bind (m := checkCount "sorted" 1 1 _) (wpAny_pure ?_)
  refine wpAny_bind (collect_set (A := A.in1) hh ⟨_, ho, rfl, rfl⟩ p.tx.fit (by show es.size < scanBound; unfold scanBound; omega) p.ris p.led fun s1 vs k1 z1 g1 o1 pm => ?_)
  obtain ⟨ls, r, pl⟩ := values p pm
  have hv : vs.length = l.length := by rw [StrsAre.length r, pl.length_eq]
  refine wpAny_bind (wpAny_newList ?_ (by rw [hv, sizeLine_eq]; omega))
  have at1 : (s1.heap.push (seqObj "list" vs.toArray 0)).get? s1.heap.objs.size = some (seqObj "list" vs.toArray 0) := Heap.get?_push_size _ rfl
  refine wpAny_bind (wpAny_holding (wpAny_call_entry slot_list_sort ⟨_, at1, rfl⟩ entry_list_sort
    (list_sort_treeK strKind_oneLt at1 r.keysOf (fun v1 v2 rest e => keyKind_strs (by rw [← e]; exact r)) (by rw [hv]; exact few) fun st' hp hs => ?_) (args_list_sort _)))
  obtain ⟨ys, b1, b2, b3⟩ := sorted_out_str r hp hs
  obtain ⟨c, hc⟩ := sortedHeap_at (vs := vs) (out := (arrOf st').map (·.2)) at1
  refine ⟨_, rfl, wpAny_pure ⟨_, rfl, q _ s1.heap.objs.size _ c ys (fun b u e => ?_) g1 o1 z1 hc b1 (b2.trans pl) b3⟩⟩
  have e1 := k1 b u e
  have lt := Heap.lt_size e1
  show (sortedHeap (s1.heap.push (seqObj "list" vs.toArray 0)) s1.heap.objs.size vs _).get? b = some u
  rw [sortedHeap_old (Nat.ne_of_lt lt) (by rw [size_push']; exact Nat.lt_succ_of_lt lt)]
  exact Heap.get?_push_of_some _ e1
end
/-- what stands at a: a set of the texts l -/
def SetS (P : Program) (w : World) (a : Addr) (l : List Str) : HO := .ext fun h => Holds P w h a l
section
variable {X : Cx}
def rSetOfS (K : PySem.W.Frag) (P : Program) (w : World) : List V → Hp → VK → Prop := fun xs H Q => ∃ (l : Addr) (ks : List Str), xs = [V.ref l] ∧ SqL K H l (ks.map V.str) ∧ ks.length ≤ 1000 ∧
  ∀ a ls, H a = none → (∀ z, z ∈ ls ↔ z ∈ ks) → ls.length ≤ ks.length → Q (.ref a) (upd H a (SetS P w a ls))
theorem cr_setOfS (hc : X.calm = true) : CallR X (.type "set") (rSetOfS X.K X.prog X.w) := by
  intro pins s σ H xs us Q I r h
  obtain ⟨l, ks, rfl, hl, hk, q⟩ := h
  rw [Vals.ref1 r]
  obtain ⟨its, rv, pl, hz⟩ := I.list hl
  have hn : H s.heap.objs.size = none := I.hok.fresh (Nat.le_refl _)
  refine made (P := X.prog) (w := X.w) ks (I.ok.hd hc) pl.isList (by simpa using rv.strs) (by unfold scanBound; omega) fun h' tk ls hh hm hl k => ?_
  have new : ObjOk X.prog X.w (upd H s.heap.objs.size (SetS X.prog X.w s.heap.objs.size ls)) h' s.heap.objs.size (SetS X.prog X.w s.heap.objs.size ls) :=
    ⟨hh, let ⟨_, e, _⟩ := hh; ⟨_, e⟩, fun h1 h2 x kk => x.kept kk⟩
  exact ⟨.ref s.heap.objs.size, upd H s.heap.objs.size (SetS X.prog X.w s.heap.objs.size ls), I.laid (t' := tk) k (Nat.le_refl _) new, rfl, q _ ls hn hm hl⟩
def rSortedS (P : Program) (w : World) : List V → Hp → VK → Prop := fun vs H Q => ∃ (a : Addr) (l : List Str), vs = [V.ref a] ∧ H a = some (SetS P w a l) ∧ l.length < 64 ∧
  ∀ (ls : List Str) (p : Addr), ls.Perm l → ls.Nodup → sortedS ls = true → H p = none → Q (.ref p) (upd H p (.lst (ls.map V.str)))
theorem cr_sortedSetS (hc : X.calm = true) : CallR X (.builtin "sorted") (rSortedS X.prog X.w) := by
  intro pins s σ H vs us Q I r h
  obtain ⟨a, l, rfl, ha, few, q⟩ := h
  have R : Holds X.prog X.w s.heap a l := (I.hok a _ ha).1
  have nd : l.Nodup := let ⟨_, _, p⟩ := R; p.nd
  rw [Vals.ref1 r]
  refine inOrder R (I.ok.hd hc) few fun s' p out c ls k g o hp hg hi pm so => ?_
  have hlen : (ls.map V.str).length ≤ sizeLine := by rw [List.length_map, pm.length_eq, sizeLine_eq]; omega
  have hn : H p = none := I.hok.fresh hp
  have J : Inv X pins σ (upd H p (.lst (ls.map V.str))) { s with heap := s'.heap, gens := s'.gens, drawn := s'.drawn, toks := s'.toks } :=
    I.call (ch := []) (Un.laid k hp hn) (I.hok.laid k hp ⟨hlen, out.toList, c, vals_of_strs hi, hg⟩) (by rw [g]; exact I.bare) (fun _ z => nomatch z)
  have e : s' = { s with heap := s'.heap, gens := s'.gens, drawn := s'.drawn, toks := s'.toks } := by
    cases s'
    cases s
    cases o
    rfl
  rw [e]
  exact ⟨.ref p, _, J, rfl, q ls p pm (pm.nodup_iff.mpr nd) so hn⟩
end
end Tset

namespace TX
open PySem PySem.Spec PyProof.Rows L2
variable {X : Cx}
theorem cut_whole {xs : List V} {lo hi : Option Int} (h : HT.sIx xs.length 0 lo = 0 ∧ HT.sIx xs.length xs.length hi = xs.length) : cutV xs lo hi = xs := by
  unfold cutV
  rw [h.1, h.2, List.drop_zero, Nat.sub_zero, List.take_length]
/-- t[lo:hi], whole or not -/
def rSlX (K : PySem.W.Frag) : V → Option Int → Option Int → Hp → VK → Prop := fun x lo hi H Q => ∃ a xs, x = .ref a ∧ SqT K H a xs ∧ ∀ (p : Addr) (H' : Hp), Same H H' → SqT K H' p (cutV xs lo hi) → Q (.ref p) H'
theorem sl_any : SlR X (rSlX X.K) := by
  intro pins s σ H x v vl vu lo hi sl Q I rx hs pl pu ⟨a, xs, ex, hx, q⟩
  refine sl_tupA pins s σ H x v vl vu lo hi sl Q I rx hs pl pu ⟨a, xs, ex, hx, fun hw => q a H (Same.refl H) (by rw [cut_whole hw]; exact hx), fun _ p np => q p _ (fun b o e => ?_) (.inl (.inl upd_same))⟩
  rw [upd_ne (ne_of_none e np)]
  exact e
/-- t + u, none of them empty -/
def rCatX (K : PySem.W.Frag) : R2 := fun x y H Q => ∃ a b xs ys, x = .ref a ∧ y = .ref b ∧ SqT K H a xs ∧ SqT K H b ys ∧ xs ≠ [] ∧ ys ≠ [] ∧ xs.length + ys.length ≤ sizeLine ∧ ∀ p, H p = none → Q (.ref p) (upd H p (.tup (xs ++ ys)))
theorem op_cat2 : OpR X (binaryOp .Add) (rCatX X.K) := by
  intro pins s σ H x y v u Q I rx ry ⟨a, b, xs, ys, ex, ey, ha, hb, nx, ny, hz, q⟩
  exact op_catA pins s σ H x y v u Q I rx ry ⟨a, b, xs, ys, ex, ey, ha, hb, hz, fun e => absurd e nx, fun _ e => absurd e ny, fun _ _ => q⟩
end TX

namespace TT
open PySem PySem.Spec PyProof.Rows L2
variable {X : Cx}
/-- t[lo:hi] of a tuple that is told: a told tuple -/
def rSlT2 (K : PySem.W.Frag) : V → Option Int → Option Int → Hp → VK → Prop := fun x lo hi H Q => ∃ a xs, x = .ref a ∧ H a = some (.tup xs) ∧ ∀ (p : Addr) (H' : Hp), Same H H' → H' p = some (.tup (cutV xs lo hi)) → Q (.ref p) H'
theorem sl_t : SlR X (rSlT2 X.K) := by
  intro pins s σ H x v vl vu lo hi sl Q I rx hs pl pu ⟨a, xs, ex, hx, q⟩
  refine sl_tupA pins s σ H x v vl vu lo hi sl Q I rx hs pl pu ⟨a, xs, ex, .inl (.inl hx), fun hw => q a H (Same.refl H) (by rw [TX.cut_whole hw]; exact hx), fun _ p np => q p _ (fun b o e => ?_) upd_same⟩
  rw [upd_ne (ne_of_none e np)]
  exact e
/-- t + u of told tuples -/
def rCatT2 (K : PySem.W.Frag) : R2 := fun x y H Q => ∃ a b xs ys, x = .ref a ∧ y = .ref b ∧ H a = some (.tup xs) ∧ H b = some (.tup ys) ∧ xs.length + ys.length ≤ sizeLine ∧ ∀ (p : Addr) (H' : Hp), Same H H' → H' p = some (.tup (xs ++ ys)) → Q (.ref p) H'
theorem op_cat_t : OpR X (binaryOp .Add) (rCatT2 X.K) := by
  intro pins s σ H x y v u Q I rx ry ⟨a, b, xs, ys, ex, ey, ha, hb, hz, q⟩
  refine op_catA pins s σ H x y v u Q I rx ry ⟨a, b, xs, ys, ex, ey, .inl (.inl ha), .inl (.inl hb), hz, fun e => q b H (Same.refl H) (by rw [e]; exact hb), fun _ e => q a H (Same.refl H) (by rw [e, List.append_nil]; exact ha), fun _ _ p np => q p _ (fun b o e => ?_) upd_same⟩
  rw [upd_ne (ne_of_none e np)]
  exact e
end TT

/-! while an exception is handled: comprehensions; calls of defs that are told which exception it is -/
namespace HotP
open PySem PySem.Spec PyProof.Rows L2
section
variable {prog : Program} {w : World} {A : Around} {E : Value → Shared → Prop} {s : Shared}
/-- a list's iterator at its end -/
theorem list_end {it l x1 : Addr} {i : Nat} {items : Array Value} {Q : Option Value → Shared → Prop} (hot : HotX.HotAt A x1 s.heap) (at_ : s.heap.IsListIter it l i) (hl : s.heap.IsList l items) (none_ : items[i]? = none) (n1 : x1 ≠ it)
    (q : ∀ h', (∀ b o, b ≠ it → s.heap.get? b = some o → h'.get? b = some o) → Q none { s with heap := h' }) : wpAny (model prog w) A (pyNext (.ref it)) Q E s := by
  obtain ⟨oi, gi, ci, di⟩ := id at_
  obtain ⟨ol, gl, _, nl, dl⟩ := hl
  obtain ⟨hh, o1, vs1, g1, d1, c1⟩ := hot
  unfold pyNext
  refine wpAny_bind (wpAny_attempt (wpAny_callSpecial?_slot (name := Str.ofString "__next__") at_.typeIs slot_listiter_next (wpAny_call_entry slot_listiter_next at_.typeIs entry_listiter_next ?_ (args_listiter_next _))))
  show wpAny _ _ (field (.ref it) 0 >>= _) _ _ s
  refine wpAny_bind (wpAny_field gi di (x := .ref l) rfl ?_)
  show wpAny _ _ (if (Value.ref l == Value.none) = true then _ else _) _ _ s
  rw [if_neg (show ¬ ((Value.ref l == Value.none) = true) from Bool.false_ne_true)]
  show wpAny _ _ (field (.ref it) 1 >>= _) _ _ s
  refine wpAny_bind (wpAny_field gi di (x := .int i 0) rfl ?_)
  show wpAny _ _ (seqItems? (.ref l) >>= _) _ _ s
  refine wpAny_bind (wpAny_seqItems gl dl ?_)
  simp only [Int.toNat_natCast, none_]
  refine wpAny_bind (wpAny_rule (wpAny_bind (wpAny_setField gi di (by simp) ?_)))
  show wpAny _ _ (newExc (.type "StopIteration") [] >>= _) _ _ _
  refine wpAny_bind ?_
  simp only [newExc, newTuple]
  refine wpAny_bind (wpAny_newObj_type ?_ (by size_fits))
  refine wpAny_bind (m := firstArgMember _ _) (wpAny_of_eq (a := Value.none) (by first | rfl | (simp only [firstArgMember]; rfl)) ?_)
  refine wpAny_newObj_type ?_ (by size_fits)
  generalize eu : s.heap.update it _ = hu
  have gu : ∀ b o, b ≠ it → s.heap.get? b = some o → hu.get? b = some o := fun b o nb e => by
    rw [← eu, Heap.get?_update_other _ _ nb.symm]
    exact e
  have g1' := Heap.get?_push_of_some ({ cls := .type "tuple", data := .seq ([] : List Value).toArray } : Obj) (gu x1 o1 n1 g1)
  refine HotX.raiseNew_hot ⟨hh, o1, vs1, Heap.get?_push_of_some _ g1', d1, c1⟩ (Nat.ne_of_lt (Heap.lt_size g1')) (Heap.get?_push_size _ rfl) rfl (by first | (simp; done) | (simp; omega) | (simp only [Array.size_append]; simp; omega)) ?_
  refine wpAny_bind (wpAny_isInstance (T := "StopIteration") (b := true) ⟨_, Heap.get?_update_self _ (Heap.get?_push_size _ rfl) rfl, rfl⟩ isSubtype_stop ?_)
  refine wpAny_pure (q _ fun b o nb e => ?_)
  have e1 := gu b o nb e
  rw [Heap.get?_update_other _ _ (Nat.ne_of_gt (Heap.lt_size (Heap.get?_push_of_some _ e1)))]
  exact Heap.get?_push_of_some _ (Heap.get?_push_of_some _ e1)
end
theorem turn_listH {P : Program} {w : World} {K : PySem.W.Frag} {tg : Expr} (a it : Addr) : L2H.TurnH P w K tg (Itl K a) [it] it (fun i h => h.IsListIter it a i) where
  mem := List.mem_cons_self
  obj := (turn_list (P := P) (w := w) (K := K) (tg := tg) a it).obj
  keep := (turn_list (P := P) (w := w) (K := K) (tg := tg) a it).keep
  item := by
    intro X hP hw hK hc i pins s σ H E I fr st go
    subst hP hw hK
    obtain ⟨xs, x, hq, hx⟩ := go
    obtain ⟨its, rv, pl, hz⟩ := I.list hq
    obtain ⟨u, hu, ru⟩ := rv.get hx
    obtain ⟨a0, a1, a2, a3, a4, a5⟩ := fr it List.mem_cons_self
    refine wpAny_pyNext_list_item st pl.isList (x := u) (by simpa using hu) fun h' st' sb => ?_
    have I1 := I.turned (t' := s.toks) (h' := h') (fun b o nb e => (sb.2 b nb).trans e) a0 a1 a3 a4 a5
    obtain ⟨o, e, c, d⟩ := id st'
    exact ⟨u, rfl, go_of (s := { s with heap := h' }) e c d (by decide) ⟨x, H, I1, ru, ⟨rfl, fun ys hy => by rw [I.list_inj hy hq]; exact hx⟩, st', fun b hb => (fr b hb).1⟩⟩
  done := by
    intro X hP hw hK hc i pins s σ H E I fr st stop
    subst hP hw hK
    obtain ⟨xs, hq, hx⟩ := stop
    obtain ⟨its, rv, pl, hz⟩ := I.list hq
    obtain ⟨a0, a1, a2, a3, a4, a5⟩ := fr it List.mem_cons_self
    obtain ⟨p, ⟨hh, v1, e1, c1⟩, hp⟩ := hc
    have len := rv.length
    exact list_end (x1 := p.1) ⟨hh, p.2, v1, (I.pin p (List.mem_append_left _ hp)).1, e1, c1⟩ st pl.isList (by simp; omega) (a5 p (List.mem_append_left _ hp)) fun h' k => ⟨rfl, I.turned (t' := s.toks) (fun b o nb e => k b o nb e) a0 a1 a3 a4 a5⟩
  self := fun _ _ _ _ _ st q => wpAny_pyIter_listiter st q
section
variable {X : Cx} {tg : Expr}
theorem pi_listH {l : Expr} {tl : TE} (hl : PE X l tl) : L2H.PIH X tg l (iList X.K tl) := by
  refine ⟨fun pins s σ H R I h => thn (hl.run pins s σ H _ I h) fun v z ⟨x, H1, I1, rv1, q1⟩ => ?_⟩
  obtain ⟨a, rfl, ⟨xs, hq⟩, q⟩ := q1
  cases rv1
  obtain ⟨its, rv, pl, hz⟩ := I1.list hq
  refine wpAny_pyIter_list pl.isList ⟨z.heap.objs.size, [z.heap.objs.size], _, _, H1, rfl, I1.kept (t' := z.toks) fun b o e => Heap.get?_push_of_some _ e, turn_listH a _, ⟨_, Heap.get?_push_size _ rfl, rfl, rfl⟩, fun b hb => ?_, q⟩
  rw [List.mem_singleton.mp hb]
  exact I1.fpOk (Nat.le_refl _) (I1.hok.fresh (Nat.le_refl _))
/-- a comprehension's block that goes on bearing the handled exception -/
abbrev blkQ (X : Cx) (s : Shared) (H : Hp) (scope : Scope) (cenv : Env) (fp : List Addr) : Cx := { X.blk s H scope cenv fp with pn := X.pn }
theorem blkQ_hot {s : Shared} {H : Hp} {scope : Scope} {cenv : Env} {fp : List Addr} (c : L2H.HotC X) : L2H.HotC (blkQ X s H scope cenv fp) := c
theorem blkQ_start {pins : List (Addr × Obj)} {σ σ' : L2.St} {H : Hp} {s z : Shared} {scope : Scope} {cenv : Env} {fp : List Addr} (I : Inv X pins σ H s) (hL : cenv.locals = s.heap.objs.size) (kp : ∀ b o, s.heap.get? b = some o → z.heap.get? b = some o)
    (J : Inv (X.blk s H scope cenv fp) [] σ' H z) : Inv (blkQ X s H scope cenv fp) [] σ' H z := by
  refine ⟨⟨J.ok.mod, J.ok.kind, J.ok.glob, J.ok.blt, J.ok.above, J.ok.inj, J.ok.has, J.ok.cab, J.ok.hd, J.ok.frames, J.ok.stk, J.ok.exf, J.ok.bs, J.ok.bsz, J.ok.noex, J.ok.exfs, J.ok.funs, J.ok.frf⟩, J.os, J.bare, J.base, J.loc, J.cell, J.free, J.freeC, fun p hp => ?_, J.hok, J.len⟩
  obtain ⟨b1, b2, b3, b4, b5⟩ := I.pin p (List.mem_append_left _ (by simpa using (show p ∈ X.pn ++ [] from hp)))
  refine ⟨kp _ _ b1, b2, ?_, fun y => (List.mem_cons.mp (I.stkSub p.1 y)).elim b3 b4, b5⟩
  show p.1 ≠ cenv.locals
  rw [hL]
  exact Nat.ne_of_lt (Heap.lt_size b1)
/-- [elt for tg in iter if ..], an exception being handled -/
theorem pe_lcH {elt tg iter : Expr} {ifs : List Expr} {scope : Scope} {own : List (Str × Nat)} {pos : Pos} {wi : TI} {g : TG} {tt : TT} {te : TE} (hc : L2H.HotC X) (hN : X.N.Nodup) (hi : L2H.PIH X tg iter wi) (ok : BlkOk X.N X.env.scope scope own)
    (hg : ∀ (s : Shared) (H : Hp) (C : Addr) (cl : List (Str × Addr)) (fp : List Addr), PG (blkQ X s H scope (compEnvC scope cl C X.env) fp) tg g)
    (ht : ∀ (s : Shared) (H : Hp) (C : Addr) (cl : List (Str × Addr)) (fp : List Addr), PTs (blkQ X s H scope (compEnvC scope cl C X.env) fp) ifs tt)
    (he : ∀ (s : Shared) (H : Hp) (C : Addr) (cl : List (Str × Addr)) (fp : List Addr), PE (blkQ X s H scope (compEnvC scope cl C X.env) fp) elt te) (hs : ∀ x, foldedSetIterable iter X.env x = pure x := by intro _; rfl) :
    PE X (.ListComp elt [⟨tg, iter, ifs, 0⟩] scope pos) (tLc wi g tt te (own.map (·.2))) := by
  refine ⟨fun pins s σ H Q I h => ?_⟩
  rw [eval_ListComp]
  have free_ : ∀ p ∈ scope.names, p.2 = .free → ∃ c, X.env.cells.lookup p.1 = some c := fun p hp e => by
    rcases ok.free p hp e with y | y
    · exact I.ok.has _ (.inl y)
    · exact I.ok.has _ (.inr y)
  refine wpAny_comprehension_free (use := none) rfl hs (closure_ok free_) ok.kind (fun p hp e => by rw [ok.uniq p hp, e])
    (thn (hi.run pins s σ H _ I h) fun xv z1 hx => thn hx fun jv z2 h2 => ?_)
  obtain ⟨jt, fp, tn, J, H2, ej, I2, T, st2, fr2, q⟩ := h2
  subst ej
  refine wpAny_newObj_type (newEnv_comp ?_) (by show 0 ≤ sizeLine; decide)
  generalize hD : z2.heap.objs.size = D
  have nD : H2 D = none := I2.hok.fresh (Nat.le_of_eq hD)
  obtain ⟨W, ⟨m0, w0⟩, turn⟩ := q D nD
  generalize hz3 : ({ z2 with heap := z2.heap.push { cls := .type "list", data := .seq ([] : List Value).toArray } } : Shared) = z3
  have I3 : Inv X pins σ (upd H2 D (.lst [])) z3 := by
    rw [← hz3]
    refine I2.laid (t' := z2.toks) (fun b o e => Heap.get?_push_of_some _ e) (Nat.le_of_eq hD) ⟨Nat.zero_le _, [], 0, .nil, ?_⟩
    rw [← hD]
    exact Heap.get?_push_size _ rfl
  have hp3 : z3.heap = z2.heap.push { cls := .type "list", data := .seq ([] : List Value).toArray } := by rw [← hz3]
  have old : ∀ b ∈ fp, b < z2.heap.objs.size := fun b hb => by
    obtain ⟨o, e, _⟩ := T.obj _ _ st2 b hb
    exact Heap.lt_size e
  have fr3 : ∀ b ∈ fp, FpOk X pins (upd H2 D (.lst [])) b ∧ b < z3.heap.objs.size := fun b hb => by
    have lt := old b hb
    refine ⟨⟨?_, (fr2 b hb).2⟩, by rw [hp3, Heap.size_push]; exact Nat.lt_succ_of_lt lt⟩
    rw [upd_ne (by rw [← hD]; exact Nat.ne_of_lt lt)]
    exact (fr2 b hb).1
  have st3 : tn 0 z3.heap := T.keep _ _ _ st2 fun b _ o e => by rw [hp3]; exact Heap.get?_push_of_some _ e
  have I4 := blkQ_start (z := { z3 with heap := pushCells (z3.heap.push { cls := .type "dict", data := .dict #[] }) scope.names }) I3 rfl (fun b o e => pushCells_keeps _ _ _ _ (Heap.get?_push_of_some _ e)) (block_start I3 ok hN fr3)
  generalize hcl : cellsFrom (z3.heap.objs.size + 1) scope.names (cloFrom X.env.cells scope.names []) = cl at I4 ⊢
  have pg := hg z3 (upd H2 D (.lst [])) z3.heap.objs.size cl fp
  have pt := ht z3 (upd H2 D (.lst [])) z3.heap.objs.size cl fp
  have pe := he z3 (upd H2 D (.lst [])) z3.heap.objs.size cl fp
  have hcB : L2H.HotC (blkQ X z3 (upd H2 D (.lst [])) scope (compEnvC scope cl z3.heap.objs.size X.env) fp) := blkQ_hot hc
  show codeAny _ _ (.compStart (.ListComp elt [⟨tg, iter, ifs, 0⟩] scope pos) 0 (.ref jt) (.ref D) (compEnvC scope cl z3.heap.objs.size X.env)) (compPost (model X.prog X.w) X.A X.xe none (EP X pins σ Q) (.ref D) z3.heap.objs.size) { z3 with heap := pushCells (z3.heap.push { cls := .type "dict", data := .dict #[] }) scope.names }
  have nfp : ∀ b ∈ fp, (upd H2 D (.lst [])) b = none := fun b hb => (fr3 b hb).1.1
  generalize hce : compEnvC scope cl z3.heap.objs.size X.env = ce at I4 pg pt pe hcB ⊢
  have cL : ce.locals = z3.heap.objs.size := by subst hce; rfl
  generalize hH3 : upd H2 D (.lst []) = H3 at I3 I4 pg pt pe w0 nfp fr3 hcB
  generalize hz4 : ({ z3 with heap := pushCells (z3.heap.push { cls := .type "dict", data := .dict #[] }) scope.names } : Shared) = z4 at I4 ⊢
  have st4 : tn 0 z4.heap := T.keep _ _ _ st3 fun b _ o e => by rw [← hz4]; exact pushCells_keeps _ _ _ _ (Heap.get?_push_of_some _ e)
  have stat : ∀ {σ' : L2.St} {H' : Hp} {z : Shared}, Inv (blkQ X z3 H3 scope ce fp) [] σ' H' z → (∀ b ∈ fp, H' b = none) → ∀ b ∈ fp, FpOk (blkQ X z3 H3 scope ce fp) [] H' b := fun {σ' H' z} I' hn b hb =>
    ⟨hn b hb, (I'.ok.exf b hb).1, I'.ok.exfs b hb, .inl hb, fun x c e => (I'.ok.exf b hb).2 x c e, fun p hp => (fr3 b hb).1.2.2.2.2.2 p (List.mem_append_left _ (by simpa using (show p ∈ X.pn ++ [] from hp)))⟩
  have lp : codeAny (model X.prog X.w) X.A (.compLoop (.ListComp elt [⟨tg, iter, ifs, 0⟩] scope pos) 0 (.ref jt) (.ref D) ce) (compPost (model X.prog X.w) X.A X.xe none (EP X pins σ Q) (.ref D) z3.heap.objs.size) z4 := by
    refine compLoop_any (fun n z => ∃ i H', Inv (blkQ X z3 H3 scope ce fp) [] (wipe σ (own.map (·.2))) H' z ∧ tn i z.heap ∧ (∀ b ∈ fp, H' b = none) ∧ W i n H') ?_ m0 ⟨0, H3, I4, st4, nfp, w0⟩
    rintro n z5 ⟨i, H5, I5, st5, n5, w5⟩
    rcases turn i n H5 w5 with ⟨stp, qq⟩ | ⟨go, Nx, hNx, step⟩
    · refine thnF (T.done (blkQ X z3 H3 scope ce fp) rfl rfl rfl hcB i [] z5 _ H5 (fun _ _ => False) I5 (stat I5 n5) st5 stp) fun r z6 ⟨hr, I6⟩ => ?_
      subst hr
      have I7 : Inv X pins σ H5 z6 := I3.call' (ch := fp) I6.os I6.base I6.hok I6.bare fun b hb => ⟨(fr3 b hb).1.2.2.2.1, (fr3 b hb).1.2.1, (fr3 b hb).1.2.2.2.2.1, (fr3 b hb).1.2.2.2.2.2⟩
      have nC : H5 z3.heap.objs.size = none := by
        have y : H5 ce.locals = none := I6.free
        rw [cL] at y
        exact y
      obtain ⟨m, hn, _⟩ := I6.loc
      have hn : z6.heap.Ns ce.locals m := hn
      rw [cL] at hn
      obtain ⟨a0, a1, a2, a3, a4, a5⟩ := I3.fpOk (Nat.le_refl _) nC
      exact ⟨m, hn, fun hh sb => ⟨.ref D, H5, I7.turned (t' := z6.toks) (fun b o hb e => (sb.2 b hb).trans e) a0 a1 a3 a4 a5, rfl, qq⟩⟩
    · refine thnF (T.item (blkQ X z3 H3 scope ce fp) rfl rfl rfl hcB i [] z5 _ H5 (fun _ _ => False) I5 (stat I5 n5) st5 go) fun r z6 ⟨u, hr, h6⟩ => ?_
      subst hr
      refine thnF h6 fun _ z7 ⟨x, H7, I7, r7, y7, st7, n7⟩ => ?_
      have I7p := I7.pinned (stat I7 n7) (T.obj _ _ st7)
      refine thnF (pg.run _ z7 _ H7 x u _ I7p r7 (step x H7 y7)) fun _ z8 ⟨σ8, H8, I8, hw8, q8⟩ => ?_
      refine thnF (pt.run _ z8 σ8 H8 _ I8 q8) fun b z9 ⟨H9, I9, q9⟩ => ?_
      have fin : ∀ {z : Shared} {H' : Hp}, Inv (blkQ X z3 H3 scope ce fp) ([] ++ pinsAt fp z7.heap) σ8 H' z → Nx H' → ∃ m, m < n ∧ ∃ i H', Inv (blkQ X z3 H3 scope ce fp) [] (wipe σ (own.map (·.2))) H' z ∧ tn i z.heap ∧ (∀ b ∈ fp, H' b = none) ∧ W i m H' := fun {z H'} I' nx => by
        obtain ⟨m', lt, w'⟩ := hNx H' nx
        have held : ∀ b ∈ fp, ∀ o, z7.heap.get? b = some o → z.heap.get? b = some o ∧ H' b = none := fun b hb o e =>
          let y := I'.pin (b, o) (List.mem_append_right _ (List.mem_append_right _ (mem_pinsAt hb e)))
          ⟨y.1, y.2.1⟩
        refine ⟨m', lt, i + 1, H', (I'.unpinned (pins := [])).weak (by rw [← hw8, wipe_length]) (fun j v e => by rw [← hw8] at e; exact (wipe_some e).1), T.keep _ _ _ st7 fun b hb o e => (held b hb o e).1, fun b hb => ?_, w'⟩
        obtain ⟨o, e, _⟩ := T.obj _ _ st7 b hb
        exact (held b hb o e).2
      cases b with
      | false =>
        simp only [Bool.false_eq_true, if_false] at q9 ⊢
        exact fin I9 q9
      | true =>
        simp only [if_true] at q9 ⊢
        refine thnF (pe.run _ z9 σ8 H9 _ I9 q9) fun y z10 ⟨yv, H10, I10, r10, acc, hD10, lt10, nx⟩ => ?_
        exact app_ok (X := blkQ X z3 H3 scope ce fp) I10 hD10 lt10 r10 fun z11 I11 => fin I11 nx
  exact codeAny_compStart_list lp (T.self X.A 0 _ _ _ st4 lp)
end
theorem _root_.L2H.RoomH.units {k : Nat} {A : Around} (r : L2H.RoomH k A) : A.units + 64 < cLine := by
  have y := r.un
  omega
theorem takes0 {X : Cx} : L2N.Takes X (fun _ _ _ _ => False) := fun _ _ x => by
  obtain ⟨_, _, _, _, _, _, _, _, _, _, _, _, _, _, _, _, y⟩ := x
  exact y.elim
/-- isinstance of an exception that is pinned -/
theorem isP {X : Cx} {p : Addr × Obj} {D : Addr} (C : ExcC X.K D) (hz : L2N.Zn (.ref D) none p.2) (hf : ∃ vs, p.2.data = .fields vs) (hp : p ∈ X.pn) : CallR X (.builtin "isinstance") (rIsE X.K D p.1) := by
  intro pins s σ H xs us Q I r h
  obtain ⟨c, cv, b, rfl, same, e, q⟩ := h
  obtain ⟨a, oe⟩ := p
  cases r with
  | cons r1 rr =>
    cases rr with
    | cons r2 rr =>
      cases rr
      cases r1
      cases same _ r2
      have got := (I.pin (a, oe) (List.mem_append_left _ hp)).1
      obtain ⟨vs, hv⟩ := hf
      have J : PySem.W.InstAt s.heap a oe D none := by
        obtain ⟨oc, od, oda, osl⟩ := oe
        obtain ⟨h1, h2, _⟩ := hz
        dsimp only at h1 h2 hv
        cases h1
        cases h2
        cases hv
        exact ⟨got, rfl, rfl, trivial⟩
      exact PySem.W.kia_one (PySem.W.handS_kitx_exc C.hg C.hk C.hs C.hd C.ha C.hn C.ht C.hm) I.kIn J e (fun y => nomatch y) fun tk => ⟨.bl b, H, I.kept (t' := tk) fun _ _ y => y, rfl, q⟩
/-- the same, its class told in the reading -/
def rIsQ (K : PySem.W.Frag) (a : Addr) (cls : Value) (d : Option Addr) : List V → Hp → VK → Prop := fun xs H Q => ∃ (D : Addr) (c : V) (cv : Value) (b : Bool), cls = .ref D ∧ d = none ∧ ExcC K D ∧ xs = [.ref a, c] ∧ (∀ u, RelV c u → u = cv) ∧ PySem.W.kitOne K (.ref D) cv = some b ∧ Q (.bl b) H
theorem isQ {X : Cx} {p : Addr × Obj} {cls : Value} {d : Option Addr} (hz : L2N.Zn cls d p.2) (hf : ∃ vs, p.2.data = .fields vs) (hp : p ∈ X.pn) : CallR X (.builtin "isinstance") (rIsQ X.K p.1 cls d) := by
  intro pins s σ H xs us Q I r h
  obtain ⟨D, c, cv, b, rfl, rfl, C, e, same, k, q⟩ := h
  exact isP C hz hf hp pins s σ H xs us Q I r ⟨c, cv, b, e, same, k, q⟩
abbrev Known (cls : Value) (d : Option Addr) : Addr × Obj → Prop := fun p => L2N.Zn cls d p.2 ∧ ∃ vs, p.2.data = .fields vs
theorem hotC {X : Cx} {p : Addr × Obj} (hot : L2H.Hot1 X.A p) (hp : p ∈ X.pn) : L2H.HotC X := ⟨p, hot, hp⟩
theorem hot_mark {A : Around} {a : Addr} {oe : Obj} {cls : Value} {d : Option Addr} (hz : L2N.Zn cls d oe) (hf : ∃ vs, oe.data = .fields vs) : L2H.Hot1 (A.mark (some (.ref a))) (a, oe) := by
  obtain ⟨vs, hv⟩ := hf
  exact ⟨rfl, vs, hv, hz.2.2 vs hv⟩
theorem room_mark {A : Around} {v : Option Value} {k : Nat} (r : Room k A) : L2H.RoomH k (A.mark v) := ⟨r.dp, r.un⟩
/-- a def's promise, called while an exception is handled of which something (G) is known -/
structure FnQ (P : Program) (w : World) (K : PySem.W.Frag) (mg : Str → Option Value) (base : Heap) (CX : CXT) (k : Nat) (f : Addr) (fd : FuncData) (ps : List Str) (G : Addr × Obj → Prop) (sp : Addr → Sp) : Prop where
  many : ∀ a vs H Q E, sp a vs H Q E → vs.length = ps.length
  go : ∀ (A : Around) (outer : List Env) (s : Shared) (H : Hp) (args : Args) (us : List Value) (vs : List V) (Q : VK) (E : XK) (p : Addr × Obj), G p → L2H.Hot1 A p → L2H.RoomH k A → Env0 P w K mg base A outer s H → L2H.PinOk outer H s p → BindsTo s fd args (ps.zip us) → sp p.1 vs H Q E → Vals vs us →
    codeAny (model P w) A (.call (.ref f) args) (CR CX outer P w H s Q E) s
theorem fnQ_of {P : Program} {w : World} {K : PySem.W.Frag} {mg : Str → Option Value} {base : Heap} {N ps : List Str} {x qual : Str} {st : Stmt} {f : Addr} {fd : FuncData} {k : Nat} {G : Addr × Obj → Prop} {sp : Addr → Sp} (F : Fun K x qual st f fd) (S : FnScope N ps (defScope st))
    (many : ∀ a vs H Q E, sp a vs H Q E → vs.length = ps.length)
    (body : ∀ (cdv : Value) (A : Around) (outer : List Env) (s : Shared) (H : Hp) (vs : List V) (Q : VK) (E : XK) (p : Addr × Obj), G p → L2H.Hot1 A p → L2H.RoomH k (A.deeper (envOfC qual (defScope st) s.heap.objs.size f cdv)) → sp p.1 vs H Q E →
      ∃ t, PSs (L2H.cxH CX0 P w K mg base N qual (defScope st) f cdv A outer s H E p).nox (defBody st) t ∧ t { nx := fun _ H' => Q .non H', rt := Q } (start N vs) H) : FnQ P w K mg base CX0 (k + 1) f fd ps G sp := by
  obtain ⟨oc, od, kV, doc, pm, an, cdv, ct, osl, rfl, lk, hcd⟩ := F.ex
  refine ⟨many, fun A outer s H args us vs Q E p g hot hr e0 hpin hb hsp r => ?_⟩
  have hl := many _ _ _ _ _ hsp
  have kinX : K.In s.heap := e0.mod.kin.keeps fun b o e => (e0.bs b o e).1
  have limX : s.heap.NoLimit := e0.mod.nolimit.keeps fun b o e => (e0.bs b o e).1
  have kinds : ∀ y ∈ ps.zip us, (defScope st).names.lookup y.1 = some .local ∨ ((defScope st).names.lookup y.1 = some .cell ∧ ((cellsFrom (s.heap.objs.size + 1) (defScope st).names []).lookup y.1).isSome = true) := fun y hy => by
    rcases S.par y.1 (List.of_mem_zip (a := y.1) (b := y.2) hy).1 with q | q
    · exact Or.inl q
    · exact Or.inr ⟨q, PySem.W.cellsFrom_some _ _ _ (Or.inl q)⟩
  refine codeAny_call_function hr.depth (kinX _ _ lk) rfl S.co S.gen rfl (PySem.W.codeRec_of kinX hcd) (hb _ _ _ _ ?_)
  refine wpAny_newFunctionEnv_cells S.kind kinds fun env he z x => ?_
  cases he
  refine ⟨limX.keeps x.toInCall.keep, codeAny_func ?_⟩
  obtain ⟨t, ht, hq⟩ := body cdv A outer s H vs Q E p g hot (hr.deeper _) hsp
  have I : Inv (L2H.cxH CX0 P w K mg base N qual (defScope st) f cdv A outer s H E p) [] (L2.start N vs) H z := L2H.inv_startH S hpin e0 hl r x
  refine wpAny_mono (ht.nox.run [] z (L2.start N vs) H _ I hq) (fun fl z' hs => ?_) fun _ _ y => y
  cases fl with
  | next =>
    obtain ⟨σ', H', J, q⟩ := hs
    exact ⟨V.non, H', J.os, J.bare, J.base, J.hok, rfl, q⟩
  | ret u =>
    obtain ⟨v, σ', H', J, rv, q⟩ := hs
    exact ⟨v, H', J.os, J.bare, J.base, J.hok, rv, q⟩
  | brk =>
    obtain ⟨_, _, _, q⟩ := hs
    cases q
  | cont =>
    obtain ⟨_, _, _, q⟩ := hs
    cases q
theorem pe_callQ {X : Cx} {CX : CXT} {k : Nat} {f : Addr} {fd : FuncData} {ps : List Str} {G : Addr × Obj → Prop} {sp : Addr → Sp} {E : L2.St → XK} {x : Str} {q pos : Pos} {e : Expr} {es : List Expr} {t : TA} {p : Addr × Obj} (F : FnQ X.prog X.w X.K X.mg X.base CX k f fd ps G sp) (g : G p) (hot : L2H.Hot1 X.A p) (hp : p ∈ X.pn)
    (hr : L2H.RoomH k X.A) (hg : Gl X x) (hm : X.mg x = some (.ref f)) (hk : PySem.W.keepIn X.K (.ref f) = true) (hb : Binds X.K fd ps []) (hx : ∀ σ, PassesAt CX X σ (E σ)) (ha : PA X (e :: es) t)
    (hdb : (x == ("__debug__" : Str)) = false := by decide) (he : starEach (e :: es) X.env = (false, eval e X.env) :: starEach es X.env := by rfl) (hpl : (backTo pos (starEach es X.env)).any (·.1) = false := by rfl) :
    PE X (.Call (.Name x q) (e :: es) [] pos) (tCallS (sp p.1) E t) := by
  refine ⟨fun pins s σ H Q I h => wpAny_Call_Name_kw (ld_glob I hg hm (PySem.W.callWith_K (h₀ := X.base) I.ok.mod.kin hk (thn (ha.run pos pins s σ H _ I h) fun us z ⟨vs, H1, I1, r, y⟩ => ⟨I1.kIn, ?_⟩) he hpl) hdb)⟩
  have hl : us.length = ps.length := by rw [← r.length]; exact F.many _ _ _ _ _ y
  have b := hb z us I1.kIn (by rw [List.append_nil]; exact hl)
  rw [List.append_nil] at b
  obtain ⟨c1, c2, c3, c4, c5⟩ := I1.pin p (List.mem_append_left _ hp)
  refine wpAny_call (codeAny_mono (F.go X.A X.stack z H1 ⟨us, []⟩ us vs Q (E σ) p g hot hr I1.env0 ⟨c1, c2, fun m => (List.mem_cons.mp (I1.stkSub p.1 m)).elim c3 c4, c5⟩ b y r) fun r z' hq => ?_)
  cases r with
  | error e => exact hx σ pins H1 z e z' I1 hq
  | ok fl =>
    cases fl with
    | ret u => exact I1.after hq
    | next => exact hq.elim
    | brk => exact hq.elim
    | cont => exact hq.elim
theorem isA {X : Cx} {a : Addr} {oe : Obj} {cls : Value} {d : Option Addr} (hz : L2N.Zn cls d oe) (hf : ∃ vs, oe.data = .fields vs) (hp : (a, oe) ∈ X.pn) : CallR X (.builtin "isinstance") (rIsQ X.K a cls d) := isQ (p := (a, oe)) hz hf hp
theorem pe_callA {X : Cx} {CX : CXT} {k : Nat} {f : Addr} {fd : FuncData} {ps : List Str} {cls : Value} {d : Option Addr} {sp : Addr → Sp} {E : L2.St → XK} {x : Str} {q pos : Pos} {e : Expr} {es : List Expr} {t : TA} {a : Addr} {oe : Obj} (F : FnQ X.prog X.w X.K X.mg X.base CX k f fd ps (Known cls d) sp) (hz : L2N.Zn cls d oe) (hf : ∃ vs, oe.data = .fields vs) (hot : L2H.Hot1 X.A (a, oe)) (hp : (a, oe) ∈ X.pn)
    (hr : L2H.RoomH k X.A) (hg : Gl X x) (hm : X.mg x = some (.ref f)) (hk : PySem.W.keepIn X.K (.ref f) = true) (hb : Binds X.K fd ps []) (hx : ∀ σ, PassesAt CX X σ (E σ)) (ha : PA X (e :: es) t)
    (hdb : (x == ("__debug__" : Str)) = false := by decide) (he : starEach (e :: es) X.env = (false, eval e X.env) :: starEach es X.env := by rfl) (hpl : (backTo pos (starEach es X.env)).any (·.1) = false := by rfl) :
    PE X (.Call (.Name x q) (e :: es) [] pos) (tCallS (sp a) E t) := pe_callQ (p := (a, oe)) F ⟨hz, hf⟩ hot hp hr hg hm hk hb hx ha hdb he hpl
theorem passQ0 {X : Cx} {σ : L2.St} {E : XK} : PassesAt CX0 X σ E := fun _ _ _ _ _ _ y => y.elim
end HotP
namespace L2
open PySem PySem.Spec PyProof.Rows
/-- a def that may let an exception out (of which the context is told) -/
theorem Fun.okN {P : Program} {w : World} {K : PySem.W.Frag} {mg : Str → Option Value} {base : Heap} {x qual : Str} {st : Stmt} {f : Addr} {fd : FuncData} {N ps : List Str} {k : Nat} {sp : Sp} (F : Fun K x qual st f fd) (S : FnScope N ps (defScope st)) (many : ∀ vs H Q E, sp vs H Q E → vs.length = ps.length)
    (body : ∀ (cdv : Value) (A : Around) (outer : List Env) (s : Shared) (H : Hp) (vs : List V) (Q : VK) (E : XK), Room k (A.deeper (envOfC qual (defScope st) s.heap.objs.size f cdv)) → sp vs H Q E →
      ∃ t, PSs (cxOf (L2N.CX P w) P w K mg base N qual (defScope st) f cdv A outer s H E) (defBody st) t ∧ t { nx := fun _ H' => Q .non H', rt := Q } (start N vs) H) : FnOk P w K mg base (L2N.CX P w) (k + 1) f fd ps sp := by
  obtain ⟨_, _, _, _, _, _, _, _, _, rfl, lk, hcd⟩ := F.ex
  exact fn_of lk hcd S many fun A outer s H vs Q E hr hsp => body _ A outer s H vs Q E hr hsp
end L2

namespace Tw
open PySem PySem.Spec PyProof.Rows L2
/-! what the laws' helpers do to the heap: the draws at d shrink, all else stands -/
def DrA (H : Hp) (d : Addr) : Prop := ∃ ns : List Int, H d = some (.lst (ns.map V.int))
structure Dr (d : Addr) (H H' : Hp) : Prop where
  keep : ∀ b o, b ≠ d → H b = some o → H' b = some o
  at_ : DrA H' d
theorem Dr.refl {d : Addr} {H : Hp} (h : DrA H d) : Dr d H H := ⟨fun _ _ _ e => e, h⟩
theorem Dr.trans {d : Addr} {H H1 H2 : Hp} (a : Dr d H H1) (b : Dr d H1 H2) : Dr d H H2 := ⟨fun c o n e => b.keep c o n (a.keep c o n e), b.at_⟩
theorem Dr.then {d : Addr} {H H1 H2 : Hp} (a : Dr d H H1) (b : Same H1 H2) : Dr d H H2 := ⟨fun c o n e => b c o (a.keep c o n e), let ⟨ns, q⟩ := a.at_; ⟨ns, b d _ q⟩⟩
theorem Dr.of {d : Addr} {H H1 : Hp} (h : DrA H d) (b : Same H H1) : Dr d H H1 := (Dr.refl h).then b
theorem Dr.free {d : Addr} {H H' : Hp} (a : Dr d H H') (h : DrA H d) {l : Addr} (n : H' l = none) : H l = none := by
  cases q : H l with
  | none => rfl
  | some o =>
    by_cases e : l = d
    · obtain ⟨_, z⟩ := a.at_
      rw [e, z] at n
      cases n
    · rw [a.keep l o e q] at n
      cases n
theorem Dr.ne {d : Addr} {H H' : Hp} (a : Dr d H H') {l : Addr} (n : H' l = none) : l ≠ d := fun e => by
  obtain ⟨_, z⟩ := a.at_
  rw [e, z] at n
  cases n
theorem Dr.seq {K : PySem.W.Frag} {d a : Addr} {H H' : Hp} {xs : List V} (r : Dr d H H') (ne : a ≠ d) (h : SqL K H a xs) : SqL K H' a xs := by
  rcases h with (h | ⟨o, h⟩) | h
  · exact .inl (.inl (r.keep _ _ ne h))
  · exact .inl (.inr ⟨o, r.keep _ _ ne h⟩)
  · exact .inr h
theorem same_new {H : Hp} {p : Addr} {o : HO} (h : H p = none) : Same H (upd H p o) := fun b x e => by
  rw [upd_ne (ne_of_none e h)]
  exact e
theorem drA_upd {H : Hp} {d : Addr} (ns : List Int) : DrA (upd H d (.lst (ns.map V.int))) d := ⟨ns, upd_same⟩
theorem dr_upd {H : Hp} {d : Addr} (ns : List Int) : Dr d H (upd H d (.lst (ns.map V.int))) := ⟨fun b o n e => by rw [upd_ne n]; exact e, drA_upd ns⟩
theorem at_last {α : Type} {xs : List α} (h : xs ≠ []) : xs[xs.length - 1]? = some (xs.getLast h) := by
  rw [← List.getLast?_eq_getElem?, List.getLast?_eq_getLast h]
theorem map_at {ns : List Int} {i : Nat} (h : i < ns.length) : (ns.map V.int)[i]? = some (.int ns[i]) := by
  rw [List.getElem?_map, List.getElem?_eq_getElem h]
  rfl
theorem sline : (2000 : Nat) < sizeLine := by decide
theorem small {n : Nat} (h : n ≤ 2000) : n < sizeLine := Nat.lt_of_le_of_lt h sline
theorem small' {n : Nat} (h : n ≤ 2000) : n ≤ sizeLine := Nat.le_of_lt (small h)
theorem atI_z {α : Type} {xs : List α} {z : Int} {j : Nat} {v : α} (e : z = (j : Int)) (h : xs[j]? = some v) : atI xs z = some v := by
  rw [e]
  exact atI_nat h
theorem atI_pos {α : Type} {xs : List α} {z : Int} (h0 : 0 ≤ z) (h1 : z < xs.length) : atI xs z = some (xs[z.toNat]'(by omega)) :=
  atI_z (j := z.toNat) (by omega) (List.getElem?_eq_getElem (by omega))
theorem atM_pos {ns : List Int} {z : Int} (h0 : 0 ≤ z) (h1 : z < ns.length) : atI (ns.map V.int) z = some (.int (ns[z.toNat]'(by omega))) :=
  atI_z (j := z.toNat) (by omega) (map_at (by omega))
/-- an address that was not there at the beginning may be written -/
theorem Dr.keepNew {d p : Addr} {H H' : Hp} {o : HO} (r : Dr d H H') (ne : p ≠ d) (n : H p = none) : Dr d H (upd H' p o) :=
  ⟨fun b x nb e => by rw [upd_ne (ne_of_none e n)]; exact r.keep b x nb e, let ⟨ns, z⟩ := r.at_; ⟨ns, by rw [upd_ne ne.symm]; exact z⟩⟩
/-- the script is read behind every draw -/
theorem Dr.script {K : PySem.W.Frag} {d a : Addr} {H H1 H' : Hp} {xs : List V} (h : SqL K H a xs) (n : H d = none) (s : Same H H1) (r : Dr d H1 H') : SqL K H' a xs := by
  rcases h with (h | ⟨o, h⟩) | h
  · exact .inl (.inl (r.keep _ _ (ne_of_none h n) (s _ _ h)))
  · exact .inl (.inr ⟨o, r.keep _ _ (ne_of_none h n) (s _ _ h)⟩)
  · exact .inr h
theorem same_keep {H H' : Hp} {p : Addr} {o : HO} (s : Same H H') (n : H p = none) : Same H (upd H' p o) := fun b x e => by
  rw [upd_ne (ne_of_none e n)]
  exact s b x e

/-! a plan in the heap -/
structure Mt where
  name : Str
  low : Int
  high : Int
  err : Int
structure Pl where
  len : Int
  ms : List Mt
def MtAt (H : Hp) (t : Addr) (m : Mt) : Prop := H t = some (.tup [.str m.name, .int m.low, .int m.high, .int m.err])
structure PlanAt (H : Hp) (p tm : Addr) (ts : List Addr) (P : Pl) : Prop where
  top : H p = some (.tup [.int P.len, .ref tm])
  mid : H tm = some (.tup (ts.map V.ref))
  low : Paired (MtAt H) ts P.ms
/-- the names in the order of the alphabet, each once -/
def Risen (l : List Str) : Prop := sortedS l = true ∧ l.Nodup
structure MtOk (c : Int) (m : Mt) : Prop where
  order : m.low ≤ m.high
  err0 : 0 ≤ m.err
  err1 : m.err ≤ 60
  lowB : m.low.natAbs ≤ c.natAbs + 3
  highB : m.high.natAbs ≤ 2 * c.natAbs + 3 + 10 ^ 20
structure PlanOk (c : Int) (P : Pl) : Prop where
  len : 1 ≤ P.len
  lenB : P.len ≤ c.natAbs + 60
  some_ : P.ms ≠ []
  few : P.ms.length ≤ 6
  risen : Risen (P.ms.map Mt.name)
  each : ∀ m ∈ P.ms, MtOk c m
theorem Dr.tup {d t : Addr} {H H' : Hp} {xs : List V} (r : Dr d H H') (h : DrA H d) (e : H t = some (.tup xs)) : H' t = some (.tup xs) := by
  obtain ⟨ns, z⟩ := h
  exact r.keep _ _ (ne_of e z (fun q => nomatch q)) e
theorem Dr.mts {d : Addr} {H H' : Hp} (r : Dr d H H') (h : DrA H d) : ∀ {ts : List Addr} {ms : List Mt}, Paired (MtAt H) ts ms → Paired (MtAt H') ts ms
  | _, _, .nil => .nil
  | _, _, .cons a b => .cons (r.tup h a) (Dr.mts r h b)
theorem Dr.plan {d p tm : Addr} {H H' : Hp} {ts : List Addr} {P : Pl} (r : Dr d H H') (h : DrA H d) (x : PlanAt H p tm ts P) : PlanAt H' p tm ts P := ⟨r.tup h x.top, r.tup h x.mid, r.mts h x.low⟩
theorem same_mts {H H' : Hp} (r : Same H H') : ∀ {ts : List Addr} {ms : List Mt}, Paired (MtAt H) ts ms → Paired (MtAt H') ts ms
  | _, _, .nil => .nil
  | _, _, .cons a b => .cons (r _ _ a) (same_mts r b)
theorem PlanAt.same {p tm : Addr} {H H' : Hp} {ts : List Addr} {P : Pl} (r : Same H H') (x : PlanAt H p tm ts P) : PlanAt H' p tm ts P := ⟨r _ _ x.top, r _ _ x.mid, same_mts r x.low⟩
theorem pick {xs : List Int} {vs : List V} {k : Int} (e : vs = xs.map V.int) (h0 : 0 ≤ k) (h1 : k < xs.length) : ∃ v, v ∈ xs ∧ atI vs k = some (.int v) := by
  rw [e]
  exact ⟨_, List.getElem_mem _, atM_pos h0 h1⟩
theorem abs_eq (c : Int) : (if c < 0 then -c else c) = (c.natAbs : Int) := by
  by_cases h : c < 0
  · rw [if_pos h]
    omega
  · rw [if_neg h]
    omega
theorem paired_snoc {α β : Type} {R : α → β → Prop} {xs : List α} {ys : List β} {a : α} {b : β} (h : Paired R xs ys) (r : R a b) : Paired R (xs ++ [a]) (ys ++ [b]) := h.snoc r
theorem map_snoc {ts : List Addr} {t : Addr} : ts.map V.ref ++ [V.ref t] = (ts ++ [t]).map V.ref := by
  rw [List.map_append]
  rfl
/-- a name: letters a to z, one or more, not many -/
def IsW (w : Str) : Prop := w.cps.toList ≠ [] ∧ (∀ c ∈ w.cps.toList, 97 ≤ c ∧ c ≤ 122) ∧ w.length ≤ 200
theorem mts_at {H : Hp} : ∀ {ts : List Addr} {ms : List Mt} {i : Nat} {t : Addr}, Paired (MtAt H) ts ms → ts[i]? = some t → ∃ m, ms[i]? = some m ∧ MtAt H t m
  | _, _, _, _, .nil, h => by simp at h
  | _, _, 0, _, .cons a _, h => by
    cases (Option.some.inj h)
    exact ⟨_, rfl, a⟩
  | _, _, i + 1, _, .cons _ r, h => mts_at (i := i) r h
def mtOf (H : Hp) (t : Addr) : Mt := match H t with
  | some (.tup [.str n, .int a, .int b, .int c]) => ⟨n, a, b, c⟩
  | _ => ⟨⟨#[]⟩, 0, 0, 0⟩
theorem mtOf_at {H : Hp} {t : Addr} {m : Mt} (h : MtAt H t m) : mtOf H t = m := by
  unfold mtOf
  rw [show H t = some (.tup [.str m.name, .int m.low, .int m.high, .int m.err]) from h]
theorem mts_map {H : Hp} : ∀ {ts : List Addr} {ms : List Mt}, Paired (MtAt H) ts ms → ms = ts.map (mtOf H) ∧ ∀ t ∈ ts, MtAt H t (mtOf H t)
  | _, _, .nil => ⟨rfl, fun _ z => nomatch z⟩
  | t :: ts, _ :: ms, .cons a r => by
    obtain ⟨e, k⟩ := mts_map r
    refine ⟨by rw [List.map_cons, mtOf_at a, ← e], fun x hx => ?_⟩
    rcases List.mem_cons.mp hx with rfl | z
    · rw [mtOf_at a]
      exact a
    · exact k x z
theorem mts_of {H : Hp} : ∀ (ts : List Addr), (∀ t ∈ ts, MtAt H t (mtOf H t)) → Paired (MtAt H) ts (ts.map (mtOf H))
  | [], _ => .nil
  | t :: ts, h => .cons (h t List.mem_cons_self) (mts_of ts fun x hx => h x (List.mem_cons_of_mem _ hx))
theorem refs_perm {ys : List V} {ts : List Addr} (p : ys.Perm (ts.map V.ref)) : ∃ us : List Addr, ys = us.map V.ref ∧ us.Perm ts := by
  have g : ∀ ys : List V, (∀ y ∈ ys, ∃ t, y = V.ref t) → ∃ us : List Addr, ys = us.map V.ref := by
    intro ys
    induction ys with
    | nil => exact fun _ => ⟨[], rfl⟩
    | cons y ys ih =>
      intro h
      obtain ⟨t, rfl⟩ := h y List.mem_cons_self
      obtain ⟨us, e⟩ := ih fun u hu => h u (List.mem_cons_of_mem _ hu)
      exact ⟨t :: us, by rw [e]; rfl⟩
  obtain ⟨us, rfl⟩ := g ys fun y hy => by
    obtain ⟨t, _, e⟩ := List.mem_map.mp (p.mem_iff.mp hy)
    exact ⟨t, e.symm⟩
  refine ⟨us, rfl, ?_⟩
  have q := p.map (fun v => match v with | .ref a => a | _ => 0)
  rw [List.map_map, List.map_map] at q
  have e : ∀ l : List Addr, l.map ((fun v => match v with | .ref a => a | _ => 0) ∘ V.ref) = l := fun l => by
    have : ((fun v => match v with | V.ref a => a | _ => 0) ∘ V.ref) = (id : Addr → Addr) := rfl
    rw [this, List.map_id]
  rw [e, e] at q
  exact q
theorem in_names {x : Str} : ∀ ns : List Str, inV (.str x) (ns.map V.str) = decide (x ∈ ns)
  | [] => by simp [inV]
  | n :: ns => by
    have ih := in_names (x := x) ns
    unfold inV at ih ⊢
    rw [List.map_cons, List.any_cons, ih]
    by_cases e : n = x
    · subst e
      simp [eqV]
    · have e1 : eqV (.str n) (.str x) = false := beq_eq_false_iff_ne.mpr e
      have e2 : ¬ x = n := fun z => e z.symm
      rw [e1, Bool.false_or, decide_eq_decide]
      simp [List.mem_cons, e2]
theorem flat_names (ns : List Str) : (ns.map V.str).all flatV = true := by
  rw [List.all_map, List.all_eq_true]
  exact fun _ _ => rfl

/-! a list or a tuple, walked -/
theorem pi_either {X : Cx} {tg l : Expr} {tl : TE} (hl : PE X l tl) : PI X tg l (fun σ H R => iList X.K tl σ H R ∨ iTup X.K tl σ H R) :=
  ⟨fun pins s σ H R I h => h.elim ((pi_list hl).run pins s σ H R I) ((pi_tup hl).run pins s σ H R I)⟩
/-! texts -/
theorem str_ext {a b : Str} (h : a.cps.toList = b.cps.toList) : a = b := by
  cases a with
  | mk x =>
    cases b with
    | mk y =>
      congr 1
      exact Array.ext' h
theorem cps_app (a b : Str) : (a ++ b).cps.toList = a.cps.toList ++ b.cps.toList := by
  show (a.cps ++ b.cps).toList = _
  simp
theorem len_app (a b : Str) : (a ++ b).length = a.length + b.length := by
  show (a.cps ++ b.cps).size = a.cps.size + b.cps.size
  simp
theorem app_assoc (a b c : Str) : a ++ b ++ c = a ++ (b ++ c) := str_ext (by simp only [cps_app, List.append_assoc])
theorem app_empty (a : Str) : a ++ Str.empty = a := str_ext (by rw [cps_app]; exact List.append_nil _)
theorem empty_app (a : Str) : Str.empty ++ a = a := str_ext (by rw [cps_app]; rfl)
/-! letters of a bag -/
inductive Lt where
  | read (n : Str) (slot ver at_ : Int) (v : Option Int)
  | close (n : Str) (aft at_ wit : Int)
  | clock (n : Str) (lo hi : Int)
def optV : Option Int → V
  | none => .non
  | some i => .int i
def Lt.vals : Lt → List V
  | .read n s v a x => [.str "read", .str n, .int s, .int v, .int a, optV x]
  | .close n f a w => [.str "close", .str n, .int f, .int a, .int w]
  | .clock n l h => [.str "clock", .str n, .int l, .int h]
def Lt.name : Lt → Str
  | .read n _ _ _ _ => n
  | .close n _ _ _ => n
  | .clock n _ _ => n
abbrev intT (i : Int) : Str := ((toString i : String) : Str)
def optT : Option Int → Str
  | none => "void"
  | some i => intT i
def Lt.words : Lt → List Str
  | .read n s v a x => ["read", n, "slot", intT s, "version", intT v, "at", intT a, "is", optT x]
  | .close n f a w => ["close", n, "after", intT f, "at", intT a, "with", intT w]
  | .clock n l h => ["clock", n, "from", intT l, "to", intT h]
def Lt.line (l : Lt) : Str := Txt.join " " l.words
/-- a number of at most 60 digits -/
def Nr (i : Int) : Prop := i.natAbs < 10 ^ 60
def Lt.Ok : Lt → Prop
  | .read n s v a x => IsW n ∧ 1 ≤ s ∧ 0 ≤ v ∧ Nr s ∧ Nr v ∧ Nr a ∧ ∀ i, x = some i → Nr i
  | .close n f a w => IsW n ∧ 0 ≤ f ∧ 0 ≤ w ∧ Nr f ∧ Nr a ∧ Nr w
  | .clock n l h => IsW n ∧ Nr l ∧ Nr h
def LtAt (H : Hp) (t : Addr) (l : Lt) : Prop := H t = some (.tup l.vals)
theorem Nr.log {i : Int} (h : Nr i) : i.natAbs.log2 < 1920 := by
  by_cases e : i.natAbs = 0
  · rw [e]
    decide
  · refine (Nat.log2_lt e).mpr (Nat.lt_trans h ?_)
    decide
theorem Nr.len {i : Int} (h : Nr i) : (intT i).length ≤ 61 := by
  have e := int_text_length_le10 (k := 60) (by decide) h
  show (Str.ofString (toString i)).length ≤ 61
  rw [PySem.ofString_length]
  exact e
theorem optT_len {x : Option Int} (h : ∀ i, x = some i → Nr i) : (optT x).length ≤ 61 := by
  cases x with
  | none => decide +kernel
  | some i => exact (h i rfl).len
/-- the line of a letter and its newline -/
def Lt.row (l : Lt) : Str := l.line ++ ("\n" : Str)
def rows (ls : List Lt) : Str := Txt.join "" (ls.map Lt.row)
theorem join_one (s a : Str) : Txt.join s [a] = a := rfl
theorem line_read (n : Str) (s v a : Int) (x : Option Int) : (Lt.read n s v a x).line = ("read " : Str) ++ n ++ (" slot " : Str) ++ intT s ++ (" version " : Str) ++ intT v ++ (" at " : Str) ++ intT a ++ (" is " : Str) ++ optT x := by
  have c1 : ("read " : Str) = ("read" : Str) ++ (" " : Str) := by decide +kernel
  have c2 : (" slot " : Str) = (" " : Str) ++ ("slot" : Str) ++ (" " : Str) := by decide +kernel
  have c3 : (" version " : Str) = (" " : Str) ++ ("version" : Str) ++ (" " : Str) := by decide +kernel
  have c4 : (" at " : Str) = (" " : Str) ++ ("at" : Str) ++ (" " : Str) := by decide +kernel
  have c5 : (" is " : Str) = (" " : Str) ++ ("is" : Str) ++ (" " : Str) := by decide +kernel
  rw [c1, c2, c3, c4, c5]
  show ("read" : Str) ++ (" " : Str) ++ n ++ (" " : Str) ++ ("slot" : Str) ++ (" " : Str) ++ intT s ++ (" " : Str) ++ ("version" : Str) ++ (" " : Str) ++ intT v ++ (" " : Str) ++ ("at" : Str) ++ (" " : Str) ++ intT a ++ (" " : Str) ++ ("is" : Str) ++ (" " : Str) ++ optT x = _
  simp only [app_assoc]
theorem line_close (n : Str) (f a w : Int) : (Lt.close n f a w).line = ("close " : Str) ++ n ++ (" after " : Str) ++ intT f ++ (" at " : Str) ++ intT a ++ (" with " : Str) ++ intT w := by
  have c1 : ("close " : Str) = ("close" : Str) ++ (" " : Str) := by decide +kernel
  have c2 : (" after " : Str) = (" " : Str) ++ ("after" : Str) ++ (" " : Str) := by decide +kernel
  have c4 : (" at " : Str) = (" " : Str) ++ ("at" : Str) ++ (" " : Str) := by decide +kernel
  have c5 : (" with " : Str) = (" " : Str) ++ ("with" : Str) ++ (" " : Str) := by decide +kernel
  rw [c1, c2, c4, c5]
  show ("close" : Str) ++ (" " : Str) ++ n ++ (" " : Str) ++ ("after" : Str) ++ (" " : Str) ++ intT f ++ (" " : Str) ++ ("at" : Str) ++ (" " : Str) ++ intT a ++ (" " : Str) ++ ("with" : Str) ++ (" " : Str) ++ intT w = _
  simp only [app_assoc]
theorem line_clock (n : Str) (l h : Int) : (Lt.clock n l h).line = ("clock " : Str) ++ n ++ (" from " : Str) ++ intT l ++ (" to " : Str) ++ intT h := by
  have c1 : ("clock " : Str) = ("clock" : Str) ++ (" " : Str) := by decide +kernel
  have c2 : (" from " : Str) = (" " : Str) ++ ("from" : Str) ++ (" " : Str) := by decide +kernel
  have c4 : (" to " : Str) = (" " : Str) ++ ("to" : Str) ++ (" " : Str) := by decide +kernel
  rw [c1, c2, c4]
  show ("clock" : Str) ++ (" " : Str) ++ n ++ (" " : Str) ++ ("from" : Str) ++ (" " : Str) ++ intT l ++ (" " : Str) ++ ("to" : Str) ++ (" " : Str) ++ intT h = _
  simp only [app_assoc]
theorem Lt.Ok.word {l : Lt} (h : l.Ok) : IsW l.name := by
  cases l <;> exact h.1
theorem Lt.Ok.row_len {l : Lt} (h : l.Ok) : l.row.length ≤ 1000 := by
  show (l.line ++ ("\n" : Str)).length ≤ 1000
  have w := h.word.2.2
  have k1 : (("\n" : Str)).length ≤ 10 := by decide +kernel
  cases l with
  | read n s v a x =>
    obtain ⟨_, _, _, a1, a2, a3, a4⟩ := h
    have b1 := a1.len
    have b2 := a2.len
    have b3 := a3.len
    have b4 := optT_len a4
    have d1 : (("read " : Str)).length ≤ 10 := by decide +kernel
    have d2 : ((" slot " : Str)).length ≤ 10 := by decide +kernel
    have d3 : ((" version " : Str)).length ≤ 10 := by decide +kernel
    have d4 : ((" at " : Str)).length ≤ 10 := by decide +kernel
    have d5 : ((" is " : Str)).length ≤ 10 := by decide +kernel
    have w' : n.length ≤ 200 := w
    rw [line_read]
    simp only [len_app]
    omega
  | close n f a v =>
    obtain ⟨_, _, _, a1, a2, a3⟩ := h
    have b1 := a1.len
    have b2 := a2.len
    have b3 := a3.len
    have d1 : (("close " : Str)).length ≤ 10 := by decide +kernel
    have d2 : ((" after " : Str)).length ≤ 10 := by decide +kernel
    have d3 : ((" with " : Str)).length ≤ 10 := by decide +kernel
    have d4 : ((" at " : Str)).length ≤ 10 := by decide +kernel
    have w' : n.length ≤ 200 := w
    rw [line_close]
    simp only [len_app]
    omega
  | clock n lo hi =>
    obtain ⟨_, a1, a2⟩ := h
    have b1 := a1.len
    have b2 := a2.len
    have d1 : (("clock " : Str)).length ≤ 10 := by decide +kernel
    have d2 : ((" from " : Str)).length ≤ 10 := by decide +kernel
    have d3 : ((" to " : Str)).length ≤ 10 := by decide +kernel
    have w' : n.length ≤ 200 := w
    rw [line_clock]
    simp only [len_app]
    omega
theorem isW_no10 {n : Str} (h : IsW n) : 10 ∉ n.cps.toList := fun z => by
  have := h.2.1 10 z
  omega
theorem int_no10 (i : Int) : 10 ∉ (intT i).cps.toList := PyProof.Rows.int_text_free' 10 ⟨by decide, .inl (by decide)⟩ i
theorem opt_no10 (x : Option Int) : 10 ∉ (optT x).cps.toList := by
  cases x with
  | none => decide +kernel
  | some i => exact int_no10 i
theorem Lt.Ok.no10 {l : Lt} (h : l.Ok) : 10 ∉ l.line.cps.toList := by
  have w := isW_no10 h.word
  cases l with
  | read n s v a x =>
    have w' : 10 ∉ n.cps.toList := w
    rw [line_read]
    simp only [cps_app, List.mem_append, not_or]
    exact ⟨⟨⟨⟨⟨⟨⟨⟨⟨by decide +kernel, w'⟩, by decide +kernel⟩, int_no10 _⟩, by decide +kernel⟩, int_no10 _⟩, by decide +kernel⟩, int_no10 _⟩, by decide +kernel⟩, opt_no10 _⟩
  | close n f a v =>
    have w' : 10 ∉ n.cps.toList := w
    rw [line_close]
    simp only [cps_app, List.mem_append, not_or]
    exact ⟨⟨⟨⟨⟨⟨⟨by decide +kernel, w'⟩, by decide +kernel⟩, int_no10 _⟩, by decide +kernel⟩, int_no10 _⟩, by decide +kernel⟩, int_no10 _⟩
  | clock n lo hi =>
    have w' : 10 ∉ n.cps.toList := w
    rw [line_clock]
    simp only [cps_app, List.mem_append, not_or]
    exact ⟨⟨⟨⟨⟨by decide +kernel, w'⟩, by decide +kernel⟩, int_no10 _⟩, by decide +kernel⟩, int_no10 _⟩
theorem rows_eq (ls : List Lt) : rows ls = Str.join "" (ls.map Lt.row) := PySem.StrLaws.glued_eq_join _ _
theorem rows_cons (l : Lt) (ls : List Lt) : rows (l :: ls) = l.row ++ rows ls := by
  rw [rows_eq, rows_eq]
  cases ls with
  | nil =>
    show l.row = l.row ++ Str.empty
    rw [app_empty]
  | cons m ms =>
    show l.row ++ ("" : Str) ++ Str.join "" (m.row :: ms.map Lt.row) = l.row ++ Str.join "" (m.row :: ms.map Lt.row)
    have e : ("" : Str) = Str.empty := by decide +kernel
    rw [e, app_empty]
theorem sum_rows : ∀ {ls : List Lt}, (∀ l ∈ ls, l.Ok) → ((ls.map Lt.row).map (·.length)).sum ≤ ls.length * 1000
  | [], _ => Nat.le_refl 0
  | l :: ls, h => by
    have a := (h l List.mem_cons_self).row_len
    have b := sum_rows (ls := ls) fun m hm => h m (List.mem_cons_of_mem _ hm)
    simp only [List.map_cons, List.sum_cons, List.length_cons]
    omega
theorem rows_fit {ls : List Lt} {n : Nat} (h : ∀ l ∈ ls, l.Ok) (hn : ls.length ≤ n) (h2 : n ≤ 16000) : ((ls.map Lt.row).map (·.length)).sum + (ls.map Lt.row).length * (("" : Str)).length ≤ 16777216 := by
  have a := sum_rows h
  have e : (("" : Str)).length = 0 := by decide +kernel
  rw [e, Nat.mul_zero, Nat.add_zero]
  omega
theorem same_lts {H H' : Hp} (r : Same H H') : ∀ {ts : List Addr} {ls : List Lt}, Paired (LtAt H) ts ls → Paired (LtAt H') ts ls
  | _, _, .nil => .nil
  | _, _, .cons a b => .cons (r _ _ a) (same_lts r b)
theorem Dr.lts {d : Addr} {H H' : Hp} (r : Dr d H H') (h : DrA H d) : ∀ {ts : List Addr} {ls : List Lt}, Paired (LtAt H) ts ls → Paired (LtAt H') ts ls
  | _, _, .nil => .nil
  | _, _, .cons a b => .cons (r.tup h a) (Dr.lts r h b)
theorem lts_at {H : Hp} : ∀ {ts : List Addr} {ls : List Lt} {i : Nat} {t : Addr}, Paired (LtAt H) ts ls → ts[i]? = some t → ∃ l, ls[i]? = some l ∧ LtAt H t l
  | _, _, _, _, .nil, h => by simp at h
  | _, _, 0, _, .cons a _, h => by
    cases (Option.some.inj h)
    exact ⟨_, rfl, a⟩
  | _, _, i + 1, _, .cons _ r, h => lts_at (i := i) r h
theorem nl_eq : ("\n" : Str) = ⟨#[10]⟩ := by decide +kernel
theorem find_nl {z : Str} {a b : List Nat} (h : z.cps.toList = a ++ 10 :: b) (h0 : 10 ∉ a) : Txt.find z "\n" = (a.length : Int) := by
  rw [nl_eq]
  have at_ : z.cps.toList[a.length]? = some 10 := by rw [h]; simp
  rcases PyProof.Rows.find_whole z ⟨#[10]⟩ with ⟨_, n⟩ | ⟨i, e, hi, n⟩
  · exact absurd ((StrLaws.subAt_one z 10 a.length).mpr at_) (n a.length)
  · have q := (StrLaws.subAt_one z 10 i).mp hi
    rw [e]
    rcases Nat.lt_trichotomy i a.length with z' | z' | z'
    · exfalso
      rw [h, List.getElem?_append_left z', List.getElem?_eq_getElem z'] at q
      exact h0 (by rw [← Option.some.inj q]; exact List.getElem_mem z')
    · rw [z']
    · exact absurd ((StrLaws.subAt_one z 10 a.length).mpr at_) (n a.length z')
theorem find_nil : Txt.find Str.empty "\n" = -1 := by
  rw [nl_eq]
  rcases PyProof.Rows.find_whole Str.empty ⟨#[10]⟩ with ⟨e, _⟩ | ⟨i, e, hi, n⟩
  · exact e
  · have q := (StrLaws.subAt_one Str.empty 10 i).mp hi
    exact absurd q (by simp [Str.empty])
theorem cut_to (z : Str) (k : Nat) : cutS z none (some (k : Int)) = ⟨(z.cps.toList.take k).toArray⟩ := by
  have e : z.cps.size = z.cps.toList.length := by simp
  show Str.mk ((z.cps.toList.drop (HT.sIx z.length 0 none)).take (HT.sIx z.length z.length (some (k : Int)) - HT.sIx z.length 0 none)).toArray = _
  rw [HT.sIx_none, HT.sIx_nat, List.drop_zero, Nat.sub_zero]
  have e2 : z.cps.toList.take (min k z.length) = z.cps.toList.take k := by
    show z.cps.toList.take (min k z.cps.size) = _
    rw [e, ← List.take_eq_take_min]
  rw [e2]
/-- a text up to its first newline -/
theorem cut_find {ls : List Lt} (ok : ∀ l ∈ ls, l.Ok) : cutS (rows ls) none (some (Txt.find (rows ls) "\n" + 1)) = rows (ls.take 1) := by
  cases ls with
  | nil =>
    show cutS (rows []) none (some (Txt.find Str.empty "\n" + 1)) = rows []
    rw [find_nil]
    show cutS (rows []) none (some ((0 : Nat) : Int)) = rows []
    rw [cut_to]
    rfl
  | cons l r =>
    have e : (rows (l :: r)).cps.toList = l.line.cps.toList ++ 10 :: (rows r).cps.toList := by
      rw [rows_cons, cps_app]
      show (l.line ++ ("\n" : Str)).cps.toList ++ _ = _
      rw [cps_app, nl_eq, List.append_assoc]
      rfl
    rw [find_nl e (ok l List.mem_cons_self).no10]
    have c : ((l.line.cps.toList.length : Int) + 1) = ((l.line.cps.toList.length + 1 : Nat) : Int) := by omega
    rw [c, cut_to, e]
    show _ = rows [l]
    rw [rows_cons]
    show _ = l.row ++ Str.empty
    rw [app_empty]
    refine str_ext ?_
    show (((l.line.cps.toList ++ 10 :: (rows r).cps.toList).take (l.line.cps.toList.length + 1)).toArray).toList = (l.line ++ ("\n" : Str)).cps.toList
    rw [cps_app, nl_eq, List.take_append]
    simp
    exact List.take_of_length_le (by simp)
/-- lists cut and put one behind the other -/
theorem paired_take {α β : Type} {R : α → β → Prop} : ∀ {us : List α} {ls : List β} (k : Nat), Paired R us ls → Paired R (us.take k) (ls.take k)
  | _, _, 0, _ => by simp only [List.take_zero]; exact .nil
  | _, _, k + 1, .nil => .nil
  | _, _, k + 1, .cons a b => .cons a (paired_take k b)
theorem paired_app {α β : Type} {R : α → β → Prop} : ∀ {us : List α} {ls : List β} {us' : List α} {ls' : List β}, Paired R us ls → Paired R us' ls' → Paired R (us ++ us') (ls ++ ls')
  | _, _, _, _, .nil, h => h
  | _, _, _, _, .cons a b, h => .cons a (paired_app b h)
theorem paired_rep {α β : Type} {R : α → β → Prop} {us : List α} {ls : List β} (h : Paired R us ls) : ∀ k : Nat, Paired R (List.replicate k us).flatten (List.replicate k ls).flatten
  | 0 => .nil
  | k + 1 => paired_app h (paired_rep h k)
theorem map_rep {α β : Type} (f : α → β) (xs : List α) : ∀ k : Nat, (List.replicate k (xs.map f)).flatten = ((List.replicate k xs).flatten).map f
  | 0 => rfl
  | k + 1 => by
    show xs.map f ++ (List.replicate k (xs.map f)).flatten = (xs ++ (List.replicate k xs).flatten).map f
    rw [map_rep f xs k, List.map_append]
theorem mem_rep {α : Type} {xs : List α} {x : α} : ∀ {k : Nat}, x ∈ (List.replicate k xs).flatten → x ∈ xs
  | 0, h => by simp at h
  | k + 1, h => by
    have h' : x ∈ xs ++ (List.replicate k xs).flatten := h
    rcases List.mem_append.mp h' with z | z
    · exact z
    · exact mem_rep z
theorem len_rep {α : Type} (xs : List α) : ∀ k : Nat, ((List.replicate k xs).flatten).length = k * xs.length
  | 0 => by simp
  | k + 1 => by
    show (xs ++ (List.replicate k xs).flatten).length = _
    rw [List.length_append, len_rep xs k, Nat.succ_mul, Nat.add_comm]
theorem cutV_to (xs : List V) (k : Nat) : cutV xs none (some (k : Int)) = xs.take k := by
  show (xs.drop (HT.sIx xs.length 0 none)).take (HT.sIx xs.length xs.length (some (k : Int)) - HT.sIx xs.length 0 none) = _
  rw [HT.sIx_none, HT.sIx_nat, List.drop_zero, Nat.sub_zero, ← List.take_eq_take_min]
/-! letters as data -/
def optD : Option Int → PyData
  | none => .none
  | some i => .int i
def ltD : Lt → PyData
  | .read n s v a x => .tuple [.str "read", .str n, .int s, .int v, .int a, optD x]
  | .close n f a w => .tuple [.str "close", .str n, .int f, .int a, .int w]
  | .clock n l h => .tuple [.str "clock", .str n, .int l, .int h]
theorem opt_dp {K : PySem.W.Frag} {H : Hp} (x : Option Int) : Dp K H (optV x) (optD x) := by
  cases x with
  | none => exact .non
  | some i => exact .int i
theorem lt_dp {K : PySem.W.Frag} {H : Hp} {t : Addr} {l : Lt} (h : LtAt H t l) : Dp K H (.ref t) (ltD l) := by
  cases l with
  | read n s v a x => exact .tup (.inl (.inl h)) (.cons (.str _) (.cons (.str _) (.cons (.int _) (.cons (.int _) (.cons (.int _) (.cons (opt_dp x) .nil))))))
  | close n f a w => exact .tup (.inl (.inl h)) (.cons (.str _) (.cons (.str _) (.cons (.int _) (.cons (.int _) (.cons (.int _) .nil)))))
  | clock n l h' => exact .tup (.inl (.inl h)) (.cons (.str _) (.cons (.str _) (.cons (.int _) (.cons (.int _) .nil))))
theorem lts_dp {K : PySem.W.Frag} {H : Hp} : ∀ {ts : List Addr} {ls : List Lt}, Paired (LtAt H) ts ls → DpAll K H (ts.map V.ref) (ls.map ltD)
  | _, _, .nil => .nil
  | _, _, .cons a b => .cons (lt_dp a) (lts_dp b)
theorem isW_ok {n : Str} (h : IsW n) : PyData.strOk n = true := by
  unfold PyData.strOk
  rw [Array.all_eq_true]
  intro i hi
  have := h.2.1 n.cps[i] (by simp)
  exact decide_eq_true (by omega)
theorem lt_lay {l : Lt} (h : l.Ok) : (ltD l).canLay0 = true := by
  have w := isW_ok h.word
  cases l with
  | read n s v a x =>
    have w' : PyData.strOk n = true := w
    have k : PyData.strOk "read" = true := by decide +kernel
    cases x <;> simp [ltD, optD, PyData.canLay0, PyData.canLayAll0, w', k]
  | close n f a v =>
    have w' : PyData.strOk n = true := w
    have k : PyData.strOk "close" = true := by decide +kernel
    simp [ltD, PyData.canLay0, PyData.canLayAll0, w', k]
  | clock n lo hi =>
    have w' : PyData.strOk n = true := w
    have k : PyData.strOk "clock" = true := by decide +kernel
    simp [ltD, PyData.canLay0, PyData.canLayAll0, w', k]
theorem lt_deep (l : Lt) : (ltD l).depth = 1 := by
  cases l with
  | read n s v a x => cases x <;> rfl
  | close => rfl
  | clock => rfl
theorem lts_lay : ∀ {ls : List Lt}, (∀ l ∈ ls, l.Ok) → PyData.canLayAll0 (ls.map ltD) = true
  | [], _ => rfl
  | l :: ls, h => by
    show ((ltD l).canLay0 && PyData.canLayAll0 (ls.map ltD)) = true
    rw [lt_lay (h l List.mem_cons_self), lts_lay fun m hm => h m (List.mem_cons_of_mem _ hm)]
    rfl
theorem lts_deep : ∀ ls : List Lt, PyData.depthAll (ls.map ltD) ≤ 1
  | [] => Nat.zero_le _
  | l :: ls => by
    show max (ltD l).depth (PyData.depthAll (ls.map ltD)) ≤ 1
    rw [lt_deep]
    exact Nat.max_le.mpr ⟨Nat.le_refl _, lts_deep ls⟩
theorem bag_shaped {ls : List Lt} (h : ∀ l ∈ ls, l.Ok) : SeqAt.shaped (.list (ls.map ltD)) = true := by
  unfold SeqAt.shaped
  rw [Bool.and_eq_true]
  refine ⟨lts_lay h, decide_eq_true ?_⟩
  have := lts_deep ls
  show PyData.depthAll (ls.map ltD) + 1 ≤ 64
  omega
theorem bag_same {ls : List Lt} (h : ∀ l ∈ ls, l.Ok) : PyData.eqv (.list (ls.map ltD)) (.list (ls.map ltD)) = true := SeqAt.eqv_refl _ (lts_lay h)
/-- the words of the written form, as the module's dict has them -/
def WordsAt (K : PySem.W.Frag) (w : World) (a : Addr) : Prop := ∃ tr tc tk : Addr, KDct K w a "read" (.ref tr) ∧ KDct K w a "close" (.ref tc) ∧ KDct K w a "clock" (.ref tk) ∧
  (∀ H, SqT K H tr [.str "slot", .str "version", .str "at", .str "is"]) ∧ (∀ H, SqT K H tc [.str "after", .str "at", .str "with"]) ∧ ∀ H, SqT K H tk [.str "from", .str "to"]
def Lt.kind : Lt → Str
  | .read .. => "read"
  | .close .. => "close"
  | .clock .. => "clock"
def Lt.mid : Lt → List Str
  | .read .. => ["slot", "version", "at", "is"]
  | .close .. => ["after", "at", "with"]
  | .clock .. => ["from", "to"]
def Lt.nums : Lt → List (Option Int)
  | .read _ s v a x => [some s, some v, some a, x]
  | .close _ f a w => [some f, some a, some w]
  | .clock _ l h => [some l, some h]
theorem Lt.vals_eq (l : Lt) : l.vals = .str l.kind :: .str l.name :: l.nums.map optV := by
  cases l <;> rfl
/-- the parts of a line, up to the i-th number -/
def Lt.upto (l : Lt) (i : Nat) : List Str := l.kind :: l.name :: ((l.mid.zip (l.nums.map optT)).take i).flatMap fun p => [p.1, p.2]
theorem Lt.upto_all (l : Lt) : l.upto l.mid.length = l.words := by
  cases l <;> rfl
theorem Lt.mid_nums (l : Lt) : l.mid.length = l.nums.length := by
  cases l <;> rfl
theorem Lt.mid_le (l : Lt) : l.mid.length ≤ 4 := by
  cases l
  · exact (by decide : 4 ≤ 4)
  · exact (by decide : 3 ≤ 4)
  · exact (by decide : 2 ≤ 4)
theorem Lt.upto_succ {l : Lt} {i : Nat} {a : Str} {x : Option Int} (h1 : l.mid[i]? = some a) (h2 : l.nums[i]? = some x) : l.upto (i + 1) = l.upto i ++ [a] ++ [optT x] := by
  have e : (l.mid.zip (l.nums.map optT))[i]? = some (a, optT x) := by
    rw [List.getElem?_zip_eq_some]
    exact ⟨h1, by rw [List.getElem?_map, h2]; rfl⟩
  unfold Lt.upto
  rw [List.take_add_one, e, List.flatMap_append, ← List.cons_append, ← List.cons_append, List.append_assoc]
  rfl
theorem Lt.upto_len (l : Lt) (i : Nat) (h : i ≤ 4) : (l.upto i).length ≤ 10 := by
  have e : ∀ (m : List (Str × Str)), (m.flatMap fun p => [p.1, p.2]).length = 2 * m.length := fun m => by
    induction m with
    | nil => rfl
    | cons p r ih =>
      rw [List.flatMap_cons, List.length_append, ih]
      show 2 + 2 * r.length = 2 * (r.length + 1)
      omega
  show (((l.mid.zip (l.nums.map optT)).take i).flatMap fun p => [p.1, p.2]).length + 2 ≤ 10
  rw [e, List.length_take]
  omega
theorem Lt.Ok.nr {l : Lt} (h : l.Ok) : ∀ i, some i ∈ l.nums → Nr i := by
  cases l with
  | read n s v a x =>
    obtain ⟨_, _, _, a1, a2, a3, a4⟩ := h
    intro i hi
    simp only [Lt.nums, List.mem_cons, List.not_mem_nil, or_false, Option.some.injEq] at hi
    rcases hi with rfl | rfl | rfl | z
    · exact a1
    · exact a2
    · exact a3
    · exact a4 i z.symm
  | close n f a v =>
    obtain ⟨_, _, _, a1, a2, a3⟩ := h
    intro i hi
    simp only [Lt.nums, List.mem_cons, List.not_mem_nil, or_false, Option.some.injEq] at hi
    rcases hi with rfl | rfl | rfl
    · exact a1
    · exact a2
    · exact a3
  | clock n lo hi' =>
    obtain ⟨_, a1, a2⟩ := h
    intro i hi
    simp only [Lt.nums, List.mem_cons, List.not_mem_nil, or_false, Option.some.injEq] at hi
    rcases hi with rfl | rfl
    · exact a1
    · exact a2
theorem Lt.Ok.words_fit {l : Lt} (h : l.Ok) : (l.words.map (·.length)).sum + l.words.length * ((" " : Str)).length ≤ 16777216 := by
  have w := h.word.2.2
  have e0 : ((" " : Str)).length ≤ 10 := by decide +kernel
  have m0 : ∀ k : Nat, k ≤ 10 → k * ((" " : Str)).length ≤ 100 := fun k hk => Nat.le_trans (Nat.mul_le_mul hk e0) (by decide)
  cases l with
  | read n s v a x =>
    obtain ⟨_, _, _, a1, a2, a3, a4⟩ := h
    have b1 := a1.len
    have b2 := a2.len
    have b3 := a3.len
    have b4 := optT_len a4
    have d1 : (("read" : Str)).length ≤ 10 := by decide +kernel
    have d2 : (("slot" : Str)).length ≤ 10 := by decide +kernel
    have d3 : (("version" : Str)).length ≤ 10 := by decide +kernel
    have d4 : (("at" : Str)).length ≤ 10 := by decide +kernel
    have d5 : (("is" : Str)).length ≤ 10 := by decide +kernel
    have w' : n.length ≤ 200 := w
    have m := m0 10 (by decide)
    simp only [Lt.words, List.map_cons, List.map_nil, List.sum_cons, List.sum_nil, List.length_cons, List.length_nil]
    omega
  | close n f a v =>
    obtain ⟨_, _, _, a1, a2, a3⟩ := h
    have b1 := a1.len
    have b2 := a2.len
    have b3 := a3.len
    have d1 : (("close" : Str)).length ≤ 10 := by decide +kernel
    have d2 : (("after" : Str)).length ≤ 10 := by decide +kernel
    have d3 : (("with" : Str)).length ≤ 10 := by decide +kernel
    have d4 : (("at" : Str)).length ≤ 10 := by decide +kernel
    have w' : n.length ≤ 200 := w
    have m := m0 8 (by decide)
    simp only [Lt.words, List.map_cons, List.map_nil, List.sum_cons, List.sum_nil, List.length_cons, List.length_nil]
    omega
  | clock n lo hi =>
    obtain ⟨_, a1, a2⟩ := h
    have b1 := a1.len
    have b2 := a2.len
    have d1 : (("clock" : Str)).length ≤ 10 := by decide +kernel
    have d2 : (("from" : Str)).length ≤ 10 := by decide +kernel
    have d3 : (("to" : Str)).length ≤ 10 := by decide +kernel
    have w' : n.length ≤ 200 := w
    have m := m0 6 (by decide)
    simp only [Lt.words, List.map_cons, List.map_nil, List.sum_cons, List.sum_nil, List.length_cons, List.length_nil]
    omega
theorem lts_kept {H H' : Hp} (k : ∀ b xs, H b = some (.tup xs) → H' b = some (.tup xs)) {us : List Addr} {ls : List Lt} (h : Paired (LtAt H) us ls) : Paired (LtAt H') us ls := L2.Paired.mapP h fun _ _ y => k _ _ y
theorem sqL_same {K : PySem.W.Frag} {H H' : Hp} {a : Addr} {xs : List V} (s : Same H H') (h : SqL K H a xs) : SqL K H' a xs := by
  rcases h with (h | ⟨o, h⟩) | h
  · exact .inl (.inl (s _ _ h))
  · exact .inl (.inr ⟨o, s _ _ h⟩)
  · exact .inr h
theorem sqT_same {K : PySem.W.Frag} {H H' : Hp} {a : Addr} {xs : List V} (s : Same H H') (h : SqT K H a xs) : SqT K H' a xs := by
  rcases h with (h | ⟨o, h⟩) | h
  · exact .inl (.inl (s _ _ h))
  · exact .inl (.inr ⟨o, s _ _ h⟩)
  · exact .inr h

/-! names that are none of the plan's -/
theorem pickS {ss : List Str} {vs : List V} {k : Int} (e : vs = ss.map V.str) (h0 : 0 ≤ k) (h1 : k < ss.length) : ∃ v, v ∈ ss ∧ atI vs k = some (.str v) := by
  have il : k.toNat < ss.length := by omega
  rw [e]
  exact ⟨ss[k.toNat], List.getElem_mem _, atI_z (j := k.toNat) (by omega) (by rw [List.getElem?_map, List.getElem?_eq_getElem il]; rfl)⟩
theorem join_cons (a b : Str) (r : List Str) : Str.join "" (a :: b :: r) = a ++ Str.join "" (b :: r) := by
  show a ++ ("" : Str) ++ Str.join "" (b :: r) = _
  refine str_ext ?_
  simp only [cps_app]
  have e : (("" : Str)).cps.toList = [] := by decide +kernel
  rw [e, List.append_nil]
theorem join_has {n : Str} : ∀ {ns : List Str}, n ∈ ns → n.length ≤ (Str.join "" ns).length
  | [], h => nomatch h
  | [a], h => by
    rw [List.mem_singleton.mp h]
    exact Nat.le_refl _
  | a :: b :: r, h => by
    rw [join_cons, len_app]
    rcases List.mem_cons.mp h with z | z
    · rw [z]
      exact Nat.le_add_right _ _
    · exact Nat.le_trans (join_has z) (Nat.le_add_left _ _)
theorem join_len : ∀ {ns : List Str}, (∀ n ∈ ns, n.length ≤ 200) → (Str.join "" ns).length ≤ 200 * ns.length
  | [], _ => by show (0 : Nat) ≤ _; exact Nat.zero_le _
  | [a], h => by
    show a.length ≤ 200 * 1
    exact h a List.mem_cons_self
  | a :: b :: r, h => by
    rw [join_cons, len_app]
    have h1 := h a List.mem_cons_self
    have h2 := join_len fun n hn => h n (List.mem_cons_of_mem a hn)
    simp only [List.length_cons] at h2 ⊢
    omega
theorem join_sum {ns : List Str} (h : ∀ n ∈ ns, n.length ≤ 200) : (ns.map (·.length)).sum ≤ 200 * ns.length := by
  induction ns with
  | nil => exact Nat.zero_le _
  | cons a r ih =>
    have h1 := h a List.mem_cons_self
    have h2 := ih fun n hn => h n (List.mem_cons_of_mem a hn)
    simp only [List.map_cons, List.sum_cons, List.length_cons]
    omega
theorem join_not {ns : List Str} : ¬ Txt.join "" ns ++ "q" ∈ ns := fun h => by
  have e : Txt.join "" ns = Str.join "" ns := PySem.StrLaws.glued_eq_join _ _
  rw [e] at h
  have h1 := join_has h
  rw [len_app] at h1
  have h2 : (("q" : Str)).length = 1 := by decide +kernel
  omega

/-! names in the order of the alphabet -/
theorem lt_or {a b : List Nat} : ltCps b a = false → a ≠ b → ltCps a b = true := by
  induction a generalizing b with
  | nil =>
    intro h ne
    cases b with
    | nil => exact absurd rfl ne
    | cons y b => rfl
  | cons x a ih =>
    intro h ne
    cases b with
    | nil => cases h
    | cons y b =>
      have h' : (decide (y < x) || (y == x && ltCps b a)) = false := h
      rw [Bool.or_eq_false_iff] at h'
      obtain ⟨h1, h2⟩ := h'
      have h1' := of_decide_eq_false h1
      show (decide (x < y) || (x == y && ltCps a b)) = true
      rw [Bool.or_eq_true]
      by_cases e : x = y
      · refine .inr ?_
        rw [Bool.and_eq_true]
        refine ⟨beq_iff_eq.mpr e, ih ?_ fun z => ne (by rw [e, z])⟩
        rw [Bool.and_eq_false_iff] at h2
        rcases h2 with z | z
        · exact absurd (beq_iff_eq.mpr e.symm) (by rw [z]; exact Bool.false_ne_true)
        · exact z
      · exact .inl (decide_eq_true (by omega))
def Bel (a b : Str) : Prop := a.cps.toList < b.cps.toList
/-- each name stands ahead of the next one -/
def Up (l : List Str) : Prop := ∀ (i : Nat) (a b : Str), l[i]? = some a → l[i + 1]? = some b → Bel a b
theorem risen_step : ∀ {l : List Str} {p : Str}, risingS p l = true → ∀ (i : Nat) (a b : Str), (p :: l)[i]? = some a → (p :: l)[i + 1]? = some b → ltCps b.cps.toList a.cps.toList = false
  | [], _, _, i, a, b, _, h2 => by simp at h2
  | x :: r, p, h, 0, a, b, h1, h2 => by
    cases (Option.some.inj h1)
    cases (Option.some.inj h2)
    have h' : (!ltCps x.cps.toList p.cps.toList && risingS x r) = true := h
    rw [Bool.and_eq_true] at h'
    simpa using h'.1
  | x :: r, p, h, i + 1, a, b, h1, h2 => by
    have h' : (!ltCps x.cps.toList p.cps.toList && risingS x r) = true := h
    rw [Bool.and_eq_true] at h'
    exact risen_step h'.2 i a b h1 h2
theorem sorted_step {l : List Str} (h : sortedS l = true) (i : Nat) (a b : Str) (h1 : l[i]? = some a) (h2 : l[i + 1]? = some b) : ltCps b.cps.toList a.cps.toList = false := by
  cases l with
  | nil => simp at h1
  | cons p r => exact risen_step h i a b h1 h2
theorem up_of {l : List Str} (h : Risen l) : Up l := fun i a b h1 h2 => by
  have ne : a ≠ b := fun e => by
    obtain ⟨i1, e1⟩ := List.getElem?_eq_some_iff.mp h1
    obtain ⟨i2, e2⟩ := List.getElem?_eq_some_iff.mp h2
    exact List.pairwise_iff_getElem.mp h.2 i (i + 1) i1 i2 (Nat.lt_succ_self i) (by rw [e1, e2, e])
  have ne' : a.cps.toList ≠ b.cps.toList := fun e => ne (str_ext e)
  have := lt_or (sorted_step h.1 i a b h1 h2) ne'
  rw [ltCps_eq] at this
  exact of_decide_eq_true (p := a.cps.toList < b.cps.toList) this
theorem not_bel_self (a : Str) : ¬ Bel a a := fun h => by
  have e : ltCps a.cps.toList a.cps.toList = true := by rw [ltCps_eq]; exact decide_eq_true h
  have g : ∀ l : List Nat, ltCps l l = false := fun l => by
    induction l with
    | nil => rfl
    | cons x l ih =>
      show (decide (x < x) || (x == x && ltCps l l)) = false
      rw [ih, Bool.and_false, Bool.or_false]
      exact decide_eq_false (Nat.lt_irrefl _)
  rw [g] at e
  cases e
theorem not_bel_back {a b : Str} (h : ltCps b.cps.toList a.cps.toList = false) : ¬ Bel b a := fun z => by
  have e : ltCps b.cps.toList a.cps.toList = true := by rw [ltCps_eq]; exact decide_eq_true z
  rw [h] at e
  cases e
/-- a name's letters -/
def nameOk (s : Str) : Prop := s.cps.toList ≠ [] ∧ ∀ c ∈ s.cps.toList, 97 ≤ c ∧ c ≤ 122
instance (s : Str) : Decidable (nameOk s) := by unfold nameOk; exact inferInstance
def goodM (m : Mt) : Prop := nameOk m.name ∧ m.low ≤ m.high ∧ 0 ≤ m.err
def goodP (P : Pl) : Prop := 1 ≤ P.len ∧ P.ms ≠ [] ∧ (∀ m ∈ P.ms, goodM m) ∧ Up (P.ms.map Mt.name)
theorem isW_nameOk {s : Str} (h : IsW s) : nameOk s := ⟨h.1, h.2.1⟩
theorem plan_good {c : Int} {P : Pl} (h : PlanOk c P) (iw : ∀ m ∈ P.ms, IsW m.name) : goodP P :=
  ⟨h.len, h.some_, fun m hm => ⟨isW_nameOk (iw m hm), (h.each m hm).order, (h.each m hm).err0⟩, up_of h.risen⟩
/-- for over zip of two tuples, the second not longer than the first -/
theorem for_zipD {K : PySem.W.Frag} {a b : Addr} {xs ys : List V} {g : TG} {tb : TS} {D : Ends} {σ : L2.St} {H : Hp} (hl : ys.length ≤ xs.length) (Pv : Nat → L2.St → Hp → Prop) (h0 : Pv 0 σ H) (both : ∀ i σ H, Pv i σ H → SqT K H a xs ∧ SqT K H b ys)
    (step : ∀ (i : Nat) (x y : V) (T : Addr) (σ : L2.St) (H : Hp), Pv i σ H → xs[i]? = some x → ys[i]? = some y → H T = none → g (.ref T) σ (upd H T (.tup [x, y])) fun σ2 H2 => tb { D with nx := Pv (i + 1), ct := Pv (i + 1), bk := D.nx } σ2 H2) (fin : ∀ σ H, Pv ys.length σ H → D.nx σ H) :
    ∃ W : Nat → Nat → L2.St → Hp → Prop, (∃ m, W 0 m σ H) ∧ ∀ i m σ H, W i m σ H →
      ((RZ.ItzT K a b).stop i H ∧ D.nx σ H) ∨ ((RZ.ItzT K a b).go i H ∧ ∃ N : L2.St → Hp → Prop, (∀ σ' H', N σ' H' → ∃ m', m' < m ∧ W (i + 1) m' σ' H') ∧ ∀ v H', (RZ.ItzT K a b).yld i H v H' → g v σ H' fun σ2 H2 => tb { D with nx := N, ct := N, bk := D.nx } σ2 H2) := by
  refine ⟨fun i m σ H => i ≤ ys.length ∧ m = ys.length - i ∧ Pv i σ H, ⟨ys.length, Nat.zero_le _, rfl, h0⟩, ?_⟩
  rintro i m σ H ⟨hi, rfl, p⟩
  obtain ⟨qx, qy⟩ := both i σ H p
  rcases Nat.lt_or_ge i ys.length with il | ge
  · have ix : i < xs.length := Nat.lt_of_lt_of_le il hl
    refine .inr ⟨⟨xs, ys, _, _, qx, qy, List.getElem?_eq_getElem ix, List.getElem?_eq_getElem il⟩, Pv (i + 1), fun σ' H' p' => ⟨ys.length - (i + 1), by omega, il, rfl, p'⟩, ?_⟩
    rintro v H' ⟨T, x', y', rfl, nT, rfl, f1, f2⟩
    exact step i x' y' T σ H p (f1 xs qx) (f2 ys qy) nT
  · obtain rfl : i = ys.length := by omega
    exact .inl ⟨⟨xs, ys, qx, qy, Or.inr (Nat.le_refl _)⟩, fin σ H p⟩
theorem letter_in (c : Nat) : decide (c ∈ ("abcdefghijklmnopqrstuvwxyz" : Str).cps.toList) = decide (97 ≤ c ∧ c ≤ 122) := by
  have e : ("abcdefghijklmnopqrstuvwxyz" : Str).cps.toList = [97, 98, 99, 100, 101, 102, 103, 104, 105, 106, 107, 108, 109, 110, 111, 112, 113, 114, 115, 116, 117, 118, 119, 120, 121, 122] := by decide +kernel
  rw [e, decide_eq_decide]
  simp only [List.mem_cons, List.not_mem_nil, or_false]
  omega
theorem letters_all (l : List Nat) : (l.map fun c => decide (97 ≤ c ∧ c ≤ 122)).all id = decide (∀ c ∈ l, 97 ≤ c ∧ c ≤ 122) := by
  rw [List.all_map, Bool.eq_iff_iff, List.all_eq_true, decide_eq_true_iff]
  exact ⟨fun h c hc => of_decide_eq_true (h c hc), fun h c hc => decide_eq_true (h c hc)⟩
theorem cutV_from (xs : List V) (k : Nat) : cutV xs (some (k : Int)) none = xs.drop k := by
  show (xs.drop (HT.sIx xs.length 0 (some (k : Int)))).take (HT.sIx xs.length xs.length none - HT.sIx xs.length 0 (some (k : Int))) = _
  rw [HT.sIx_none, HT.sIx_nat]
  rcases Nat.le_total k xs.length with h | h
  · rw [Nat.min_eq_left h, List.take_of_length_le (by rw [List.length_drop]; exact Nat.le_refl _)]
  · rw [Nat.min_eq_right h, List.drop_length, List.drop_eq_nil_of_le h, List.take_nil]
/-- cut of mapped rows -/
theorem cutV_mid (xs : List V) (j k : Nat) (h : k ≤ xs.length) : cutV xs (some (j : Int)) (some (k : Int)) = (xs.drop j).take (k - j) := by
  show (xs.drop (HT.sIx xs.length 0 (some (j : Int)))).take (HT.sIx xs.length xs.length (some (k : Int)) - HT.sIx xs.length 0 (some (j : Int))) = _
  rw [HT.sIx_nat, HT.sIx_nat, Nat.min_eq_left h]
  rcases Nat.le_total j xs.length with z | z
  · rw [Nat.min_eq_left z]
  · rw [Nat.min_eq_right z, List.drop_eq_nil_of_le (Nat.le_refl _), List.drop_eq_nil_of_le z, List.take_nil, List.take_nil]
theorem cut_len (z : Str) (lo hi : Option Int) : (cutS z lo hi).length ≤ z.length := by
  show (((z.cps.toList.drop _).take _).toArray).size ≤ z.cps.size
  rw [List.size_toArray, List.length_take, List.length_drop, Array.length_toList]
  omega
theorem cut_toA (ts : List Addr) {n : Int} (h : 0 ≤ n) : cutV (ts.map V.ref) none (some n) = (ts.take n.toNat).map V.ref := by
  have e := cutV_to (ts.map V.ref) n.toNat
  rw [Int.toNat_of_nonneg h] at e
  rw [e, List.map_take]
theorem cut_fromA (ts : List Addr) {n : Int} (h : 0 ≤ n) : cutV (ts.map V.ref) (some n) none = (ts.drop n.toNat).map V.ref := by
  have e := cutV_from (ts.map V.ref) n.toNat
  rw [Int.toNat_of_nonneg h] at e
  rw [e, List.map_drop]
theorem swap_at {α : Type} (l : List α) (i : Nat) (h : i + 1 < l.length) : (l.take i ++ [l[i + 1], l[i]] ++ l.drop (i + 2))[i]? = some l[i + 1] ∧ (l.take i ++ [l[i + 1], l[i]] ++ l.drop (i + 2))[i + 1]? = some l[i] := by
  have e : (l.take i).length = i := by rw [List.length_take]; omega
  rw [List.append_assoc]
  constructor
  · rw [List.getElem?_append_right (by omega), e, Nat.sub_self]
    rfl
  · rw [List.getElem?_append_right (by omega), e, Nat.add_sub_cancel_left]
    rfl
theorem twice_at {α : Type} (l : List α) (i : Nat) (h : i < l.length) : (l.take i ++ [l[i]] ++ l.drop i)[i]? = some l[i] ∧ (l.take i ++ [l[i]] ++ l.drop i)[i + 1]? = some l[i] := by
  have e : (l.take i).length = i := by rw [List.length_take]; omega
  rw [List.append_assoc]
  constructor
  · rw [List.getElem?_append_right (by omega), e, Nat.sub_self]
    rfl
  · rw [List.getElem?_append_right (by omega), e, Nat.add_sub_cancel_left, List.drop_eq_getElem_cons h]
    rfl
theorem mem_swap {α : Type} {l : List α} {i : Nat} (h : i + 1 < l.length) : ∀ x ∈ l.take i ++ [l[i + 1], l[i]] ++ l.drop (i + 2), x ∈ l := fun x hx => by
  rcases List.mem_append.mp hx with z | z
  · rcases List.mem_append.mp z with z | z
    · exact List.mem_of_mem_take z
    · simp only [List.mem_cons, List.not_mem_nil, or_false] at z
      rcases z with rfl | rfl
      · exact List.getElem_mem _
      · exact List.getElem_mem _
  · exact List.mem_of_mem_drop z
theorem mem_twice {α : Type} {l : List α} {i : Nat} (h : i < l.length) : ∀ x ∈ l.take i ++ [l[i]] ++ l.drop i, x ∈ l := fun x hx => by
  rcases List.mem_append.mp hx with z | z
  · rcases List.mem_append.mp z with z | z
    · exact List.mem_of_mem_take z
    · rw [List.mem_singleton.mp z]
      exact List.getElem_mem _
  · exact List.mem_of_mem_drop z
theorem mts_sub {H : Hp} {ts us : List Addr} {ms : List Mt} (hp : Paired (MtAt H) ts ms) (sub : ∀ u ∈ us, u ∈ ts) : Paired (MtAt H) us (us.map (mtOf H)) ∧ ∀ m ∈ us.map (mtOf H), m ∈ ms :=
  ⟨mts_of us fun u hu => (mts_map hp).2 u (sub u hu), fun m hm => by
    obtain ⟨u, hu, rfl⟩ := List.mem_map.mp hm
    rw [(mts_map hp).1]
    exact List.mem_map_of_mem (sub u hu)⟩
/-- what stands at a place of the rows, by its address -/
theorem name_at {H : Hp} {us : List Addr} {i : Nat} {u : Addr} {m : Mt} (h : us[i]? = some u) (hm : MtAt H u m) : ((us.map (mtOf H)).map Mt.name)[i]? = some m.name := by
  rw [List.getElem?_map, List.getElem?_map, h]
  show some (mtOf H u).name = _
  rw [mtOf_at hm]
theorem paired_set {α β : Type} {R : α → β → Prop} : ∀ {xs : List α} {ys : List β} {x : α} {y : β} (i : Nat), Paired R xs ys → R x y → Paired R (xs.set i x) (ys.set i y)
  | _, _, _, _, _, .nil, _ => .nil
  | _, _, _, _, 0, .cons _ r, h => .cons h r
  | _, _, _, _, i + 1, .cons a r, h => .cons a (paired_set i r h)
theorem mts_lst {H : Hp} {M : Addr} {xs ys : List V} (hM : H M = some (.lst xs)) {ts : List Addr} {ms : List Mt} (hp : Paired (MtAt H) ts ms) : Paired (MtAt (upd H M (.lst ys))) ts ms := L2.Paired.mapP hp fun b m y => by
  show upd H M (.lst ys) b = _
  rw [upd_ne (ne_of y hM (fun z => nomatch z))]
  exact y
theorem ixN_at {n : Nat} {z : Int} (h0 : 0 ≤ z) (h1 : z < n) : ixN n z = some z.toNat := by
  unfold ixN
  rw [if_pos h0, if_pos h1]

def topS (i : Nat) : Stmt := PySem.Challenge.pw_toldwhensure_k01_right_plans.main.body.getD i (.Pass ⟨0, 0, 0, 0⟩)
abbrev s_is_name : Stmt := topS 14
theorem sc_is_name : FnScope ["text", "letter"] ["text"] (defScope s_is_name) := ⟨rfl, rfl, rfl, by decide +kernel, rfl, by decide +kernel, by decide +kernel⟩
abbrev s_names_of : Stmt := topS 15
theorem sc_names_of : FnScope ["plan", "meter"] ["plan"] (defScope s_names_of) := ⟨rfl, rfl, rfl, by decide +kernel, rfl, by decide +kernel, by decide +kernel⟩
abbrev s_check_plan : Stmt := topS 16
theorem sc_check_plan : FnScope ["plan", "length", "meters", "meter", "names", "name", "following"] ["plan"] (defScope s_check_plan) := ⟨rfl, rfl, rfl, by decide +kernel, rfl, by decide +kernel, by decide +kernel⟩
abbrev s_check_meter : Stmt := topS 17
theorem sc_check_meter : FnScope ["meter", "name", "low", "high", "error"] ["meter"] (defScope s_check_meter) := ⟨rfl, rfl, rfl, by decide +kernel, rfl, by decide +kernel, by decide +kernel⟩
abbrev s_l_draws : Stmt := topS 19
theorem sc_l_draws : FnScope ["script", "many", "cells", "rest", "draws", "k", "at", "once", "cell"] ["script", "many"] (defScope s_l_draws) := ⟨rfl, rfl, rfl, by decide +kernel, rfl, by decide +kernel, by decide +kernel⟩
abbrev s_l_take : Stmt := topS 20
theorem sc_l_take : FnScope ["draws", "many"] ["draws", "many"] (defScope s_l_take) := ⟨rfl, rfl, rfl, by decide +kernel, rfl, by decide +kernel, by decide +kernel⟩
abbrev s_l_cell : Stmt := topS 21
theorem sc_l_cell : FnScope ["script", "draws"] ["script", "draws"] (defScope s_l_cell) := ⟨rfl, rfl, rfl, by decide +kernel, rfl, by decide +kernel, by decide +kernel⟩
abbrev s_l_word : Stmt := topS 22
theorem sc_l_word : FnScope ["number", "word", "k"] ["number"] (defScope s_l_word) := ⟨rfl, rfl, rfl, by decide +kernel, rfl, by decide +kernel, by decide +kernel⟩
abbrev s_l_some_word : Stmt := topS 23
theorem sc_l_some_word : FnScope ["draws", "number", "great"] ["draws"] (defScope s_l_some_word) := ⟨rfl, rfl, rfl, by decide +kernel, rfl, by decide +kernel, by decide +kernel⟩
abbrev s_l_no_word : Stmt := topS 24
theorem sc_l_no_word : FnScope ["draws", "word", "shape", "chars", "at"] ["draws"] (defScope s_l_no_word) := ⟨rfl, rfl, rfl, by decide +kernel, rfl, by decide +kernel, by decide +kernel⟩
abbrev s_l_plan : Stmt := topS 25
theorem sc_l_plan : FnScope ["draws", "cell", "many", "meters", "name", "low", "wide", "length", "k"] ["draws", "cell"] (defScope s_l_plan) := ⟨rfl, rfl, rfl, by decide +kernel, rfl, by decide +kernel, by decide +kernel⟩
abbrev s_l_other_error : Stmt := topS 26
theorem sc_l_other_error : FnScope ["e", "name", "kinds", "names", "other"] ["e", "name"] (defScope s_l_other_error) := ⟨rfl, rfl, rfl, by decide +kernel, rfl, by decide +kernel, by decide +kernel⟩
abbrev s_l_in_disorder : Stmt := topS 27
theorem sc_l_in_disorder : FnScope ["draws", "meters", "at"] ["draws", "meters"] (defScope s_l_in_disorder) := ⟨rfl, rfl, rfl, by decide +kernel, rfl, by decide +kernel, by decide +kernel⟩
abbrev s_l_spoilt : Stmt := topS 28
theorem sc_l_spoilt : FnScope ["draws", "plan", "cell", "kind", "meters", "at", "meter", "far"] ["draws", "plan", "cell"] (defScope s_l_spoilt) := ⟨rfl, rfl, rfl, by decide +kernel, rfl, by decide +kernel, by decide +kernel⟩
abbrev s_l_accepted : Stmt := topS 29
theorem sc_l_accepted : FnScope ["plan", "found"] ["plan"] (defScope s_l_accepted) := ⟨rfl, rfl, rfl, by decide +kernel, rfl, by decide +kernel, by decide +kernel⟩
abbrev s_l_refused : Stmt := topS 30
theorem sc_l_refused : FnScope ["plan", "e"] ["plan"] (defScope s_l_refused) := ⟨rfl, rfl, rfl, by decide +kernel, rfl, by decide +kernel, by decide +kernel⟩
abbrev s_law : Stmt := topS 31
theorem sc_law : FnScope ["script", "draws", "cell", "plan", "first", "names", "many", "k", "name"] ["script"] (defScope s_law) := ⟨rfl, rfl, rfl, by decide +kernel, rfl, by decide +kernel, by decide +kernel⟩
/-- what the top has left: where each def stands; the built-ins' names are not taken -/
structure Ctx (K : PySem.W.Frag) (mg : Str → Option Value) where
  f_is_name : Addr
  fd_is_name : FuncData
  F_is_name : Fun K "is_name" "is_name" s_is_name f_is_name fd_is_name
  b_is_name : Binds K fd_is_name ["text"] []
  g_is_name : mg "is_name" = some (.ref f_is_name)
  f_names_of : Addr
  fd_names_of : FuncData
  F_names_of : Fun K "names_of" "names_of" s_names_of f_names_of fd_names_of
  b_names_of : Binds K fd_names_of ["plan"] []
  g_names_of : mg "names_of" = some (.ref f_names_of)
  f_check_plan : Addr
  fd_check_plan : FuncData
  F_check_plan : Fun K "check_plan" "check_plan" s_check_plan f_check_plan fd_check_plan
  b_check_plan : Binds K fd_check_plan ["plan"] []
  g_check_plan : mg "check_plan" = some (.ref f_check_plan)
  f_check_meter : Addr
  fd_check_meter : FuncData
  F_check_meter : Fun K "_check_meter" "_check_meter" s_check_meter f_check_meter fd_check_meter
  b_check_meter : Binds K fd_check_meter ["meter"] []
  g_check_meter : mg "_check_meter" = some (.ref f_check_meter)
  f_l_draws : Addr
  fd_l_draws : FuncData
  F_l_draws : Fun K "_law_draws" "_law_draws" s_l_draws f_l_draws fd_l_draws
  b_l_draws : Binds K fd_l_draws ["script", "many"] []
  g_l_draws : mg "_law_draws" = some (.ref f_l_draws)
  f_l_take : Addr
  fd_l_take : FuncData
  F_l_take : Fun K "_law_take" "_law_take" s_l_take f_l_take fd_l_take
  b_l_take : Binds K fd_l_take ["draws", "many"] []
  g_l_take : mg "_law_take" = some (.ref f_l_take)
  f_l_cell : Addr
  fd_l_cell : FuncData
  F_l_cell : Fun K "_law_cell" "_law_cell" s_l_cell f_l_cell fd_l_cell
  b_l_cell : Binds K fd_l_cell ["script", "draws"] []
  g_l_cell : mg "_law_cell" = some (.ref f_l_cell)
  f_l_word : Addr
  fd_l_word : FuncData
  F_l_word : Fun K "_law_word" "_law_word" s_l_word f_l_word fd_l_word
  b_l_word : Binds K fd_l_word ["number"] []
  g_l_word : mg "_law_word" = some (.ref f_l_word)
  f_l_some_word : Addr
  fd_l_some_word : FuncData
  F_l_some_word : Fun K "_law_some_word" "_law_some_word" s_l_some_word f_l_some_word fd_l_some_word
  b_l_some_word : Binds K fd_l_some_word ["draws"] []
  g_l_some_word : mg "_law_some_word" = some (.ref f_l_some_word)
  f_l_no_word : Addr
  fd_l_no_word : FuncData
  F_l_no_word : Fun K "_law_no_word" "_law_no_word" s_l_no_word f_l_no_word fd_l_no_word
  b_l_no_word : Binds K fd_l_no_word ["draws"] []
  g_l_no_word : mg "_law_no_word" = some (.ref f_l_no_word)
  f_l_plan : Addr
  fd_l_plan : FuncData
  F_l_plan : Fun K "_law_plan" "_law_plan" s_l_plan f_l_plan fd_l_plan
  b_l_plan : Binds K fd_l_plan ["draws", "cell"] []
  g_l_plan : mg "_law_plan" = some (.ref f_l_plan)
  f_l_other_error : Addr
  fd_l_other_error : FuncData
  F_l_other_error : Fun K "_law_other_error" "_law_other_error" s_l_other_error f_l_other_error fd_l_other_error
  b_l_other_error : Binds K fd_l_other_error ["e", "name"] []
  g_l_other_error : mg "_law_other_error" = some (.ref f_l_other_error)
  f_l_in_disorder : Addr
  fd_l_in_disorder : FuncData
  F_l_in_disorder : Fun K "_law_in_disorder" "_law_in_disorder" s_l_in_disorder f_l_in_disorder fd_l_in_disorder
  b_l_in_disorder : Binds K fd_l_in_disorder ["draws", "meters"] []
  g_l_in_disorder : mg "_law_in_disorder" = some (.ref f_l_in_disorder)
  f_l_spoilt : Addr
  fd_l_spoilt : FuncData
  F_l_spoilt : Fun K "_law_spoilt" "_law_spoilt" s_l_spoilt f_l_spoilt fd_l_spoilt
  b_l_spoilt : Binds K fd_l_spoilt ["draws", "plan", "cell"] []
  g_l_spoilt : mg "_law_spoilt" = some (.ref f_l_spoilt)
  f_l_accepted : Addr
  fd_l_accepted : FuncData
  F_l_accepted : Fun K "_law_accepted" "_law_accepted" s_l_accepted f_l_accepted fd_l_accepted
  b_l_accepted : Binds K fd_l_accepted ["plan"] []
  g_l_accepted : mg "_law_accepted" = some (.ref f_l_accepted)
  f_l_refused : Addr
  fd_l_refused : FuncData
  F_l_refused : Fun K "_law_refused" "_law_refused" s_l_refused f_l_refused fd_l_refused
  b_l_refused : Binds K fd_l_refused ["plan"] []
  g_l_refused : mg "_law_refused" = some (.ref f_l_refused)
  f_law : Addr
  fd_law : FuncData
  F_law : Fun K "law" "law" s_law f_law fd_law
  b_law : Binds K fd_law ["script"] []
  g_law : mg "law" = some (.ref f_law)
  m_ValueError : mg "ValueError" = none
  m_abs : mg "abs" = none
  m_all : mg "all" = none
  m_int : mg "int" = none
  m_isinstance : mg "isinstance" = none
  m_len : mg "len" = none
  m_list : mg "list" = none
  m_range : mg "range" = none
  m_set : mg "set" = none
  m_sorted : mg "sorted" = none
  m_tuple : mg "tuple" = none
  m_zip : mg "zip" = none
  lt : Tok
  g_LETTERS : mg "LETTERS" = some (.str "abcdefghijklmnopqrstuvwxyz" lt)
  c_GatherError : Addr
  gC_GatherError : mg "GatherError" = some (.ref c_GatherError)
  c_InvalidPlan : Addr
  gC_InvalidPlan : mg "InvalidPlan" = some (.ref c_InvalidPlan)
  c_InvalidLetter : Addr
  gC_InvalidLetter : mg "InvalidLetter" = some (.ref c_InvalidLetter)
  c_InvalidAlarm : Addr
  gC_InvalidAlarm : mg "InvalidAlarm" = some (.ref c_InvalidAlarm)
  c_NoSlot : Addr
  gC_NoSlot : mg "NoSlot" = some (.ref c_NoSlot)
  c_BadText : Addr
  gC_BadText : mg "BadText" = some (.ref c_BadText)
  c_NotPossible : Addr
  gC_NotPossible : mg "NotPossible" = some (.ref c_NotPossible)
  c_NoNote : Addr
  gC_NoNote : mg "NoNote" = some (.ref c_NoNote)
  c_Closed : Addr
  gC_Closed : mg "Closed" = some (.ref c_Closed)
  c_InvalidEntry : Addr
  gC_InvalidEntry : mg "InvalidEntry" = some (.ref c_InvalidEntry)
  c_NoLetter : Addr
  gC_NoLetter : mg "NoLetter" = some (.ref c_NoLetter)
  kit_GatherError : PySem.W.kitOne K (.ref c_InvalidPlan) (.ref c_GatherError) = some true
  kit_InvalidPlan : PySem.W.kitOne K (.ref c_InvalidPlan) (.ref c_InvalidPlan) = some true
  kit_InvalidLetter : PySem.W.kitOne K (.ref c_InvalidPlan) (.ref c_InvalidLetter) = some false
  kit_InvalidAlarm : PySem.W.kitOne K (.ref c_InvalidPlan) (.ref c_InvalidAlarm) = some false
  kit_NoSlot : PySem.W.kitOne K (.ref c_InvalidPlan) (.ref c_NoSlot) = some false
  kit_BadText : PySem.W.kitOne K (.ref c_InvalidPlan) (.ref c_BadText) = some false
  kit_NotPossible : PySem.W.kitOne K (.ref c_InvalidPlan) (.ref c_NotPossible) = some false
  kit_NoNote : PySem.W.kitOne K (.ref c_InvalidPlan) (.ref c_NoNote) = some false
  kit_Closed : PySem.W.kitOne K (.ref c_InvalidPlan) (.ref c_Closed) = some false
  kit_InvalidEntry : PySem.W.kitOne K (.ref c_InvalidPlan) (.ref c_InvalidEntry) = some false
  kit_NoLetter : PySem.W.kitOne K (.ref c_InvalidPlan) (.ref c_NoLetter) = some false
  kitV : PySem.W.kitOne K (.ref c_InvalidPlan) (.type "ValueError") = some true
  xQ : PySem.W.excIn K c_InvalidPlan [.type "ValueError", .type "Exception", .type "BaseException", .type "object"] "ValueError.__new__" = true
  xK : PySem.W.keepIn K (.ref c_InvalidPlan) = true
  xS : PySem.W.subIn K (.ref c_InvalidPlan) (.type "BaseException") = some true
  xT : PySem.W.typeIn K (.ref c_InvalidPlan) = some (.type "type")
  xR : PySem.W.subIn K (.ref c_InvalidPlan) (.ref c_InvalidPlan) = some true
  xd : PySem.W.hasDictIn K c_InvalidPlan = true
  xg : PySem.W.findIn K (.ref c_InvalidPlan) "__getattribute__" = some (some (.builtin "BaseException.__getattribute__"))
  xk : PySem.W.findIn K (.ref c_InvalidPlan) "__getattr__" = some none
  xa : PySem.W.findIn K (.ref c_InvalidPlan) "__class__" = some (some (.builtin "object.__class__"))
  xm : PySem.W.mroIn K c_InvalidPlan (.type "object") = some true
  xn : PySem.W.specialIn K (.builtin "object.__class__") "__get__" = some (some (.builtin "getset_descriptor.__get__"))
  xt : PySem.W.takesIn K (.builtin "object.__class__") = some true
def sp_is_name (K : PySem.W.Frag) : Sp := fun vs H Q _ => ∃ s : Str, vs = [.str s] ∧ s.length ≤ 1500 ∧ ∀ H', Same H H' → Q (.bl (decide (nameOk s))) H'
section
variable {P : Program} {w : World} {K : PySem.W.Frag} {mg : Str → Option Value} {base : Heap}
set_option pp.maxSteps 400 in
theorem ok_is_name (T : Ctx K mg) : FnOk P w K mg base CX0 1 T.f_is_name T.fd_is_name ["text"] (sp_is_name K) := by
  refine T.F_is_name.ok sc_is_name (fun vs H Q E h => ?_) (fun cdv A outer s H vs Q E hr h => ?_)
  · obtain ⟨s, rfl, _⟩ := h
    rfl
  · obtain ⟨x, rfl, hx, q⟩ := h
    refine ⟨_, (pss_one (ps_ret (pe_and (pe_cmpR op_ne (pv 0) pe_str (nomark _)) (pe_one (pe_callB (cr_all rfl) (by rfl) T.m_all (by decide +kernel) (pa_cons (pe_lc (own := [("letter", 1)]) (g := gName 1) (by rfl) sc_is_name.nd (pi_str (pv 0)) (blkOk_by (own := [("letter", 1)]) (N := ["text", "letter"]) (sc := defScope s_is_name) (by decide +kernel)) (fun _ _ _ _ _ => pg_name (i := 1) sc_is_name.nd rfl (Or.inl rfl)) (fun _ _ _ _ _ => pts_nil) (fun _ _ _ _ _ => (pe_cmpR op_in_sign (pv 1) (pe_glob (v := .str "abcdefghijklmnopqrstuvwxyz") (by rfl) T.g_LETTERS ⟨_, rfl⟩) rfl))) pa_nil)))))), ?_⟩
    refine ⟨.str x, rfl, rfl, _, rfl, ite2 (fun e => ?_) (fun e => ?_)⟩
    · have ne : x.cps.toList ≠ [] := fun z => by
        have e1 : x = "" := str_ext (by rw [z]; decide +kernel)
        rw [e1] at e
        exact absurd e (by decide +kernel)
      refine ⟨.str x, rfl, x, rfl, fun C nC => lc_it (walk_str (z := x)) (fun j H' => Same H H' ∧ H' C = some (.lst (((x.cps.toList.take j).map fun c => decide (97 ≤ c ∧ c ≤ 122)).map V.bl))) ⟨same_new nC, upd_same⟩ (fun _ _ _ _ => trivial) (fun j y H1 H2 hj z yy => ?_) (fun H' z => ?_)⟩
      · obtain ⟨s1, hC⟩ := z
        obtain ⟨rfl, c, hc, rfl⟩ := yy
        have hj' : j < x.length := hj
        have hc' : x.cps.toList[j]? = some c := by rw [Array.getElem?_toList]; exact hc
        refine ⟨rfl, _, rfl, c, _, rfl, rfl, _, hC, ?_, fun b o e => ?_, ?_⟩
        · rw [List.length_map, List.length_map, List.length_take]
          exact small (by omega)
        · rw [upd_ne (ne_of_none e nC)]
          exact s1 _ _ e
        · rw [upd_same, letter_in, List.take_add_one, hc', List.map_append, List.map_append]
          rfl
      · obtain ⟨s1, hC⟩ := z
        have e2 : x.cps.toList.take x.cps.size = x.cps.toList := by
          rw [← Array.length_toList, List.take_length]
        rw [e2] at hC
        refine ⟨C, _, rfl, .inl (.inl hC), ?_⟩
        rw [letters_all]
        have e3 : decide (∀ c ∈ x.cps.toList, 97 ≤ c ∧ c ≤ 122) = decide (nameOk x) := by
          rw [decide_eq_decide]
          exact ⟨fun h => ⟨ne, h⟩, fun h => h.2⟩
        rw [e3]
        exact q _ s1
    · have e1 : x = "" := by simpa using e
      have e2 : decide (nameOk x) = false := by
        rw [e1]
        decide +kernel
      rw [e2] at q
      exact q _ (Same.refl _)
end
def sp_names_of (K : PySem.W.Frag) : Sp := fun vs H Q _ => ∃ (p tm : Addr) (ts : List Addr) (P : Pl), vs = [.ref p] ∧ PlanAt H p tm ts P ∧ P.ms.length ≤ 1000 ∧ ∀ H' q, Same H H' → H' q = some (.tup ((P.ms.map Mt.name).map V.str)) → Q (.ref q) H'
section
variable {P : Program} {w : World} {K : PySem.W.Frag} {mg : Str → Option Value} {base : Heap}
theorem ok_names_of (T : Ctx K mg) : FnOk P w K mg base CX0 1 T.f_names_of T.fd_names_of ["plan"] (sp_names_of K) := by
  refine T.F_names_of.ok sc_names_of (fun vs H Q E h => ?_) (fun cdv A outer s H vs Q E hr h => ?_)
  · obtain ⟨p, tm, ts, P, rfl, _⟩ := h
    rfl
  · obtain ⟨p, tm, ts, P, rfl, pa, few, q⟩ := h
    refine ⟨_, (pss_one (ps_ret (pe_callTy call_tuple_of (by rfl) T.m_tuple (by decide +kernel) (pa_cons (pe_lc (own := [("meter", 1)]) (g := gName 1) (by rfl) sc_names_of.nd (pi_tup (pe_ix ix_tup (pv 0) pe_int (fun _ _ => rfl))) (blkOk_by (own := [("meter", 1)]) (N := ["plan", "meter"]) (sc := defScope s_names_of) (by decide +kernel)) (fun _ _ _ _ _ => pg_name (i := 1) sc_names_of.nd rfl (Or.inl rfl)) (fun _ _ _ _ _ => pts_nil) (fun _ _ _ _ _ => (pe_ix (show IxR _ (rIxT K) from ix_tup) (pv 1) pe_int (fun _ _ => rfl)))) pa_nil)))), ?_⟩
    have tl : ts.length = P.ms.length := pa.low.length
    refine ⟨.ref p, rfl, p, _, 1, _, rfl, rfl, .inl (.inl pa.top), atI_nat (j := 1) rfl, tm, rfl, ⟨_, .inl (.inl pa.mid)⟩, fun C nC => lc_tup (K := K) (a := tm) (xs := ts.map V.ref) (fun i H' => Same H H' ∧ H' C = some (.lst ((((P.ms.map Mt.name).take i)).map V.str))) ⟨same_new nC, by rw [upd_same]; simp⟩ (fun i H' _ z => .inl (.inl (z.1 _ _ pa.mid))) (fun i x H' hx z => ?_) (fun H' z => ?_)⟩
    · obtain ⟨s1, hC⟩ := z
      have il : i < ts.length := by
        have := (List.getElem?_eq_some_iff.mp hx).1
        rw [List.length_map] at this
        exact this
      have ex : x = .ref ts[i] := by
        rw [List.getElem?_map, List.getElem?_eq_getElem il] at hx
        exact (Option.some.inj hx).symm
      subst ex
      obtain ⟨m, hm, hat⟩ := mts_at pa.low (List.getElem?_eq_getElem il)
      refine ⟨rfl, .ref ts[i], rfl, ts[i], _, 0, _, rfl, rfl, .inl (.inl (s1 _ _ hat)), atI_nat (j := 0) rfl, _, hC, ?_, fun b o e => ?_, ?_⟩
      · rw [List.length_map, List.length_take, List.length_map]
        exact small (by omega)
      · rw [upd_ne (ne_of_none e nC)]
        exact s1 _ _ e
      · rw [upd_same, List.take_add_one, List.getElem?_map, hm, List.map_append]
        rfl
    · obtain ⟨s1, hC⟩ := z
      rw [List.length_map, tl, ← List.length_map (f := Mt.name) (as := P.ms), List.take_length] at hC
      exact ⟨C, _, rfl, .inl ⟨.inl (.inl hC), fun q' nq => q _ q' (s1.trans (same_new nq)) upd_same⟩⟩
end
def sp_check_meter (C : Addr) (K : PySem.W.Frag) : Sp := fun vs H Q E => ∃ (t : Addr) (m : Mt), vs = [.ref t] ∧ MtAt H t m ∧ m.name.length ≤ 1500 ∧ (goodM m → ∀ H', Same H H' → Q .non H') ∧ (¬ goodM m → ∀ H', Same H H' → E (.ref C) none H')
section
variable {P : Program} {w : World} {K : PySem.W.Frag} {mg : Str → Option Value} {base : Heap}
set_option pp.maxSteps 400 in
theorem ok_check_meter (T : Ctx K mg) : FnOk P w K mg base (L2N.CX P w) 2 T.f_check_meter T.fd_check_meter ["meter"] (sp_check_meter T.c_InvalidPlan K) := by
  refine T.F_check_meter.okN sc_check_meter (fun vs H Q E h => ?_) (fun cdv A outer s H vs Q E hr h => ?_)
  · obtain ⟨t, m, rfl, _⟩ := h
    rfl
  · obtain ⟨t, m, rfl, hm, hl, q, bad⟩ := h
    refine ⟨_, (pss_cons (ps_asg (pv 0) (pg_tup (by rfl) (pgs_cons (pg_name (i := 1) sc_check_meter.nd rfl (Or.inl rfl)) (pgs_cons (pg_name (i := 2) sc_check_meter.nd rfl (Or.inl rfl)) (pgs_cons (pg_name (i := 3) sc_check_meter.nd rfl (Or.inl rfl)) (pgs_cons (pg_name (i := 4) sc_check_meter.nd rfl (Or.inl rfl)) pgs_nil))))))
      (pss_cons (ps_if (pt_not (pt_val (pe_call (ok_is_name T) (hr.mono (by decide)) (by rfl) T.g_is_name T.F_is_name.kp T.b_is_name .nil pass0 (pa_cons (pv 1) pa_nil))))
        (pss_one (L2N.ps_raise rfl (L2N.takes_of rfl rfl rfl rfl) (L2N.pmk_own PySem.F.excBase_ValueError T.xQ T.gC_InvalidPlan T.xK (raises_own T.xS T.xT) (by rfl))))
        pss_nil)
      (pss_cons (ps_if (pt_cmpR op_gt (pv 2) (pv 3) (nomark _))
        (pss_one (L2N.ps_raise rfl (L2N.takes_of rfl rfl rfl rfl) (L2N.pmk_own PySem.F.excBase_ValueError T.xQ T.gC_InvalidPlan T.xK (raises_own T.xS T.xT) (by rfl))))
        pss_nil)
      (pss_one (ps_if (pt_cmpR op_lt (pv 4) pe_int (nomark _))
        (pss_one (L2N.ps_raise rfl (L2N.takes_of rfl rfl rfl rfl) (L2N.pmk_own PySem.F.excBase_ValueError T.xQ T.gC_InvalidPlan T.xK (raises_own T.xS T.xT) (by rfl))))
        pss_nil))))), ?_⟩
    refine ⟨.ref t, rfl, t, _, rfl, .inl (.inl hm), rfl, _, _, rfl, _, _, rfl, _, _, rfl, _, _, rfl, rfl, ?_⟩
    refine ⟨.str m.name, rfl, m.name, rfl, hl, fun H1 s1 => ?_⟩
    by_cases c1 : nameOk m.name
    case' neg =>
      rw [decide_eq_false c1]
      exact ⟨_, rfl, iteT (bad (fun z => c1 z.1) _ s1)⟩
    rw [decide_eq_true c1]
    refine ⟨_, rfl, iteF ⟨.int m.low, rfl, .int m.high, rfl, _, _, rfl, rfl, _, rfl, ite2 (fun e => ?_) (fun e => ?_)⟩⟩
    · have := of_decide_eq_true e
      exact bad (fun z => by have := z.2.1; omega) _ s1
    have c2 : ¬ m.high < m.low := fun z => e (decide_eq_true z)
    refine ⟨.int m.err, rfl, _, _, rfl, rfl, _, rfl, ite2 (fun e => ?_) (fun e => ?_)⟩
    · have := of_decide_eq_true e
      exact bad (fun z => by have := z.2.2; omega) _ s1
    have c3 : ¬ m.err < 0 := fun z => e (decide_eq_true z)
    exact q ⟨c1, by omega, by omega⟩ _ s1
end
def sp_check_plan (C : Addr) (K : PySem.W.Frag) : Sp := fun vs H Q E => ∃ (p tm : Addr) (ts : List Addr) (P : Pl), vs = [.ref p] ∧ PlanAt H p tm ts P ∧ P.ms.length ≤ 1000 ∧ (∀ m ∈ P.ms, m.name.length ≤ 1500) ∧ (goodP P → ∀ H', Same H H' → Q .non H') ∧ (¬ goodP P → ∀ H', Same H H' → E (.ref C) none H')
section
variable {P : Program} {w : World} {K : PySem.W.Frag} {mg : Str → Option Value} {base : Heap}
set_option pp.maxSteps 400 in
theorem ok_check_plan (T : Ctx K mg) : FnOk P w K mg base (L2N.CX P w) 3 T.f_check_plan T.fd_check_plan ["plan"] (sp_check_plan T.c_InvalidPlan K) := by
  refine T.F_check_plan.okN sc_check_plan (fun vs H Q E h => ?_) (fun cdv A outer s H vs Q E hr h => ?_)
  · obtain ⟨p, tm, ts, P, rfl, _⟩ := h
    rfl
  · obtain ⟨p, tm, ts, P, rfl, pa, few, lens, q, bad⟩ := h
    refine ⟨_, (pss_cons (ps_asg (pv 0) (pg_tup (by rfl) (pgs_cons (pg_name (i := 1) sc_check_plan.nd rfl (Or.inl rfl)) (pgs_cons (pg_name (i := 2) sc_check_plan.nd rfl (Or.inl rfl)) pgs_nil))))
      (pss_cons (ps_if (pt_cmpR op_lt (pv 1) pe_int (nomark _))
        (pss_one (L2N.ps_raise rfl (L2N.takes_of rfl rfl rfl rfl) (L2N.pmk_own PySem.F.excBase_ValueError T.xQ T.gC_InvalidPlan T.xK (raises_own T.xS T.xT) (by rfl))))
        pss_nil)
      (pss_cons (ps_if (pt_cmpR op_eq (pe_callB call_len_seq (by rfl) T.m_len (by decide +kernel) (pa_cons (pv 2) pa_nil)) pe_int (nomark _))
        (pss_one (L2N.ps_raise rfl (L2N.takes_of rfl rfl rfl rfl) (L2N.pmk_own PySem.F.excBase_ValueError T.xQ T.gC_InvalidPlan T.xK (raises_own T.xS T.xT) (by rfl))))
        pss_nil)
      (pss_cons (ps_for (passes_of rfl) rfl (pi_tup (pv 2)) (pg_name (i := 3) sc_check_plan.nd rfl (.inl rfl))
        (pss_one (ps_expr (pe_callS (ok_check_meter T) (hr.mono (by decide)) (by rfl) T.g_check_meter T.F_check_meter.kp T.b_check_meter (fun σ => L2N.passAt (L2N.takes_of rfl rfl rfl rfl) σ) (pa_cons (pv 3) pa_nil)))))
      (pss_cons (ps_set (i := 4) sc_check_plan.nd rfl (.inl rfl) (pe_call (ok_names_of T) (hr.mono (by decide)) (by rfl) T.g_names_of T.F_names_of.kp T.b_names_of .nil pass0 (pa_cons (pv 0) pa_nil)))
      (pss_one (ps_for (passes_of rfl) rfl (RZ.pi_zipA (by rfl) T.m_zip (pa_cons (pv 4) (pa_cons (pe_slice TT.sl_t (pv 4) (po_some pe_int) po_none) pa_nil))) (pg_tup rfl (pgs_cons (pg_name (i := 5) sc_check_plan.nd rfl (Or.inl rfl)) (pgs_cons (pg_name (i := 6) sc_check_plan.nd rfl (Or.inl rfl)) pgs_nil)))
        (pss_one (ps_if (pt_cmpR op_ge_str (pv 5) (pv 6) (nomark _))
        (pss_one (L2N.ps_raise rfl (L2N.takes_of rfl rfl rfl rfl) (L2N.pmk_own PySem.F.excBase_ValueError T.xQ T.gC_InvalidPlan T.xK (raises_own T.xS T.xT) (by rfl))))
        pss_nil))))))))), ?_⟩
    have tl : ts.length = P.ms.length := pa.low.length
    refine ⟨.ref p, rfl, p, _, rfl, .inl (.inl pa.top), rfl, _, _, rfl, _, _, rfl, rfl, ?_⟩
    refine ⟨.int P.len, rfl, _, _, rfl, rfl, _, rfl, ite2 (fun e => ?_) (fun e => ?_)⟩
    · have := of_decide_eq_true e
      exact bad (fun z => by have := z.1; omega) _ (Same.refl _)
    have len1 : 1 ≤ P.len := by
      have : ¬ P.len < 1 := fun z => e (decide_eq_true z)
      omega
    refine ⟨.ref tm, rfl, tm, _, rfl, .inr (.inl (.inl pa.mid)), rfl, _, rfl, ite2 (fun e => ?_) (fun e => ?_)⟩
    · have e1 := V.int.inj (of_decide_eq_true e)
      rw [List.length_map] at e1
      exact bad (fun z => z.2.1 (List.length_eq_zero_iff.mp (by omega))) _ (Same.refl _)
    have ne : P.ms ≠ [] := fun z => e (decide_eq_true (by rw [List.length_map, tl, z]; rfl))
    refine ⟨.ref tm, rfl, tm, rfl, ⟨_, .inl (.inl pa.mid)⟩, for_tup (K := K) (a := tm) (xs := ts.map V.ref) (fun i σ H' => ∃ y3 : Option V, σ = [some (.ref p), some (.int P.len), some (.ref tm), y3, none, none, none] ∧ Same H H' ∧ ∀ m ∈ P.ms.take i, goodM m) ⟨none, rfl, Same.refl _, fun _ z => by simp at z⟩ (fun i σ H' _ z => by obtain ⟨_, _, s, _⟩ := z; exact .inl (.inl (s _ _ pa.mid))) (fun i x σ H' hx z => ?_) (fun σ H' z => ?_)⟩
    · obtain ⟨y3, rfl, s1, good⟩ := z
      rw [List.getElem?_map] at hx
      obtain ⟨t, ht, rfl⟩ := Option.map_eq_some_iff.mp hx
      obtain ⟨m, hm, hat⟩ := mts_at (pa.same s1).low ht
      have mem := List.mem_of_getElem? hm
      refine ⟨.ref t, rfl, t, m, rfl, hat, lens m mem, fun g H2 s2 => ⟨_, rfl, s1.trans s2, fun m' hm' => ?_⟩, fun ng H2 s2 => bad (fun z => ng (z.2.2.1 m mem)) _ (s1.trans s2)⟩
      rw [List.take_add_one, hm] at hm'
      rcases List.mem_append.mp hm' with z | z
      · exact good m' z
      · rw [List.mem_singleton.mp z]
        exact g
    obtain ⟨y3, rfl, s1, good⟩ := z
    rw [List.length_map, tl, List.take_length] at good
    refine ⟨.ref p, rfl, p, tm, ts, P, rfl, pa.same s1, few, fun H2 b s2 hb => ?_⟩
    have s12 := s1.trans s2
    refine ⟨.ref b, rfl, .ref b, rfl, 1, rfl, b, _, rfl, hb, fun c H3 s3 hc => ?_⟩
    have hb3 := s3 _ _ hb
    have s13 := s12.trans s3
    have cf := cutV_from ((P.ms.map Mt.name).map V.str) 1
    rw [show ((1 : Nat) : Int) = 1 from rfl] at cf
    rw [cf] at hc
    generalize eN : P.ms.map Mt.name = names at hb hb3 hc
    have lN : names.length = P.ms.length := by rw [← eN, List.length_map]
    refine ⟨b, c, _, _, rfl, .inr ⟨.inl (.inl hb3), .inl (.inl hc), for_zipD (K := K) (a := b) (b := c) (xs := names.map V.str) (ys := (names.map V.str).drop 1) (by rw [List.length_drop]; omega) (fun i σ H' => ∃ y5 y6 : Option V, σ = [some (.ref p), some (.int P.len), some (.ref tm), y3, some (.ref b), y5, y6] ∧ Same H3 H' ∧ ∀ j a a', j < i → names[j]? = some a → names[j + 1]? = some a' → Bel a a') ⟨none, none, rfl, Same.refl _, fun _ _ _ z => absurd z (Nat.not_lt_zero _)⟩ (fun i σ H' z => by obtain ⟨_, _, _, s, _⟩ := z; exact ⟨.inl (.inl (s _ _ hb3)), .inl (.inl (s _ _ hc))⟩) (fun i x y t σ H' z hx hy nt => ?_) (fun σ H' z => ?_)⟩⟩
    · obtain ⟨y5, y6, rfl, s4, up⟩ := z
      rw [List.getElem?_map] at hx
      obtain ⟨a, ha, rfl⟩ := Option.map_eq_some_iff.mp hx
      rw [List.getElem?_drop, List.getElem?_map, Nat.add_comm] at hy
      obtain ⟨a', ha', rfl⟩ := Option.map_eq_some_iff.mp hy
      have st := same_new (o := .tup [.str a, .str a']) nt
      have s14 := (s13.trans s4).trans st
      refine ⟨t, _, rfl, .inl (.inl upd_same), rfl, _, _, rfl, _, _, rfl, rfl, ?_⟩
      refine ⟨.str a, rfl, .str a', rfl, a, a', rfl, rfl, _, rfl, ite2 (fun e => ?_) (fun e => ?_)⟩
      · have ng : ¬ Bel a a' := fun z => by
          have e1 : decide (a.cps.toList < a'.cps.toList) = true := decide_eq_true (p := a.cps.toList < a'.cps.toList) z
          rw [e1] at e
          cases e
        exact bad (fun z => ng (z.2.2.2 i a a' (by rw [eN]; exact ha) (by rw [eN]; exact ha'))) _ s14
      · have bl : Bel a a' := by
          cases e1 : decide (a.cps.toList < a'.cps.toList) with
          | true => exact of_decide_eq_true (p := a.cps.toList < a'.cps.toList) e1
          | false => exact absurd (by rw [e1]; rfl) e
        refine ⟨_, _, rfl, s4.trans st, fun j c1 c2 hj h1 h2 => ?_⟩
        rcases Nat.lt_or_ge j i with z | z
        · exact up j c1 c2 z h1 h2
        · obtain rfl : j = i := by omega
          rw [ha] at h1
          rw [ha'] at h2
          cases h1
          cases h2
          exact bl
    · obtain ⟨y5, y6, rfl, s4, up⟩ := z
      rw [List.length_drop, List.length_map] at up
      refine q ⟨len1, ne, good, fun j a a' h1 h2 => ?_⟩ _ (s13.trans s4)
      rw [eN] at h1 h2
      have := (List.getElem?_eq_some_iff.mp h2).1
      exact up j a a' (by omega) h1 h2
end
def sp_l_draws (K : PySem.W.Frag) : Sp := fun vs H Q _ => ∃ (a : Addr) (ns : List Int) (m : Nat), vs = [.ref a, .int (m : Int)] ∧ SqL K H a (ns.map V.int) ∧ ns.length ≤ 1000 ∧ m ≤ 1000 ∧
  ∀ H' d, Same H H' → H d = none → DrA H' d → Q (.ref d) H'
section
variable {P : Program} {w : World} {K : PySem.W.Frag} {mg : Str → Option Value} {base : Heap}
theorem ok_l_draws (T : Ctx K mg) : FnOk P w K mg base CX0 1 T.f_l_draws T.fd_l_draws ["script", "many"] (sp_l_draws K) := by
  refine T.F_l_draws.ok sc_l_draws (fun vs H Q E h => ?_) (fun cdv A outer s H vs Q E hr h => ?_)
  · obtain ⟨a, ns, m, rfl, _⟩ := h
    rfl
  · obtain ⟨a, ns, m, rfl, hS, hlen, hm, q⟩ := h
    refine ⟨_, (pss_cons (ps_setLc (i := 2) (own := [("cell", 8)]) (g := gName 8) (by rfl) sc_l_draws.nd rfl rfl (sw_true rfl rfl rfl (by decide +kernel)) (pi_list (pv 0)) (blkOk_by (own := [("cell", 8)]) (N := ["script", "many", "cells", "rest", "draws", "k", "at", "once", "cell"]) (sc := defScope s_l_draws) (by decide +kernel)) (fun _ _ _ _ _ => pg_name (i := 8) sc_l_draws.nd rfl (Or.inl rfl)) (fun _ _ _ _ _ => pts_nil) (fun _ _ _ _ _ => (pe_callTy call_int1 (by rfl) T.m_int (by decide +kernel) (pa_cons (pv 8) pa_nil))))
      (pss_cons (ps_if (pt_cmpR op_eq (pe_callB call_len_seq (by rfl) T.m_len (by decide +kernel) (pa_cons (pv 2) pa_nil)) pe_int (nomark _))
        (pss_one (ps_expr (pe_bm PySem.F.plainAttrs_list PySem.F.slot_list_append PySem.F.type_list_append mt_append (pv 2) (pa_cons pe_int pa_nil))))
        pss_nil)
      (pss_cons (ps_set (i := 3) sc_l_draws.nd rfl (.inl rfl) (pe_callTy call_list_of (by rfl) T.m_list (by decide +kernel) (pa_cons (pv 2) pa_nil)))
      (pss_cons (ps_set (i := 4) sc_l_draws.nd rfl (.inl rfl) (pe_lst pa_nil))
      (pss_cons (ps_for PassesOwn.never rfl (pi_range1 (by rfl) T.m_range (pa_cons (pv 1) pa_nil)) (pg_name (i := 5) sc_l_draws.nd rfl (.inl rfl))
        (pss_cons (ps_set (i := 6) sc_l_draws.nd rfl (.inl rfl) (pe_op op_mod (pv 5) (pe_callB call_len_seq (by rfl) T.m_len (by decide +kernel) (pa_cons (pv 2) pa_nil))))
      (pss_one (ps_if (pt_cmpR op_ge (pe_ix ix_list (pv 2) (pv 6) (fun _ _ => rfl)) (pe_op op_pow pe_int pe_int) (nomark _))
        (pss_cons (ps_expr (pe_bm PySem.F.plainAttrs_list PySem.F.slot_list_append PySem.F.type_list_append mt_append (pv 4) (pa_cons (pe_op op_mod (pe_callTy call_int1 (by rfl) T.m_int (by decide +kernel) (pa_cons (pe_ix ix_list (pv 3) (pv 6) (fun _ _ => rfl)) pa_nil)) pe_int) pa_nil)))
      (pss_one (ps_asg (pe_op op_fdiv (pe_ix ix_list (pv 3) (pv 6) (fun _ _ => rfl)) pe_int) (pg_sub (pv 3) (pv 6) set_list))))
        (pss_cons (ps_set (i := 7) sc_l_draws.nd rfl (.inl rfl) (pe_op op_mod (pe_callTy call_int1 (by rfl) T.m_int (by decide +kernel) (pa_cons (pe_op op_add (pe_op op_add (pe_op op_mul (pe_ix ix_list (pv 2) (pv 6) (fun _ _ => rfl)) pe_int) (pe_op op_mul (pv 5) pe_int)) pe_int) pa_nil)) pe_int))
      (pss_one (ps_expr (pe_bm PySem.F.plainAttrs_list PySem.F.slot_list_append PySem.F.type_list_append mt_append (pv 4) (pa_cons (pe_op op_mod (pe_callTy call_int1 (by rfl) T.m_int (by decide +kernel) (pa_cons (pe_op op_add (pe_op op_add (pe_op op_mul (pv 7) (pv 7)) (pe_op op_mul pe_int (pv 7))) (pv 5)) pa_nil)) pe_int) pa_nil)))))))))
      (pss_cons (ps_expr (pe_bm0 PySem.F.plainAttrs_list PySem.F.slot_list_reverse PySem.F.type_list_reverse mt_reverse (pv 4)))
      (pss_one (ps_ret (pv 4))))))))), ?_⟩
    -- cells = [int(cell) for cell in script]
    refine ⟨.ref a, rfl, a, rfl, ⟨_, hS⟩, fun C hC => lc_list (K := K) (a := a) (xs := ns.map V.int) (fun i H1 => Same H H1 ∧ H1 C = some (.lst ((ns.take i).map V.int))) ⟨same_new hC, upd_same⟩ (fun i H1 _ p => p.1.seq hS) (fun i x H1 hx p => ?_) (fun H1 p => ?_)⟩
    · obtain ⟨hlt, hx'⟩ := List.getElem?_eq_some_iff.mp hx
      rw [List.length_map] at hlt
      have ex : x = .int ns[i] := by
        rw [← hx', List.getElem_map]
      subst ex
      refine ⟨rfl, _, rfl, .inl ⟨_, rfl, _, p.2, ?_, ?_, ?_⟩⟩
      · rw [List.length_map, List.length_take]
        exact small (by omega)
      · exact fun b o e => by
          rw [upd_ne (ne_of_none e hC)]
          exact p.1 b o e
      · rw [upd_same, List.take_add_one, List.getElem?_eq_getElem hlt, List.map_append]
        rfl
    · rw [List.length_map, List.take_length] at p
      obtain ⟨s1, hc⟩ := p
      refine ⟨.ref C, rfl, C, _, rfl, .inl (.inl (.inl hc)), rfl, _, rfl, ite2 (fun e => ?c1) (fun e => ?c2)⟩
      case' c1 =>
        have e0 : ns = [] := by
          have z : ((ns.map V.int).length : Int) = 0 := V.int.inj (of_decide_eq_true e)
          rw [List.length_map] at z
          exact List.length_eq_zero_iff.mp (by omega)
        subst e0
        refine ⟨.ref C, rfl, .inl ⟨rfl, _, .inl (.inl hc)⟩, C, _, _, rfl, rfl, hc, small (by decide), ?_⟩
        obtain ⟨H2, cs, hH, hcs, hcl, s2, hc2⟩ : ∃ (H2 : Hp) (cs : List Int), H2 = upd H1 C (.lst (List.map V.int [] ++ [.int 0])) ∧ cs ≠ [] ∧ cs.length ≤ 1000 ∧ Same H H2 ∧ H2 C = some (.lst (cs.map V.int)) :=
          ⟨_, [0], rfl, by simp, by decide, fun b o e => by rw [upd_ne (ne_of_none e hC)]; exact s1 b o e, upd_same⟩
        rw [← hH]
      case' c2 =>
        obtain ⟨H2, cs, hH, hcs, hcl, s2, hc2⟩ : ∃ (H2 : Hp) (cs : List Int), H2 = H1 ∧ cs ≠ [] ∧ cs.length ≤ 1000 ∧ Same H H2 ∧ H2 C = some (.lst (cs.map V.int)) :=
          ⟨H1, ns, rfl, fun z => by subst z; exact e (decide_eq_true rfl), hlen, s1, hc⟩
        rw [← hH]
      all_goals (
        have hcl0 : 0 < cs.length := by cases cs with | nil => exact absurd rfl hcs | cons x r => exact Nat.succ_pos _
        refine ⟨.ref C, rfl, C, _, rfl, .inl (.inl (.inl hc2)), fun r nr => ⟨Nat.zero_le _, fun D nD => ⟨.int m, rfl, m, rfl, by omega, by omega, ?_⟩⟩⟩
        have nrC : C ≠ r := ne_of_none hc2 nr
        have nDr : D ≠ r := fun e => by rw [e, upd_same] at nD; cases nD
        have nDC : C ≠ D := fun e => by rw [← e, upd_ne nrC, hc2] at nD; cases nD
        have nHD : H D = none := s2.free (by rw [upd_ne nDr] at nD; exact nD)
        have nHr : H r = none := s2.free nr
        refine for_range (lo := 0) (n := m) (fun i σ H3 => ∃ (y5 y6 y7 y8 : Option V) (rs ds : List Int), σ = [some (.ref a), some (.int m), some (.ref C), some (.ref r), some (.ref D), y5, y6, y7, y8] ∧
          Same H H3 ∧ H3 C = some (.lst (cs.map V.int)) ∧ H3 r = some (.lst (rs.map V.int)) ∧ rs.length = cs.length ∧ H3 D = some (.lst (ds.map V.int)) ∧ ds.length = i) ?_ (fun i σ H3 hi hp => ?_) (fun σ H3 hp => ?_)
        · refine ⟨none, none, none, none, cs, [], rfl, (s2.trans (same_new nr)).trans (same_new nD), ?_, ?_, rfl, upd_same, rfl⟩
          · rw [upd_ne nDC, upd_ne nrC]; exact hc2
          · rw [upd_ne nDr.symm, upd_same]
        · obtain ⟨y5, y6, y7, y8, rs, ds, rfl, s3, hC3, hr3, hrl, hD3, hdl⟩ := hp
          have e0 : (0 : Int) + (i : Int) = (i : Int) := by omega
          have hk0 : 0 ≤ ((0 : Int) + (i : Int)) % (cs.length : Int) := Int.emod_nonneg _ (by omega)
          have hk1 : ((0 : Int) + (i : Int)) % (cs.length : Int) < (cs.length : Int) := Int.emod_lt_of_pos _ (by omega)
          have hlenC : ((cs.map V.int).length : Int) = (cs.length : Int) := by rw [List.length_map]
          have hSC : SqL K H3 C (cs.map V.int) := .inl (.inl hC3)
          have hSr : SqL K H3 r (rs.map V.int) := .inl (.inl hr3)
          have more : ∀ (z : Int) (H4 : Hp), (∀ b o, H3 b = some o → b ≠ D → b ≠ r → H4 b = some o) → ∀ rs' : List Int, rs'.length = cs.length → H4 r = some (.lst (rs'.map V.int)) → H4 D = some (.lst (ds.map V.int ++ [.int z])) → ∀ y6 y7 : Option V,
              ∃ (z5 z6 z7 z8 : Option V) (rs ds : List Int), [some (.ref a), some (.int m), some (.ref C), some (.ref r), some (.ref D), some (.int ((0 : Int) + (i : Int))), y6, y7, y8] = [some (.ref a), some (.int m), some (.ref C), some (.ref r), some (.ref D), z5, z6, z7, z8] ∧
              Same H H4 ∧ H4 C = some (.lst (cs.map V.int)) ∧ H4 r = some (.lst (rs.map V.int)) ∧ rs.length = cs.length ∧ H4 D = some (.lst (ds.map V.int)) ∧ ds.length = i + 1 := fun z H4 k rs' hl' hr' hd' y6 y7 => by
            refine ⟨_, _, _, _, rs', ds ++ [z], rfl, fun b o e => k b o (s3 b o e) (ne_of_none e nHD) (ne_of_none e nHr), k C _ hC3 nDC nrC, hr', hl', ?_, ?_⟩
            · rw [hd', List.map_append]; rfl
            · rw [List.length_append, hdl]; rfl
          refine ⟨.int (0 + (i : Int)), rfl, .ref C, rfl, C, _, rfl, .inl hSC, _, _, rfl, rfl, by rw [hlenC]; omega, ?_⟩
          rw [hlenC]
          dsimp only
          generalize hkk : ((0 : Int) + (i : Int)) % (cs.length : Int) = kk at hk0 hk1 ⊢
          have hat : atI (cs.map V.int) kk = some (.int (cs[kk.toNat]'(by omega))) := atM_pos hk0 hk1
          have har : atI (rs.map V.int) kk = some (.int (rs[kk.toNat]'(by omega))) := atM_pos hk0 (by omega)
          generalize cs[kk.toNat]'(by omega) = cv at hat
          generalize rs[kk.toNat]'(by omega) = rv at har
          refine ⟨.ref C, rfl, .int kk, rfl, C, _, kk, _, rfl, rfl, hSC, hat, 10, 18, rfl, rfl, ⟨by decide, by decide, by decide⟩, _, _, rfl, rfl, _, rfl, ite2 (fun e => ?_) (fun e => ?_)⟩
          · have hge : (10 : Int) ^ (18 : Int).toNat ≤ cv := of_decide_eq_true e
            refine ⟨.ref D, rfl, .inl ⟨rfl, _, .inl (.inl hD3)⟩, .ref r, rfl, .int kk, rfl, r, _, kk, _, rfl, rfl, hSr, har, .inl ⟨_, rfl, _, _, rfl, rfl, (show (0 : Int) < 1000 by decide), D, _, _, rfl, rfl, hD3, ?_, ?_⟩⟩
            · rw [List.length_map]; exact small (by omega)
            · have nrD : r ≠ D := nDr.symm
              have hr4 : upd H3 D (.lst (ds.map V.int ++ [.int (rv % 1000)])) r = some (.lst (rs.map V.int)) := by rw [upd_ne nrD]; exact hr3
              have hj : ixN (rs.map V.int).length kk = some kk.toNat := by
                unfold ixN
                rw [if_pos hk0, if_pos (by rw [List.length_map]; omega)]
              refine ⟨.ref r, rfl, .int kk, rfl, r, _, kk, _, rfl, rfl, .inl (.inl hr4), har, _, _, rfl, rfl, ⟨by decide, by decide⟩, .ref r, rfl, .int kk, rfl, r, _, kk, _, rfl, rfl, hr4, hj, ?_⟩
              refine more (rv % 1000) _ (fun b o e n1 n2 => ?_) (rs.set kk.toNat (rv / 1000)) (by rw [List.length_set]; exact hrl) ?_ ?_ _ _
              · rw [upd_ne n2, upd_ne n1]; exact e
              · rw [upd_same, List.map_set]
              · rw [upd_ne nDr, upd_same]
          · refine ⟨.ref C, rfl, .int kk, rfl, C, _, kk, _, rfl, rfl, hSC, hat, _, _, rfl, rfl, .inr ⟨by decide, by decide⟩, .int (0 + (i : Int)), rfl, _, _, rfl, rfl, .inr ⟨by decide, by decide⟩, _, _, rfl, rfl, _, _, rfl, rfl, .inl ⟨_, rfl, _, _, rfl, rfl, (show (0 : Int) < 2147483647 by decide), ?_⟩⟩
            have o0 : 0 ≤ (cv * 48271 + (0 + (i : Int)) * 69621 + 11) % 2147483647 := Int.emod_nonneg _ (by decide)
            have o1 : (cv * 48271 + (0 + (i : Int)) * 69621 + 11) % 2147483647 < 2147483647 := Int.emod_lt_of_pos _ (by decide)
            dsimp only
            generalize (cv * 48271 + (0 + (i : Int)) * 69621 + 11) % 2147483647 = on at o0 o1 ⊢
            refine ⟨.ref D, rfl, .inl ⟨rfl, _, .inl (.inl hD3)⟩, .int on, rfl, .int on, rfl, _, _, rfl, rfl, .inl ⟨by omega, by omega⟩, .int on, rfl, _, _, rfl, rfl, .inl ⟨by decide, by decide⟩, _, _, rfl, rfl, .int (0 + (i : Int)), rfl, _, _, rfl, rfl, .inl ⟨_, rfl, _, _, rfl, rfl, (show (0 : Int) < 1000003 by decide), D, _, _, rfl, rfl, hD3, ?_, ?_⟩⟩
            · rw [List.length_map]; exact small (by omega)
            · exact more _ _ (fun b o e n1 n2 => by rw [upd_ne n1]; exact e) rs hrl (by rw [upd_ne nDr.symm]; exact hr3) upd_same _ _
        · obtain ⟨y5, y6, y7, y8, rs, ds, rfl, s3, hC3, hr3, hrl, hD3, hdl⟩ := hp
          refine ⟨.ref D, rfl, .inl ⟨rfl, _, .inl (.inl hD3)⟩, D, _, rfl, rfl, hD3, .ref D, rfl, ?_⟩
          refine q _ D (fun b o e => ?_) nHD ⟨ds.reverse, ?_⟩
          · rw [upd_ne (ne_of_none e nHD)]; exact s3 b o e
          · rw [upd_same, List.map_reverse])
end
def sp_l_take (K : PySem.W.Frag) : Sp := fun vs H Q _ => ∃ (d : Addr) (m : Int), vs = [.ref d, .int m] ∧ DrA H d ∧ 0 < m ∧ ∀ H' r, Dr d H H' → 0 ≤ r → r < m → Q (.int r) H'
section
variable {P : Program} {w : World} {K : PySem.W.Frag} {mg : Str → Option Value} {base : Heap}
theorem ok_l_take (T : Ctx K mg) : FnOk P w K mg base CX0 1 T.f_l_take T.fd_l_take ["draws", "many"] (sp_l_take K) := by
  refine T.F_l_take.ok sc_l_take (fun vs H Q E h => ?_) (fun cdv A outer s H vs Q E hr h => ?_)
  · obtain ⟨d, m, rfl, _⟩ := h
    rfl
  · obtain ⟨d, m, rfl, ⟨ns, hd⟩, hm, q⟩ := h
    refine ⟨_, (pss_cons (ps_if (pt_cmpR op_eq (pe_callB call_len_seq (by rfl) T.m_len (by decide +kernel) (pa_cons (pv 0) pa_nil)) pe_int (nomark _))
        (pss_one (ps_ret pe_int))
        pss_nil)
      (pss_one (ps_ret (pe_op op_mod (pe_callTy call_int1 (by rfl) T.m_int (by decide +kernel) (pa_cons (pe_bm0 PySem.F.plainAttrs_list PySem.F.slot_list_pop PySem.F.type_list_pop mt_pop (pv 0)) pa_nil)) (pv 1))))), ?_⟩
    have hS : SqL K H d (ns.map V.int) := .inl (.inl hd)
    refine ⟨.ref d, rfl, d, _, rfl, .inl hS, rfl, _, rfl, ite2 (fun e => ?_) (fun e => ?_)⟩
    · exact q H 0 ⟨fun _ _ _ h => h, ns, hd⟩ (Int.le_refl 0) hm
    · have hne : ns ≠ [] := fun z => by
        subst z
        exact e (decide_eq_true rfl)
      have hl : (ns.map V.int)[(ns.map V.int).length - 1]? = some (.int (ns.getLast hne)) := by
        rw [List.getElem?_map, List.length_map, at_last hne]
        rfl
      refine ⟨.ref d, rfl, .inl ⟨rfl, _, hS⟩, d, _, _, rfl, rfl, hd, hl, .inl ⟨_, rfl, .int m, rfl, _, _, rfl, rfl, hm, ?_⟩⟩
      rw [← List.map_dropLast]
      exact q _ _ (dr_upd _) (Int.emod_nonneg _ (by omega)) (Int.emod_lt_of_pos _ hm)
end
def sp_l_cell (K : PySem.W.Frag) : Sp := fun vs H Q _ => ∃ (a d : Addr) (ns : List Int), vs = [.ref a, .ref d] ∧ (∀ H', Dr d H H' → SqL K H' a (ns.map V.int)) ∧ DrA H d ∧
  ∀ H' c, Dr d H H' → (c = 0 ∨ c ∈ ns) → Q (.int c) H'
section
variable {P : Program} {w : World} {K : PySem.W.Frag} {mg : Str → Option Value} {base : Heap}
theorem ok_l_cell (T : Ctx K mg) : FnOk P w K mg base CX0 2 T.f_l_cell T.fd_l_cell ["script", "draws"] (sp_l_cell K) := by
  refine T.F_l_cell.ok sc_l_cell (fun vs H Q E h => ?_) (fun cdv A outer s H vs Q E hr h => ?_)
  · obtain ⟨a, d, ns, rfl, _⟩ := h
    rfl
  · obtain ⟨a, d, ns, rfl, hK, hd, q⟩ := h
    have hS := hK H (Dr.refl hd)
    refine ⟨_, (pss_cons (ps_if (pt_cmpR op_eq (pe_callB call_len_seq (by rfl) T.m_len (by decide +kernel) (pa_cons (pv 0) pa_nil)) pe_int (nomark _))
        (pss_one (ps_ret pe_int))
        pss_nil)
      (pss_one (ps_ret (pe_callTy call_int1 (by rfl) T.m_int (by decide +kernel) (pa_cons (pe_ix ix_list (pv 0) (pe_call (ok_l_take T) (hr.mono (by decide)) (by rfl) T.g_l_take T.F_l_take.kp T.b_l_take .nil pass0 (pa_cons (pv 1) (pa_cons (pe_callB call_len_seq (by rfl) T.m_len (by decide +kernel) (pa_cons (pv 0) pa_nil)) pa_nil))) (fun _ _ => rfl)) pa_nil))))), ?_⟩
    refine ⟨.ref a, rfl, a, _, rfl, .inl hS, rfl, _, rfl, ite2 (fun e => ?_) (fun e => ?_)⟩
    · exact q H 0 (Dr.refl hd) (.inl rfl)
    · have hne : ns ≠ [] := fun z => by
        subst z
        exact e (decide_eq_true rfl)
      have hl : 0 < ns.length := by cases ns with | nil => exact absurd rfl hne | cons x r => exact Nat.succ_pos _
      refine ⟨.ref a, rfl, .ref d, rfl, .ref a, rfl, a, _, rfl, .inl hS, d, _, rfl, hd, by rw [List.length_map]; omega, fun H1 r r1 h0 h1 => ?_⟩
      rw [List.length_map] at h1
      have hS1 : SqL K H1 a (ns.map V.int) := hK H1 r1
      exact ⟨a, _, r, _, rfl, rfl, hS1, atM_pos h0 h1, .inl ⟨_, rfl, q H1 _ r1 (.inr (List.getElem_mem _))⟩⟩
end
/-- the word of a number, sign by sign -/
def wcps : Nat → Int → List Nat → List Nat
  | 0, _, acc => acc
  | f + 1, n, acc => if n < 1 then acc else wcps f ((n - 1) / 26) ((97 + ((n - 1) % 26).toNat) :: acc)
def wordS (n : Int) : Str := ⟨(wcps 60 n []).toArray⟩
theorem wcps_stop : ∀ (f : Nat) (n : Int) (acc : List Nat), n < 1 → wcps f n acc = acc
  | 0, _, _, _ => rfl
  | f + 1, n, acc, h => by
    show (if n < 1 then acc else _) = acc
    rw [if_pos h]
def abc : Str := "abcdefghijklmnopqrstuvwxyz"
theorem abc_at : ∀ j : Nat, j < 26 → abc.cps.toList[j]? = some (97 + j) := by decide +kernel
theorem abc_len : abc.cps.toList.length = 26 := by decide +kernel
theorem wcps_isW : ∀ (f : Nat) (n : Int) (acc : List Nat), (∀ c ∈ acc, 97 ≤ c ∧ c ≤ 122) → (∀ c ∈ wcps f n acc, 97 ≤ c ∧ c ≤ 122) ∧ (wcps f n acc).length ≤ f + acc.length ∧ (acc ≠ [] → wcps f n acc ≠ [])
  | 0, n, acc, h => ⟨h, by show acc.length ≤ _; omega, fun z => z⟩
  | f + 1, n, acc, h => by
    by_cases c : n < 1
    · rw [wcps_stop _ _ _ c]
      exact ⟨h, by omega, fun z => z⟩
    · have e : wcps (f + 1) n acc = wcps f ((n - 1) / 26) ((97 + ((n - 1) % 26).toNat) :: acc) := if_neg c
      have h0 : 0 ≤ (n - 1) % 26 := Int.emod_nonneg _ (by decide)
      have h1 : (n - 1) % 26 < 26 := Int.emod_lt_of_pos _ (by decide)
      obtain ⟨a, b, d⟩ := wcps_isW f ((n - 1) / 26) ((97 + ((n - 1) % 26).toNat) :: acc) (fun x hx => by
        rcases List.mem_cons.mp hx with z | z
        · omega
        · exact h x z)
      rw [e]
      exact ⟨a, by simp only [List.length_cons] at b; omega, fun _ => d (List.cons_ne_nil _ _)⟩
theorem wordS_isW {n : Int} (h : 1 ≤ n) : IsW (wordS n) := by
  have e : wcps 60 n [] = wcps 59 ((n - 1) / 26) [97 + ((n - 1) % 26).toNat] := if_neg (by omega)
  have h0 : 0 ≤ (n - 1) % 26 := Int.emod_nonneg _ (by decide)
  have h1 : (n - 1) % 26 < 26 := Int.emod_lt_of_pos _ (by decide)
  obtain ⟨a, b, d⟩ := wcps_isW 59 ((n - 1) / 26) [97 + ((n - 1) % 26).toNat] (fun x hx => by
    rw [List.mem_singleton.mp hx]
    omega)
  rw [← e] at a b d
  refine ⟨by simpa [wordS] using d (by simp), by simpa [wordS] using a, ?_⟩
  show (wcps 60 n []).toArray.size ≤ 200
  simp only [List.size_toArray]
  simp only [List.length_cons, List.length_nil] at b
  omega
def sp_l_word (K : PySem.W.Frag) : Sp := fun vs H Q _ => ∃ n : Int, vs = [.int n] ∧ Q (.str (wordS n)) H
section
variable {P : Program} {w : World} {K : PySem.W.Frag} {mg : Str → Option Value} {base : Heap}
theorem ok_l_word (T : Ctx K mg) : FnOk P w K mg base CX0 1 T.f_l_word T.fd_l_word ["number"] (sp_l_word K) := by
  refine T.F_l_word.ok sc_l_word (fun vs H Q E h => ?_) (fun cdv A outer s H vs Q E hr h => ?_)
  · obtain ⟨n, rfl, _⟩ := h
    rfl
  · obtain ⟨n, rfl, q⟩ := h
    refine ⟨_, (pss_cons (ps_set (i := 1) sc_l_word.nd rfl (.inl rfl) pe_str)
      (pss_cons (ps_for PassesOwn.never rfl (pi_range1 (by rfl) T.m_range (pa_cons pe_int pa_nil)) (pg_name (i := 2) sc_l_word.nd rfl (.inl rfl))
        (pss_cons (ps_if (pt_cmpR op_lt (pv 0) pe_int (nomark _))
        (pss_one ps_break)
        pss_nil)
      (pss_cons (ps_set (i := 1) sc_l_word.nd rfl (.inl rfl) (pe_op op_add_str (pe_ix ix_str pe_str (pe_op op_mod (pe_callTy call_int1 (by rfl) T.m_int (by decide +kernel) (pa_cons (pe_op op_sub (pv 0) pe_int) pa_nil)) pe_int) (fun _ _ => rfl)) (pv 1)))
      (pss_one (ps_set (i := 0) sc_l_word.nd rfl (.inl rfl) (pe_op op_fdiv (pe_op op_sub (pv 0) pe_int) pe_int))))))
      (pss_one (ps_ret (pv 1))))), ?_⟩
    refine ⟨60, rfl, by decide, by decide, ?_⟩
    refine for_range (lo := 0) (n := 60) (fun i σ H3 => ∃ (m : Int) (acc : List Nat) (y2 : Option V), σ = [some (.int m), some (.str ⟨acc.toArray⟩), y2] ∧ H3 = H ∧ wcps 60 n [] = wcps (60 - i) m acc ∧ acc.length ≤ i) ⟨n, [], none, rfl, rfl, rfl, Nat.le_refl 0⟩ (fun i σ H3 hi hp => ?_) (fun σ H3 hp => ?_)
    · obtain ⟨m, acc, y2, rfl, rfl, hw, hl⟩ := hp
      refine ⟨.int m, rfl, _, _, rfl, rfl, _, rfl, ite2 (fun e => ?_) (fun e => ?_)⟩
      · have hm : m < 1 := of_decide_eq_true e
        rw [wcps_stop _ _ _ hm] at hw
        refine ⟨.str ⟨acc.toArray⟩, rfl, ?_⟩
        rw [← hw]
        exact q
      · have hm : ¬ m < 1 := fun z => e (decide_eq_true z)
        have h0 : 0 ≤ (m - 1) % 26 := Int.emod_nonneg _ (by decide)
        have h1 : (m - 1) % 26 < 26 := Int.emod_lt_of_pos _ (by decide)
        have hat : atI abc.cps.toList ((m - 1) % 26) = some (97 + ((m - 1) % 26).toNat) := by
          have ez : (m - 1) % 26 = (((m - 1) % 26).toNat : Int) := by omega
          have q := abc_at ((m - 1) % 26).toNat (by omega)
          rw [ez]
          exact atI_nat q
        refine ⟨.int m, rfl, _, _, rfl, rfl, .inl ⟨_, rfl, _, _, rfl, rfl, (show (0 : Int) < 26 by decide), abc, _, _, rfl, rfl, by decide +kernel, hat, .str ⟨acc.toArray⟩, rfl, _, _, rfl, rfl, ?_, .int m, rfl, _, _, rfl, rfl, _, _, rfl, rfl, ⟨by decide, by decide⟩, ?_⟩⟩
        · show 1 + acc.toArray.size ≤ sizeLine
          have : acc.toArray.size = acc.length := by simp
          rw [this]
          exact small' (by omega)
        · refine ⟨(m - 1) / 26, (97 + ((m - 1) % 26).toNat) :: acc, some (.int (0 + (i : Int))), ?_, rfl, ?_, by simp only [List.length_cons]; omega⟩
          · have ea : (⟨#[97 + ((m - 1) % 26).toNat]⟩ : Str) ++ ⟨acc.toArray⟩ = ⟨((97 + ((m - 1) % 26).toNat) :: acc).toArray⟩ := by
              show Str.mk (#[97 + ((m - 1) % 26).toNat] ++ acc.toArray) = _
              congr 1
              simp
            rw [ea]
            rfl
          · rw [hw]
            have ef : 60 - i = (60 - (i + 1)) + 1 := by omega
            rw [ef]
            show (if m < 1 then acc else _) = _
            rw [if_neg hm]
    · obtain ⟨m, acc, y2, rfl, rfl, hw, hl⟩ := hp
      refine ⟨.str ⟨acc.toArray⟩, rfl, ?_⟩
      have e : wordS n = ⟨acc.toArray⟩ := by
        unfold wordS
        rw [hw]
        rfl
      rw [← e]
      exact q
end
theorem isW_cat {a b : Str} (ha : ∀ c ∈ a.cps.toList, 97 ≤ c ∧ c ≤ 122) (hl : a.length ≤ 60) (hb : IsW b) (hb2 : b.length ≤ 100) : IsW (a ++ b) := by
  have e : (a ++ b).cps.toList = a.cps.toList ++ b.cps.toList := by
    show (a.cps ++ b.cps).toList = _
    simp
  refine ⟨?_, ?_, ?_⟩
  · rw [e]
    intro z
    exact hb.1 (List.append_eq_nil_iff.mp z).2
  · rw [e]
    intro c hc
    rcases List.mem_append.mp hc with z | z
    · exact ha c z
    · exact hb.2.1 c z
  · show (a.cps ++ b.cps).size ≤ 200
    rw [Array.size_append]
    have h1 : a.cps.size ≤ 60 := hl
    have h2 : b.cps.size ≤ 100 := hb2
    omega
theorem wordS_len (n : Int) : (wordS n).length ≤ 60 := by
  show (wcps 60 n []).toArray.size ≤ 60
  simp only [List.size_toArray]
  have h := (wcps_isW 60 n [] (fun _ z => nomatch z)).2.1
  simpa using h
theorem ljkl_ok : ∀ c ∈ (Str.ofString "abcdefghijkl").cps.toList, 97 ≤ c ∧ c ≤ 122 := by decide +kernel
theorem ljkl_len : (Str.ofString "abcdefghijkl").length ≤ 60 := by decide +kernel
def sp_l_some_word (K : PySem.W.Frag) : Sp := fun vs H Q _ => ∃ d : Addr, vs = [.ref d] ∧ DrA H d ∧ ∀ H' w, Dr d H H' → IsW w → Q (.str w) H'
section
variable {P : Program} {w : World} {K : PySem.W.Frag} {mg : Str → Option Value} {base : Heap}
theorem ok_l_some_word (T : Ctx K mg) : FnOk P w K mg base CX0 2 T.f_l_some_word T.fd_l_some_word ["draws"] (sp_l_some_word K) := by
  refine T.F_l_some_word.ok sc_l_some_word (fun vs H Q E h => ?_) (fun cdv A outer s H vs Q E hr h => ?_)
  · obtain ⟨d, rfl, _⟩ := h
    rfl
  · obtain ⟨d, rfl, hd, q⟩ := h
    refine ⟨_, (pss_cons (ps_set (i := 1) sc_l_some_word.nd rfl (.inl rfl) (pe_call (ok_l_take T) (hr.mono (by decide)) (by rfl) T.g_l_take T.F_l_take.kp T.b_l_take .nil pass0 (pa_cons (pv 0) (pa_cons pe_int pa_nil))))
      (pss_cons (ps_if (pt_cmpR op_lt (pv 1) pe_int (nomark _))
        (pss_one (ps_ret (pe_call (ok_l_word T) (hr.mono (by decide)) (by rfl) T.g_l_word T.F_l_word.kp T.b_l_word .nil pass0 (pa_cons (pe_op op_add (pe_op op_add pe_int (pe_op op_mod (pv 1) pe_int)) (pe_op op_mul pe_int (pe_op op_mod (pe_op op_fdiv (pv 1) pe_int) pe_int))) pa_nil))))
        pss_nil)
      (pss_cons (ps_if (pt_cmpR op_lt (pv 1) pe_int (nomark _))
        (pss_one (ps_ret (pe_call (ok_l_word T) (hr.mono (by decide)) (by rfl) T.g_l_word T.F_l_word.kp T.b_l_word .nil pass0 (pa_cons (pe_op op_add pe_int (pe_call (ok_l_take T) (hr.mono (by decide)) (by rfl) T.g_l_take T.F_l_take.kp T.b_l_take .nil pass0 (pa_cons (pv 0) (pa_cons pe_int pa_nil)))) pa_nil))))
        pss_nil)
      (pss_cons (ps_if (pt_cmpR op_lt (pv 1) pe_int (nomark _))
        (pss_one (ps_ret (pe_op op_add_str pe_str (pe_call (ok_l_word T) (hr.mono (by decide)) (by rfl) T.g_l_word T.F_l_word.kp T.b_l_word .nil pass0 (pa_cons (pe_op op_add pe_int (pe_call (ok_l_take T) (hr.mono (by decide)) (by rfl) T.g_l_take T.F_l_take.kp T.b_l_take .nil pass0 (pa_cons (pv 0) (pa_cons pe_int pa_nil)))) pa_nil)))))
        pss_nil)
      (pss_cons (ps_set (i := 2) sc_l_some_word.nd rfl (.inl rfl) (pe_op op_add (pe_op op_mul pe_int (pe_call (ok_l_take T) (hr.mono (by decide)) (by rfl) T.g_l_take T.F_l_take.kp T.b_l_take .nil pass0 (pa_cons (pv 0) (pa_cons pe_int pa_nil)))) (pe_op op_mul pe_int (pe_call (ok_l_take T) (hr.mono (by decide)) (by rfl) T.g_l_take T.F_l_take.kp T.b_l_take .nil pass0 (pa_cons (pv 0) (pa_cons pe_int pa_nil))))))
      (pss_cons (ps_if (pt_cmpR op_ge (pv 1) pe_int (nomark _))
        (pss_one (ps_set (i := 2) sc_l_some_word.nd rfl (.inl rfl) (pe_op op_mul (pv 2) (pe_op op_pow pe_int pe_int))))
        pss_nil)
      (pss_one (ps_ret (pe_call (ok_l_word T) (hr.mono (by decide)) (by rfl) T.g_l_word T.F_l_word.kp T.b_l_word .nil pass0 (pa_cons (pe_op op_add (pe_op op_add pe_int (pv 2)) (pe_call (ok_l_take T) (hr.mono (by decide)) (by rfl) T.g_l_take T.F_l_take.kp T.b_l_take .nil pass0 (pa_cons (pv 0) (pa_cons pe_int pa_nil)))) pa_nil)))))))))), ?_⟩
    refine ⟨.ref d, rfl, d, _, rfl, hd, by decide, fun H1 u r1 u0 u1 => ?_⟩
    refine ⟨_, rfl, _, _, rfl, rfl, _, rfl, ite2 (fun e => ?_) (fun e => ?_)⟩
    · exact ⟨_, rfl, _, _, rfl, rfl, (show (0 : Int) < 6 by decide), _, _, rfl, rfl, _, rfl, _, _, rfl, rfl, ⟨by decide, by decide⟩, _, _, rfl, rfl, (show (0 : Int) < 2 by decide), _, _, rfl, rfl, .inl ⟨by decide, by decide⟩, _, _, rfl, rfl, _, rfl, q _ _ r1 (wordS_isW (by omega))⟩
    refine ⟨_, rfl, _, _, rfl, rfl, _, rfl, ite2 (fun e => ?_) (fun e => ?_)⟩
    · exact ⟨.ref d, rfl, d, _, rfl, r1.at_, by decide, fun H2 v r2 v0 v1 => ⟨_, _, rfl, rfl, _, rfl, q _ _ (r1.trans r2) (wordS_isW (by omega))⟩⟩
    refine ⟨_, rfl, _, _, rfl, rfl, _, rfl, ite2 (fun e => ?_) (fun e => ?_)⟩
    · exact ⟨.ref d, rfl, d, _, rfl, r1.at_, by decide, fun H2 v r2 v0 v1 => ⟨_, _, rfl, rfl, _, rfl, _, _, rfl, rfl, small' (by have := ljkl_len; have := wordS_len (1 + v); omega), q _ _ (r1.trans r2) (isW_cat ljkl_ok ljkl_len (wordS_isW (by omega)) (by have := wordS_len (1 + v); omega))⟩⟩
    refine ⟨.ref d, rfl, d, _, rfl, r1.at_, by decide, fun H2 v r2 v0 v1 => ?_⟩
    refine ⟨_, _, rfl, rfl, .inl ⟨by decide, by decide⟩, .ref d, rfl, d, _, rfl, r2.at_, by decide, fun H3 x r3 x0 x1 => ?_⟩
    refine ⟨_, _, rfl, rfl, .inl ⟨by decide, by decide⟩, _, _, rfl, rfl, ?_⟩
    refine ⟨_, rfl, _, _, rfl, rfl, _, rfl, ite2 (fun e => ?_) (fun e => ?_)⟩
    · refine ⟨_, rfl, _, _, rfl, rfl, ⟨by decide, by decide, by decide⟩, _, _, rfl, rfl, .inl ⟨by omega, by omega⟩, ?_⟩
      refine ⟨_, rfl, _, _, rfl, rfl, .ref d, rfl, d, _, rfl, r3.at_, by decide, fun H4 y r4 y0 y1 => ⟨_, _, rfl, rfl, _, rfl, q _ _ (((r1.trans r2).trans r3).trans r4) (wordS_isW ?_)⟩⟩
      have z : 0 ≤ (1000000 * v + 1000 * x) * 10 ^ (15 : Int).toNat := Int.mul_nonneg (by omega) (by decide)
      omega
    · refine ⟨_, rfl, _, _, rfl, rfl, .ref d, rfl, d, _, rfl, r3.at_, by decide, fun H4 y r4 y0 y1 => ⟨_, _, rfl, rfl, _, rfl, q _ _ (((r1.trans r2).trans r3).trans r4) (wordS_isW (by omega))⟩⟩
end
def charsL : Str := " !\"#$&'()*+,-./0123456789:;<=>?@ABCDEFGHIJKLMNOPQRSTUVWXYZ[\\]^_`{|}~\n\t"
theorem chars_len : charsL.cps.toList.length = 70 := by decide +kernel
theorem chars_none : ∀ c ∈ charsL.cps.toList, ¬ (97 ≤ c ∧ c ≤ 122) := by decide +kernel
def sp_l_no_word (K : PySem.W.Frag) : Sp := fun vs H Q _ => ∃ d : Addr, vs = [.ref d] ∧ DrA H d ∧ ∀ H' s, Dr d H H' → ¬ nameOk s → s.length ≤ 1500 → Q (.str s) H'
section
variable {P : Program} {w : World} {K : PySem.W.Frag} {mg : Str → Option Value} {base : Heap}
set_option pp.maxSteps 400 in
theorem ok_l_no_word (T : Ctx K mg) : FnOk P w K mg base CX0 3 T.f_l_no_word T.fd_l_no_word ["draws"] (sp_l_no_word K) := by
  refine T.F_l_no_word.ok sc_l_no_word (fun vs H Q E h => ?_) (fun cdv A outer s H vs Q E hr h => ?_)
  · obtain ⟨d, rfl, _⟩ := h
    rfl
  · obtain ⟨d, rfl, hd, q⟩ := h
    refine ⟨_, (pss_cons (ps_set (i := 1) sc_l_no_word.nd rfl (.inl rfl) (pe_call (ok_l_some_word T) (hr.mono (by decide)) (by rfl) T.g_l_some_word T.F_l_some_word.kp T.b_l_some_word .nil pass0 (pa_cons (pv 0) pa_nil)))
      (pss_cons (ps_set (i := 2) sc_l_no_word.nd rfl (.inl rfl) (pe_call (ok_l_take T) (hr.mono (by decide)) (by rfl) T.g_l_take T.F_l_take.kp T.b_l_take .nil pass0 (pa_cons (pv 0) (pa_cons pe_int pa_nil))))
      (pss_cons (ps_if (pt_cmpR op_eq (pv 2) pe_int (nomark _))
        (pss_one (ps_ret pe_str))
        pss_nil)
      (pss_cons (ps_if (pt_cmpR op_eq (pv 2) pe_int (nomark _))
        (pss_one (ps_set (i := 1) sc_l_no_word.nd rfl (.inl rfl) pe_str))
        pss_nil)
      (pss_cons (ps_set (i := 3) sc_l_no_word.nd rfl (.inl rfl) pe_str)
      (pss_cons (ps_set (i := 4) sc_l_no_word.nd rfl (.inl rfl) (pe_call (ok_l_take T) (hr.mono (by decide)) (by rfl) T.g_l_take T.F_l_take.kp T.b_l_take .nil pass0 (pa_cons (pv 0) (pa_cons (pe_op op_add (pe_callB call_len_str (by rfl) T.m_len (by decide +kernel) (pa_cons (pv 1) pa_nil)) pe_int) pa_nil))))
      (pss_one (ps_ret (pe_op op_add_str (pe_op op_add_str (pe_slice sl_str (pv 1) po_none (po_some (pv 4))) (pe_ix ix_str (pv 3) (pe_call (ok_l_take T) (hr.mono (by decide)) (by rfl) T.g_l_take T.F_l_take.kp T.b_l_take .nil pass0 (pa_cons (pv 0) (pa_cons pe_int pa_nil))) (fun _ _ => rfl))) (pe_slice sl_str (pv 1) (po_some (pv 4)) po_none)))))))))), ?_⟩
    refine ⟨.ref d, rfl, d, rfl, hd, fun H1 wd r1 hw => ⟨.ref d, rfl, d, _, rfl, r1.at_, by decide, fun H2 sh r2 s0 s1' => ?_⟩⟩
    have r12 := r1.trans r2
    have no0 : ¬ nameOk "" := by decide +kernel
    refine ⟨.int sh, rfl, rfl, _, rfl, ite2 (fun _ => q _ _ r12 no0 (by decide +kernel)) (fun _ => ?_)⟩
    have wl := hw.2.2
    refine ⟨.int sh, rfl, rfl, _, rfl, ite2 (fun _ => ?c1) (fun _ => ?c2)⟩
    case' c1 =>
      obtain ⟨W, eW, lW⟩ : ∃ W : Str, W = "" ∧ W.length ≤ 200 := ⟨_, rfl, by decide +kernel⟩
      rw [← eW]
    case' c2 =>
      obtain ⟨W, eW, lW⟩ : ∃ W : Str, W = wd ∧ W.length ≤ 200 := ⟨_, rfl, wl⟩
      rw [← eW]
    all_goals (
      refine ⟨.ref d, rfl, .str W, rfl, W, rfl, small' (by omega), _, _, rfl, rfl, d, _, rfl, r12.at_, by omega, fun H3 k r3 k0 k1 => ?_⟩
      have xl : ∀ y : Int, 0 ≤ y → y < 70 → ∃ c, c ∈ charsL.cps.toList ∧ atI charsL.cps.toList y = some c := fun y h0 h1 => by
        have il : y.toNat < charsL.cps.toList.length := by rw [chars_len]; omega
        exact ⟨charsL.cps.toList[y.toNat], List.getElem_mem _, atI_z (j := y.toNat) (by omega) (List.getElem?_eq_getElem il)⟩
      refine ⟨.str W, rfl, .int k, rfl, k, rfl, W, rfl, small' (by omega), .str charsL, rfl, .ref d, rfl, d, _, rfl, (r12.trans r3).at_, by decide, fun H4 y r4 y0 y1 => ?_⟩
      obtain ⟨c, cm, ca⟩ := xl y y0 y1
      have l1 := cut_len W none (some k)
      have l2 := cut_len W (some k) none
      have l3 : (⟨#[c]⟩ : Str).length = 1 := rfl
      refine ⟨charsL, y, c, rfl, rfl, by decide +kernel, ca, _, _, rfl, rfl, small' (by omega), .str W, rfl, .int k, rfl, k, rfl, W, rfl, small' (by omega), _, _, rfl, rfl, small' (by rw [len_app]; omega), q _ _ ((r12.trans r3).trans r4) (fun z => ?_) (by rw [len_app, len_app]; omega)⟩
      refine chars_none c cm (z.2 c ?_)
      rw [cps_app, cps_app]
      exact List.mem_append_left _ (List.mem_append_right _ (List.mem_singleton.mpr rfl)))
end
def sp_l_plan (K : PySem.W.Frag) : Sp := fun vs H Q _ => ∃ (d : Addr) (c : Int), vs = [.ref d, .int c] ∧ DrA H d ∧
  ∀ H' p tm ts P, Dr d H H' → PlanAt H' p tm ts P → PlanOk c P → (∀ m ∈ P.ms, IsW m.name) → Q (.ref p) H'
section
variable {P : Program} {w : World} {K : PySem.W.Frag} {mg : Str → Option Value} {base : Heap}
theorem ok_l_plan (T : Ctx K mg) : FnOk P w K mg base CX0 3 T.f_l_plan T.fd_l_plan ["draws", "cell"] (sp_l_plan K) := by
  refine T.F_l_plan.ok sc_l_plan (fun vs H Q E h => ?_) (fun cdv A outer s H vs Q E hr h => ?_)
  · obtain ⟨d, c, rfl, _⟩ := h
    rfl
  · obtain ⟨d, c, rfl, hd, q⟩ := h
    refine ⟨_, (pss_cons (ps_set (i := 2) sc_l_plan.nd rfl (.inl rfl) (pe_op op_add pe_int (pe_call (ok_l_take T) (hr.mono (by decide)) (by rfl) T.g_l_take T.F_l_take.kp T.b_l_take .nil pass0 (pa_cons (pv 0) (pa_cons pe_int pa_nil)))))
      (pss_cons (ps_if (pt_cmpR op_eq (pe_call (ok_l_take T) (hr.mono (by decide)) (by rfl) T.g_l_take T.F_l_take.kp T.b_l_take .nil pass0 (pa_cons (pv 0) (pa_cons pe_int pa_nil))) pe_int (nomark _))
        (pss_one (ps_set (i := 2) sc_l_plan.nd rfl (.inl rfl) (pe_op op_add (pv 2) pe_int)))
        pss_nil)
      (pss_cons (ps_set (i := 3) sc_l_plan.nd rfl (.inl rfl) (pe_lst pa_nil))
      (pss_cons (ps_for PassesOwn.never rfl (pi_list (pe_callB (Tset.cr_sortedSetS rfl) (by rfl) T.m_sorted (by decide +kernel) (pa_cons (pe_callTy (Tset.cr_setOfS rfl) (by rfl) T.m_set (by decide +kernel) (pa_cons (pe_lc (own := [("k", 8)]) (g := gName 8) (by rfl) sc_l_plan.nd (pi_range1 (by rfl) T.m_range (pa_cons (pv 2) pa_nil)) (blkOk_by (own := [("k", 8)]) (N := ["draws", "cell", "many", "meters", "name", "low", "wide", "length", "k"]) (sc := defScope s_l_plan) (by decide +kernel)) (fun _ _ _ _ _ => pg_name (i := 8) sc_l_plan.nd rfl (Or.inl rfl)) (fun _ _ _ _ _ => pts_nil) (fun _ _ _ _ _ => (pe_call (ok_l_some_word T) (hr.mono (by decide)) (by rfl) T.g_l_some_word T.F_l_some_word.kp T.b_l_some_word .nil pass0 (pa_cons (pv 0) pa_nil)))) pa_nil)) pa_nil))) (pg_name (i := 4) sc_l_plan.nd rfl (.inl rfl))
        (pss_cons (ps_set (i := 5) sc_l_plan.nd rfl (.inl rfl) (pe_ix ix_list (pe_lst (pa_cons (pe_op op_sub (pe_call (ok_l_take T) (hr.mono (by decide)) (by rfl) T.g_l_take T.F_l_take.kp T.b_l_take .nil pass0 (pa_cons (pv 0) (pa_cons pe_int pa_nil))) pe_int) (pa_cons (pv 1) pa_nil))) (pe_op op_fdiv (pe_call (ok_l_take T) (hr.mono (by decide)) (by rfl) T.g_l_take T.F_l_take.kp T.b_l_take .nil pass0 (pa_cons (pv 0) (pa_cons pe_int pa_nil))) pe_int) (fun _ _ => rfl)))
      (pss_cons (ps_set (i := 6) sc_l_plan.nd rfl (.inl rfl) (pe_ix ix_list (pe_lst (pa_cons pe_int (pa_cons pe_int (pa_cons pe_int (pa_cons pe_int (pa_cons pe_int (pa_cons pe_int (pa_cons (pe_op op_pow pe_int pe_int) (pa_cons (pe_callB call_abs (by rfl) T.m_abs (by decide +kernel) (pa_cons (pv 1) pa_nil)) pa_nil))))))))) (pe_call (ok_l_take T) (hr.mono (by decide)) (by rfl) T.g_l_take T.F_l_take.kp T.b_l_take .nil pass0 (pa_cons (pv 0) (pa_cons pe_int pa_nil))) (fun _ _ => rfl)))
      (pss_one (ps_expr (pe_bm PySem.F.plainAttrs_list PySem.F.slot_list_append PySem.F.type_list_append mt_append (pv 3) (pa_cons (pe_tup (pa_cons (pv 4) (pa_cons (pv 5) (pa_cons (pe_op op_add (pv 5) (pv 6)) (pa_cons (pe_ix ix_list (pe_lst (pa_cons pe_int (pa_cons pe_int (pa_cons pe_int (pa_cons pe_int (pa_cons pe_int (pa_cons pe_int pa_nil))))))) (pe_call (ok_l_take T) (hr.mono (by decide)) (by rfl) T.g_l_take T.F_l_take.kp T.b_l_take .nil pass0 (pa_cons (pv 0) (pa_cons pe_int pa_nil))) (fun _ _ => rfl)) pa_nil))))) pa_nil)))))))
      (pss_cons (ps_set (i := 7) sc_l_plan.nd rfl (.inl rfl) (pe_ix ix_list (pe_lst (pa_cons pe_int (pa_cons pe_int (pa_cons pe_int (pa_cons pe_int (pa_cons pe_int (pa_cons (pe_op op_add pe_int (pe_callB call_abs (by rfl) T.m_abs (by decide +kernel) (pa_cons (pv 1) pa_nil))) pa_nil))))))) (pe_call (ok_l_take T) (hr.mono (by decide)) (by rfl) T.g_l_take T.F_l_take.kp T.b_l_take .nil pass0 (pa_cons (pv 0) (pa_cons pe_int pa_nil))) (fun _ _ => rfl)))
      (pss_one (ps_ret (pe_tup (pa_cons (pv 7) (pa_cons (pe_callTy call_tuple_of (by rfl) T.m_tuple (by decide +kernel) (pa_cons (pv 3) pa_nil)) pa_nil)))))))))), ?_⟩
    refine ⟨.ref d, rfl, d, _, rfl, hd, by decide, fun H1 u r1 u0 u1 => ⟨_, _, rfl, rfl, ?_⟩⟩
    refine ⟨.ref d, rfl, d, _, rfl, r1.at_, by decide, fun H2 v r2 v0 v1 => ⟨rfl, _, rfl, ite2 (fun e => ?c1) (fun e => ?c2)⟩⟩
    case' c1 =>
      refine ⟨_, rfl, _, _, rfl, rfl, ?_⟩
      dsimp only
      obtain ⟨mn, emn, m0, m1⟩ : ∃ mn : Int, mn = 1 + u + 3 ∧ 1 ≤ mn ∧ mn ≤ 6 := ⟨_, rfl, by omega, by omega⟩
      rw [← emn]
    case' c2 =>
      dsimp only
      obtain ⟨mn, emn, m0, m1⟩ : ∃ mn : Int, mn = 1 + u ∧ 1 ≤ mn ∧ mn ≤ 6 := ⟨_, rfl, by omega, by omega⟩
      rw [← emn]
    all_goals (
      refine ⟨Nat.zero_le _, fun M nM => ?_⟩
      have r12 := r1.trans r2
      have rM : Dr d H (upd H2 M (.lst [])) := r12.then (same_new nM)
      have nMd : M ≠ d := r12.ne nM
      refine ⟨.int mn, rfl, mn, rfl, by omega, by omega, fun C nC => ?_⟩
      have nCd : C ≠ d := rM.ne nC
      have nCM : C ≠ M := fun z => by rw [z, upd_same] at nC; cases nC
      refine lc_range (lo := 0) (n := mn.toNat) (fun i H3 => Dr d H H3 ∧ H3 M = some (.lst []) ∧ ∃ ws : List Str, H3 C = some (.lst (ws.map V.str)) ∧ ws.length = i ∧ ∀ w ∈ ws, IsW w) ⟨rM.then (same_new nC), by rw [upd_ne nCM.symm, upd_same], [], upd_same, rfl, fun _ z => nomatch z⟩ (fun i H3 hi hp => ?_) (fun H3 hp => ?_)
      · obtain ⟨r3, hM3, ws, hC3, hwl, hws⟩ := hp
        refine ⟨rfl, .ref d, rfl, d, rfl, r3.at_, fun H4 wd r4 hw => ⟨_, r4.keep _ _ nCd hC3, ?_, r3.trans r4 |>.keepNew nCd ?_, ?_, ws ++ [wd], ?_, ?_, ?_⟩⟩
        · rw [List.length_map]
          exact small (by omega)
        · exact rM.free hd nC
        · rw [upd_ne nCM.symm]
          exact r4.keep _ _ nMd hM3
        · rw [upd_same, List.map_append]
          rfl
        · rw [List.length_append, hwl]
          rfl
        · intro w hm
          rcases List.mem_append.mp hm with z | z
          · exact hws w z
          · rw [List.mem_singleton.mp z]
            exact hw
      · obtain ⟨r3, hM3, ws, hC3, hwl, hws⟩ := hp
        refine ⟨C, ws, rfl, .inl (.inl hC3), by omega, fun S ls nS hm hll => ⟨S, ls, rfl, upd_same, by omega, fun ys L pm nd so nL => ?_⟩⟩
        have nSd : S ≠ d := r3.ne nS
        have rS := r3.then (same_new (o := Tset.SetS P w S ls) nS)
        have nLd : L ≠ d := rS.ne nL
        have nMS : M ≠ S := ne_of_none hM3 nS
        have hMS : upd H3 S (Tset.SetS P w S ls) M = some (.lst []) := by rw [upd_ne nMS]; exact hM3
        have nML : M ≠ L := ne_of_none hMS nL
        have ysW : ∀ y ∈ ys, IsW y := fun y hy => hws y ((hm y).mp (pm.mem_iff.mp hy))
        have ysl : ys.length ≤ 6 := by rw [pm.length_eq]; omega
        have ysne : ys ≠ [] := fun z => by
          rw [z] at pm
          have e0 : ls = [] := List.length_eq_zero_iff.mp (by have := pm.length_eq; simpa using this.symm)
          have : 0 < ws.length := by omega
          cases ws with
          | nil => exact absurd this (by decide)
          | cons x r =>
            have := (hm x).mpr List.mem_cons_self
            rw [e0] at this
            cases this
        refine ⟨L, rfl, ⟨_, .inl (.inl upd_same)⟩, for_list (K := K) (a := L) (xs := ys.map V.str) (fun i σ H4 => ∃ (y4 y5 y6 y7 : Option V) (ts : List Addr) (ms : List Mt), σ = [some (.ref d), some (.int c), some (.int mn), some (.ref M), y4, y5, y6, y7, none] ∧
          Dr d H H4 ∧ H4 L = some (.lst (ys.map V.str)) ∧ H4 M = some (.lst (ts.map V.ref)) ∧ Paired (MtAt H4) ts ms ∧ ms.map Mt.name = ys.take i ∧ (∀ m ∈ ms, MtOk c m)) ?_ (fun i σ H4 _ hp => ?_) (fun i x σ H4 hx hp => ?_) (fun σ H4 hp => ?_)⟩
        · exact ⟨none, none, none, none, [], [], rfl, rS.then (same_new nL), upd_same, by rw [upd_ne nML]; exact hMS, .nil, rfl, fun _ z => nomatch z⟩
        · obtain ⟨_, _, _, _, _, _, _, _, hL, _⟩ := hp
          exact .inl (.inl hL)
        · obtain ⟨y4, y5, y6, y7, ts, ms, rfl, r4, hL4, hM4, hP4, hn4, ho4⟩ := hp
          obtain ⟨hlt, hx'⟩ := List.getElem?_eq_some_iff.mp hx
          rw [List.length_map] at hlt
          have ex : x = .str ys[i] := by rw [← hx', List.getElem_map]
          subst ex
          have hml : ms.length = i := by
            have := congrArg List.length hn4
            rw [List.length_map, List.length_take] at this
            omega
          have htl : ts.length = i := by rw [← hml]; exact hP4.length
          -- low
          refine ⟨.ref d, rfl, d, _, rfl, r4.at_, by decide, fun H5 x5 r5 x50 x51 => ⟨_, _, rfl, rfl, .int c, rfl, small' (n := 2) (by decide), fun p5 n5 => ?_⟩⟩
          have r45 := r4.trans r5
          have q5 := r45.then (same_new (o := .lst [.int (x5 - 3), .int c]) n5)
          have n5d : p5 ≠ d := r45.ne n5
          refine ⟨.ref d, rfl, d, _, rfl, q5.at_, by decide, fun H6 x6 r6 x60 x61 => ?_⟩
          have h6 : H6 p5 = some (.lst [.int (x5 - 3), .int c]) := r6.keep _ _ n5d upd_same
          obtain ⟨lv, lvm, lva⟩ := pick (xs := [x5 - 3, c]) (vs := [.int (x5 - 3), .int c]) (k := x6 / 8) rfl (by omega) (by show x6 / 8 < 2; omega)
          have lvB : lv.natAbs ≤ c.natAbs + 3 := by
            rcases List.mem_cons.mp lvm with z | z
            · omega
            · rw [List.mem_singleton.mp z]; omega
          refine ⟨_, _, rfl, rfl, ⟨by decide, by decide⟩, p5, _, _, _, rfl, rfl, .inl (.inl h6), lva, ?_⟩
          -- wide
          refine ⟨_, _, rfl, rfl, ⟨by decide, by decide, by decide⟩, .int c, rfl, c, rfl, small' (n := 8) (by decide), fun p7 n7 => ?_⟩
          rw [abs_eq]
          have q6 := q5.trans r6
          have q7 := q6.then (same_new (o := .lst [.int 0, .int 1, .int 1, .int 2, .int 5, .int 40, .int (10 ^ (20 : Int).toNat), .int (c.natAbs : Int)]) n7)
          have n7d : p7 ≠ d := q6.ne n7
          refine ⟨.ref d, rfl, d, _, rfl, q7.at_, by decide, fun H8 x8 r8 x80 x81 => ?_⟩
          have h8 : H8 p7 = some (.lst [.int 0, .int 1, .int 1, .int 2, .int 5, .int 40, .int (10 ^ (20 : Int).toNat), .int (c.natAbs : Int)]) := r8.keep _ _ n7d upd_same
          obtain ⟨wv, wvm, wva⟩ := pick (xs := [0, 1, 1, 2, 5, 40, 10 ^ (20 : Int).toNat, (c.natAbs : Int)]) (vs := [.int 0, .int 1, .int 1, .int 2, .int 5, .int 40, .int (10 ^ (20 : Int).toNat), .int (c.natAbs : Int)]) (k := x8) rfl (by omega) (by show x8 < 8; omega)
          have wvB : 0 ≤ wv ∧ wv ≤ c.natAbs + 10 ^ 20 := by
            have et : (10 : Int) ^ (20 : Int).toNat = 10 ^ 20 := rfl
            rw [et] at wvm
            simp only [List.mem_cons, List.not_mem_nil, or_false] at wvm
            omega
          refine ⟨p7, _, _, _, rfl, rfl, .inl (.inl h8), wva, ?_⟩
          -- the meter
          have q8 := q7.trans r8
          have hM8 : H8 M = some (.lst (ts.map V.ref)) := by
            have a5 : H5 M = some (.lst (ts.map V.ref)) := r5.keep _ _ nMd hM4
            have a6 := r6.keep _ _ nMd (show upd H5 p5 _ M = some (.lst (ts.map V.ref)) by rw [upd_ne (ne_of_none a5 n5)]; exact a5)
            exact r8.keep _ _ nMd (by rw [upd_ne (ne_of_none a6 n7)]; exact a6)
          have hL8 : H8 L = some (.lst (ys.map V.str)) := by
            have a5 : H5 L = some (.lst (ys.map V.str)) := r5.keep _ _ nLd hL4
            have a6 := r6.keep _ _ nLd (show upd H5 p5 _ L = some (.lst (ys.map V.str)) by rw [upd_ne (ne_of_none a5 n5)]; exact a5)
            exact r8.keep _ _ nLd (by rw [upd_ne (ne_of_none a6 n7)]; exact a6)
          have hP8 : Paired (MtAt H8) ts ms :=
            r8.mts q7.at_ (same_mts (same_new n7) (r6.mts q5.at_ (same_mts (same_new n5) (r5.mts r4.at_ hP4))))
          refine ⟨.ref M, rfl, .inl ⟨rfl, _, .inl (.inl hM8)⟩, .str ys[i], rfl, .int lv, rfl, .int lv, rfl, .int wv, rfl, _, _, rfl, rfl, small' (n := 6) (by decide), fun p9 n9 => ?_⟩
          have n9d : p9 ≠ d := q8.ne n9
          have q9 := q8.then (same_new (o := .lst [.int 0, .int 0, .int 1, .int 2, .int 7, .int 60]) n9)
          refine ⟨.ref d, rfl, d, _, rfl, q9.at_, by decide, fun HA xA rA xA0 xA1 => ?_⟩
          have hA : HA p9 = some (.lst [.int 0, .int 0, .int 1, .int 2, .int 7, .int 60]) := rA.keep _ _ n9d upd_same
          obtain ⟨ev, evm, eva⟩ := pick (xs := [0, 0, 1, 2, 7, 60]) (vs := [.int 0, .int 0, .int 1, .int 2, .int 7, .int 60]) (k := xA) rfl (by omega) (by show xA < 6; omega)
          have evB : 0 ≤ ev ∧ ev ≤ 60 := by
            simp only [List.mem_cons, List.not_mem_nil, or_false] at evm
            omega
          refine ⟨p9, _, _, _, rfl, rfl, .inl (.inl hA), eva, small' (n := 4) (by decide), fun t nt => ?_⟩
          have qA := q9.trans rA
          have hMA : HA M = some (.lst (ts.map V.ref)) := rA.keep _ _ nMd (by rw [upd_ne (ne_of_none hM8 n9)]; exact hM8)
          have hLA : HA L = some (.lst (ys.map V.str)) := rA.keep _ _ nLd (by rw [upd_ne (ne_of_none hL8 n9)]; exact hL8)
          have hPA : Paired (MtAt HA) ts ms := rA.mts q9.at_ (same_mts (same_new n9) hP8)
          have qT := qA.then (same_new (o := .tup [.str ys[i], .int lv, .int (lv + wv), .int ev]) nt)
          have nMt : M ≠ t := ne_of_none hMA nt
          have nLt : L ≠ t := ne_of_none hLA nt
          have nMfree : H M = none := r12.free hd nM
          refine ⟨M, _, _, rfl, rfl, by rw [upd_ne nMt]; exact hMA, by rw [List.length_map, htl]; exact small (by omega), ?_⟩
          have kp : Same HA (upd HA t (.tup [.str ys[i], .int lv, .int (lv + wv), .int ev])) := same_new nt
          refine ⟨_, _, _, _, ts ++ [t], ms ++ [⟨ys[i], lv, lv + wv, ev⟩], rfl, qT.keepNew nMd nMfree, ?_, ?_, ?_, ?_, ?_⟩
          · rw [upd_ne (show L ≠ M from nML.symm), upd_ne nLt]
            exact hLA
          · rw [upd_same, map_snoc]
          · have tupM : ∀ b xs, (upd HA t (.tup [.str ys[i], .int lv, .int (lv + wv), .int ev])) b = some (.tup xs) → upd (upd HA t (.tup [.str ys[i], .int lv, .int (lv + wv), .int ev])) M (.lst (ts.map V.ref ++ [V.ref t])) b = some (.tup xs) := fun b xs z => by
              have nb : b ≠ M := fun zz => by
                rw [zz, upd_ne nMt, hMA] at z
                cases z
              rw [upd_ne nb]
              exact z
            have lift : ∀ {us : List Addr} {ls : List Mt}, Paired (MtAt HA) us ls → Paired (MtAt (upd (upd HA t (.tup [.str ys[i], .int lv, .int (lv + wv), .int ev])) M (.lst (ts.map V.ref ++ [V.ref t])))) us ls := fun {us ls} z => L2.Paired.mapP z fun a b y => tupM _ _ (kp _ _ y)
            exact (lift hPA).snoc (tupM t _ upd_same)
          · rw [List.map_append, hn4, List.take_add_one, List.getElem?_eq_getElem hlt]
            rfl
          · intro m hm
            rcases List.mem_append.mp hm with z | z
            · exact ho4 m z
            · rw [List.mem_singleton.mp z]
              exact ⟨by show lv ≤ lv + wv; omega, evB.1, evB.2, lvB, by show (lv + wv).natAbs ≤ _; omega⟩
        · obtain ⟨y4, y5, y6, y7, ts, ms, rfl, r4, hL4, hM4, hP4, hn4, ho4⟩ := hp
          rw [List.length_map, List.take_length] at hn4
          refine ⟨.int c, rfl, c, rfl, _, _, rfl, rfl, small' (n := 6) (by decide), fun p5 n5 => ?_⟩
          rw [abs_eq]
          have n5d : p5 ≠ d := r4.ne n5
          have q5 := r4.then (same_new (o := .lst [.int 1, .int 2, .int 5, .int 10, .int 60, .int (1 + (c.natAbs : Int))]) n5)
          refine ⟨.ref d, rfl, d, _, rfl, q5.at_, by decide, fun H6 x6 r6 x60 x61 => ?_⟩
          have h6 : H6 p5 = some (.lst [.int 1, .int 2, .int 5, .int 10, .int 60, .int (1 + (c.natAbs : Int))]) := r6.keep _ _ n5d upd_same
          obtain ⟨lv, lvm, lva⟩ := pick (xs := [1, 2, 5, 10, 60, 1 + (c.natAbs : Int)]) (vs := [.int 1, .int 2, .int 5, .int 10, .int 60, .int (1 + (c.natAbs : Int))]) (k := x6) rfl (by omega) (by show x6 < 6; omega)
          have lvB : 1 ≤ lv ∧ lv ≤ c.natAbs + 60 := by
            simp only [List.mem_cons, List.not_mem_nil, or_false] at lvm
            omega
          refine ⟨p5, _, _, _, rfl, rfl, .inl (.inl h6), lva, ?_⟩
          have q6 := q5.trans r6
          have hM6 : H6 M = some (.lst (ts.map V.ref)) := r6.keep _ _ nMd (by rw [upd_ne (ne_of_none hM4 n5)]; exact hM4)
          have hP6 : Paired (MtAt H6) ts ms := r6.mts q5.at_ (same_mts (same_new n5) hP4)
          refine ⟨.int lv, rfl, .ref M, rfl, M, _, rfl, .inl ⟨.inl (.inl hM6), fun tm ntm => ⟨small' (n := 2) (by decide), fun p np => ?_⟩⟩⟩
          have s1 := same_new (o := .tup (ts.map V.ref)) ntm
          have s2 := same_new (o := .tup [.int lv, .ref tm]) np
          have nn : tm ≠ p := fun z => by
            rw [← z, upd_same] at np
            cases np
          refine q _ p tm ts ⟨lv, ms⟩ ((q6.then s1).then s2) ⟨upd_same, by rw [upd_ne nn, upd_same], same_mts s2 (same_mts s1 hP6)⟩ ⟨lvB.1, lvB.2, fun z => ysne ?_, ?_, ?_, ho4⟩ fun m hm => ysW _ ?_
          · have z' : ms = [] := z
            rw [z'] at hn4
            exact hn4.symm
          · have := congrArg List.length hn4
            rw [List.length_map] at this
            show ms.length ≤ 6
            omega
          · show Risen (ms.map Mt.name)
            rw [hn4]
            exact ⟨so, nd⟩
          · rw [← hn4]
            exact List.mem_map_of_mem hm)
end
/-- the class that is raised here -/
theorem excC {K : PySem.W.Frag} {mg : Str → Option Value} (T : Ctx K mg) : ExcC K T.c_InvalidPlan := ⟨T.xg, T.xk, T.xS, T.xd, T.xa, T.xn, T.xt, T.xm⟩
theorem bools_dp {K : PySem.W.Frag} {H : Hp} : ∀ bs : List Bool, DpAll K H (bs.map V.bl) (bs.map PyData.bool)
  | [] => .nil
  | b :: bs => .cons (.bl b) (bools_dp bs)
def eight : List Str := ["InvalidPlan", "InvalidLetter", "InvalidAlarm", "NoSlot", "BadText", "NotPossible", "NoNote", "Closed"]
def ten : List Str := eight ++ (["InvalidEntry", "NoLetter"] : List Str)
def tenB (n : Str) : List Bool := ten.map fun o => decide (o = n)
def sp_l_other_error (D : Addr) (cls : Value) (d : Option Addr) (a : Addr) : Sp := fun vs H Q _ => vs = [.ref a, .str "InvalidPlan"] ∧ cls = .ref D ∧ d = none ∧ ∀ H', Same H H' → Q (.bl false) H'
section
variable {P : Program} {w : World} {K : PySem.W.Frag} {mg : Str → Option Value} {base : Heap}
set_option pp.maxSteps 400 in
theorem ok_l_other_error (T : Ctx K mg) (cls : Value) (d : Option Addr) : HotP.FnQ P w K mg base CX0 1 T.f_l_other_error T.fd_l_other_error ["e", "name"] (HotP.Known cls d) (sp_l_other_error T.c_InvalidPlan cls d) := by
  refine HotP.fnQ_of T.F_l_other_error sc_l_other_error (fun a vs H Q E h => ?_) (fun cdv A outer s H vs Q E p g hot hr h => ?_)
  · obtain ⟨rfl, _⟩ := h
    rfl
  · obtain ⟨rfl, rfl, rfl, q⟩ := h
    refine ⟨_, (pss_cons (ps_set (i := 2) sc_l_other_error.nd rfl (.inl rfl) (pe_lst (pa_cons (pe_callB (HotP.isQ g.1 g.2 List.mem_cons_self) (by rfl) T.m_isinstance (by decide +kernel) (pa_cons (pv 0) (pa_cons (pe_glob (v := .ref T.c_InvalidPlan) (by rfl) T.gC_InvalidPlan rfl) pa_nil))) (pa_cons (pe_callB (HotP.isQ g.1 g.2 List.mem_cons_self) (by rfl) T.m_isinstance (by decide +kernel) (pa_cons (pv 0) (pa_cons (pe_glob (v := .ref T.c_InvalidLetter) (by rfl) T.gC_InvalidLetter rfl) pa_nil))) (pa_cons (pe_callB (HotP.isQ g.1 g.2 List.mem_cons_self) (by rfl) T.m_isinstance (by decide +kernel) (pa_cons (pv 0) (pa_cons (pe_glob (v := .ref T.c_InvalidAlarm) (by rfl) T.gC_InvalidAlarm rfl) pa_nil))) (pa_cons (pe_callB (HotP.isQ g.1 g.2 List.mem_cons_self) (by rfl) T.m_isinstance (by decide +kernel) (pa_cons (pv 0) (pa_cons (pe_glob (v := .ref T.c_NoSlot) (by rfl) T.gC_NoSlot rfl) pa_nil))) pa_nil))))))
      (pss_cons (ps_set (i := 2) sc_l_other_error.nd rfl (.inl rfl) (pe_op op_cat (pv 2) (pe_lst (pa_cons (pe_callB (HotP.isQ g.1 g.2 List.mem_cons_self) (by rfl) T.m_isinstance (by decide +kernel) (pa_cons (pv 0) (pa_cons (pe_glob (v := .ref T.c_BadText) (by rfl) T.gC_BadText rfl) pa_nil))) (pa_cons (pe_callB (HotP.isQ g.1 g.2 List.mem_cons_self) (by rfl) T.m_isinstance (by decide +kernel) (pa_cons (pv 0) (pa_cons (pe_glob (v := .ref T.c_NotPossible) (by rfl) T.gC_NotPossible rfl) pa_nil))) (pa_cons (pe_callB (HotP.isQ g.1 g.2 List.mem_cons_self) (by rfl) T.m_isinstance (by decide +kernel) (pa_cons (pv 0) (pa_cons (pe_glob (v := .ref T.c_NoNote) (by rfl) T.gC_NoNote rfl) pa_nil))) (pa_cons (pe_callB (HotP.isQ g.1 g.2 List.mem_cons_self) (by rfl) T.m_isinstance (by decide +kernel) (pa_cons (pv 0) (pa_cons (pe_glob (v := .ref T.c_Closed) (by rfl) T.gC_Closed rfl) pa_nil))) pa_nil)))))))
      (pss_cons (ps_set (i := 2) sc_l_other_error.nd rfl (.inl rfl) (pe_op op_cat (pv 2) (pe_lst (pa_cons (pe_callB (HotP.isQ g.1 g.2 List.mem_cons_self) (by rfl) T.m_isinstance (by decide +kernel) (pa_cons (pv 0) (pa_cons (pe_glob (v := .ref T.c_InvalidEntry) (by rfl) T.gC_InvalidEntry rfl) pa_nil))) (pa_cons (pe_callB (HotP.isQ g.1 g.2 List.mem_cons_self) (by rfl) T.m_isinstance (by decide +kernel) (pa_cons (pv 0) (pa_cons (pe_glob (v := .ref T.c_NoLetter) (by rfl) T.gC_NoLetter rfl) pa_nil))) pa_nil)))))
      (pss_cons (ps_set (i := 3) sc_l_other_error.nd rfl (.inl rfl) (pe_lst (pa_cons pe_str (pa_cons pe_str (pa_cons pe_str (pa_cons pe_str (pa_cons pe_str (pa_cons pe_str (pa_cons pe_str (pa_cons pe_str pa_nil))))))))))
      (pss_one (ps_ret (pe_cmpR (op_neD hr.units) (pv 2) (HotP.pe_lcH (own := [("other", 4)]) (g := gName 4) (HotP.hotC hot List.mem_cons_self) sc_l_other_error.nd (HotP.pi_listH (pe_op op_cat (pv 3) (pe_lst (pa_cons pe_str (pa_cons pe_str pa_nil))))) (blkOk_by (own := [("other", 4)]) (N := ["e", "name", "kinds", "names", "other"]) (sc := defScope s_l_other_error) (by decide +kernel)) (fun _ _ _ _ _ => pg_name (i := 4) sc_l_other_error.nd rfl (Or.inl rfl)) (fun _ _ _ _ _ => pts_nil) (fun _ _ _ _ _ => (pe_cmpR op_eq (pv 4) (pv 1) (nomark _)))) (nomark _)))))))), ?_⟩
    refine ⟨.ref p.1, rfl, _, _, _, _, rfl, rfl, excC T, rfl, (fun _ r => r), T.kit_InvalidPlan, .ref p.1, rfl, _, _, _, _, rfl, rfl, excC T, rfl, (fun _ r => r), T.kit_InvalidLetter, .ref p.1, rfl, _, _, _, _, rfl, rfl, excC T, rfl, (fun _ r => r), T.kit_InvalidAlarm, .ref p.1, rfl, _, _, _, _, rfl, rfl, excC T, rfl, (fun _ r => r), T.kit_NoSlot, small' (n := 4) (by decide), fun L1 n1 => ?_⟩
    have s1 := same_new (o := .lst [.bl true, .bl false, .bl false, .bl false]) n1
    have h1 : upd H L1 (.lst [.bl true, .bl false, .bl false, .bl false]) L1 = some (.lst [.bl true, .bl false, .bl false, .bl false]) := upd_same
    generalize upd H L1 (.lst [.bl true, .bl false, .bl false, .bl false]) = H1 at s1 h1 ⊢
    refine ⟨.ref L1, rfl, .ref p.1, rfl, _, _, _, _, rfl, rfl, excC T, rfl, (fun _ r => r), T.kit_BadText, .ref p.1, rfl, _, _, _, _, rfl, rfl, excC T, rfl, (fun _ r => r), T.kit_NotPossible, .ref p.1, rfl, _, _, _, _, rfl, rfl, excC T, rfl, (fun _ r => r), T.kit_NoNote, .ref p.1, rfl, _, _, _, _, rfl, rfl, excC T, rfl, (fun _ r => r), T.kit_Closed, small' (n := 4) (by decide), fun L2 n2 => ?_⟩
    have s2 := same_new (o := .lst [.bl false, .bl false, .bl false, .bl false]) n2
    have h2 : upd H1 L2 (.lst [.bl false, .bl false, .bl false, .bl false]) L2 = some (.lst [.bl false, .bl false, .bl false, .bl false]) := upd_same
    generalize upd H1 L2 (.lst [.bl false, .bl false, .bl false, .bl false]) = H2 at s2 h2 ⊢
    refine ⟨L1, L2, _, _, rfl, rfl, s2 _ _ h1, h2, small' (n := 8) (by decide), fun L3 n3 => ?_⟩
    have s3 := same_new (o := .lst ([.bl true, .bl false, .bl false, .bl false] ++ [.bl false, .bl false, .bl false, .bl false])) n3
    have h3 : upd H2 L3 (.lst ([.bl true, .bl false, .bl false, .bl false] ++ [.bl false, .bl false, .bl false, .bl false])) L3 = some (.lst ([.bl true, .bl false, .bl false, .bl false] ++ [.bl false, .bl false, .bl false, .bl false])) := upd_same
    generalize upd H2 L3 (.lst ([.bl true, .bl false, .bl false, .bl false] ++ [.bl false, .bl false, .bl false, .bl false])) = H3 at s3 h3 ⊢
    refine ⟨.ref L3, rfl, .ref p.1, rfl, _, _, _, _, rfl, rfl, excC T, rfl, (fun _ r => r), T.kit_InvalidEntry, .ref p.1, rfl, _, _, _, _, rfl, rfl, excC T, rfl, (fun _ r => r), T.kit_NoLetter, small' (n := 2) (by decide), fun L4 n4 => ?_⟩
    have s4 := same_new (o := .lst [.bl false, .bl false]) n4
    have h4 : upd H3 L4 (.lst [.bl false, .bl false]) L4 = some (.lst [.bl false, .bl false]) := upd_same
    generalize upd H3 L4 (.lst [.bl false, .bl false]) = H4 at s4 h4 ⊢
    refine ⟨L3, L4, _, _, rfl, rfl, s4 _ _ h3, h4, small' (n := 10) (by decide), fun L5 n5 => ?_⟩
    have s5 := same_new (o := .lst ([.bl true, .bl false, .bl false, .bl false] ++ [.bl false, .bl false, .bl false, .bl false] ++ [.bl false, .bl false])) n5
    have h5 : upd H4 L5 (.lst ([.bl true, .bl false, .bl false, .bl false] ++ [.bl false, .bl false, .bl false, .bl false] ++ [.bl false, .bl false])) L5 = some (.lst ([.bl true, .bl false, .bl false, .bl false] ++ [.bl false, .bl false, .bl false, .bl false] ++ [.bl false, .bl false])) := upd_same
    generalize upd H4 L5 (.lst ([.bl true, .bl false, .bl false, .bl false] ++ [.bl false, .bl false, .bl false, .bl false] ++ [.bl false, .bl false])) = H5 at s5 h5 ⊢
    have eK : (([.bl true, .bl false, .bl false, .bl false] ++ [.bl false, .bl false, .bl false, .bl false] ++ [.bl false, .bl false]) : List V) = (tenB "InvalidPlan").map V.bl := by decide +kernel
    rw [eK] at h5
    refine ⟨small' (n := 8) (by decide), fun N nN => ?_⟩
    have s6 := same_new (o := .lst [.str "InvalidPlan", .str "InvalidLetter", .str "InvalidAlarm", .str "NoSlot", .str "BadText", .str "NotPossible", .str "NoNote", .str "Closed"]) nN
    have hN : upd H5 N (.lst [.str "InvalidPlan", .str "InvalidLetter", .str "InvalidAlarm", .str "NoSlot", .str "BadText", .str "NotPossible", .str "NoNote", .str "Closed"]) N = some (.lst [.str "InvalidPlan", .str "InvalidLetter", .str "InvalidAlarm", .str "NoSlot", .str "BadText", .str "NotPossible", .str "NoNote", .str "Closed"]) := upd_same
    have s06 := (((((s1.trans s2).trans s3).trans s4).trans s5)).trans s6
    have hK := s6 _ _ h5
    generalize upd H5 N (.lst [.str "InvalidPlan", .str "InvalidLetter", .str "InvalidAlarm", .str "NoSlot", .str "BadText", .str "NotPossible", .str "NoNote", .str "Closed"]) = H6 at s06 hK hN s6 ⊢
    refine ⟨.ref L5, rfl, .ref N, rfl, small' (n := 2) (by decide), fun M nM => ?_⟩
    have s7 := same_new (o := .lst [.str "InvalidEntry", .str "NoLetter"]) nM
    refine ⟨N, M, _, _, rfl, rfl, s7 _ _ hN, upd_same, small' (n := 10) (by decide), fun S nS => ?_⟩
    have s8 := s7.trans (same_new (o := .lst (ten.map V.str)) nS)
    have hK8 := s8 _ _ hK
    have hS : upd (upd H6 M (.lst [.str "InvalidEntry", .str "NoLetter"])) S (.lst (ten.map V.str)) S = some (.lst (ten.map V.str)) := upd_same
    have s08 := s06.trans s8
    have e10 : ten.map V.str = ([.str "InvalidPlan", .str "InvalidLetter", .str "InvalidAlarm", .str "NoSlot", .str "BadText", .str "NotPossible", .str "NoNote", .str "Closed"] : List V) ++ [.str "InvalidEntry", .str "NoLetter"] := rfl
    rw [e10] at s8 hK8 hS s08
    refine ⟨S, rfl, ⟨_, .inl (.inl hS)⟩, fun C nC => ?_⟩
    generalize upd (upd H6 M (.lst [.str "InvalidEntry", .str "NoLetter"])) S _ = H8 at hK8 hS s08 nC ⊢
    rw [← e10] at hS
    have nCS : S ≠ C := ne_of_none hS nC
    have sC := same_new (o := .lst []) nC
    refine lc_list (K := K) (a := S) (xs := ten.map V.str) (fun i H' => Same H8 H' ∧ H' C = some (.lst (((tenB "InvalidPlan").take i).map V.bl))) ⟨sC, upd_same⟩ (fun i H' _ z => .inl (.inl (z.1 _ _ hS))) (fun i x H' hx z => ?_) (fun H' z => ?_)
    · obtain ⟨z1, z2⟩ := z
      have il : i < ten.length := by
        have := (List.getElem?_eq_some_iff.mp hx).1
        rw [List.length_map] at this
        exact this
      have i10 : i < 10 := il
      have ex : x = .str ten[i] := by
        rw [List.getElem?_map, List.getElem?_eq_getElem il] at hx
        exact (Option.some.inj hx).symm
      subst ex
      have tb : (tenB "InvalidPlan")[i]? = some (decide (ten[i] = "InvalidPlan")) := by
        unfold tenB
        rw [List.getElem?_map, List.getElem?_eq_getElem il]
        rfl
      have ev : (V.bl (decide (V.str ten[i] = V.str "InvalidPlan"))) = V.bl (decide (ten[i] = "InvalidPlan")) := by
        congr 1
        rw [decide_eq_decide]
        exact ⟨fun z => V.str.inj z, fun z => by rw [z]⟩
      refine ⟨rfl, .str ten[i], rfl, .str "InvalidPlan", rfl, rfl, _, z2, ?_, ?_, ?_⟩
      · rw [List.length_map, List.length_take]
        exact small (by omega)
      · exact fun b o e => by
          rw [upd_ne (ne_of_none e nC)]
          exact z1 _ _ e
      · rw [upd_same, ev, List.take_add_one, tb, List.map_append]
        rfl
    · obtain ⟨z1, z2⟩ := z
      rw [List.length_map] at z2
      have e1 : (tenB "InvalidPlan").take ten.length = tenB "InvalidPlan" := rfl
      rw [e1] at z2
      refine ⟨.list ((tenB "InvalidPlan").map .bool), .list ((tenB "InvalidPlan").map .bool), .lst (.inl (.inl (z1 _ _ hK8))) (bools_dp _), .lst (.inl (.inl z2)) (bools_dp _), by decide +kernel, by decide +kernel, ?_⟩
      have e2 : PyData.eqv (.list ((tenB "InvalidPlan").map .bool)) (.list ((tenB "InvalidPlan").map .bool)) = true := SeqAt.eqv_refl _ (by decide +kernel)
      rw [e2]
      exact q _ (s08.trans z1)
end
def sp_l_in_disorder (K : PySem.W.Frag) : Sp := fun vs H Q _ => ∃ (d M : Addr) (ts : List Addr) (ms : List Mt), vs = [.ref d, .ref M] ∧ DrA H d ∧ M ≠ d ∧ H M = some (.lst (ts.map V.ref)) ∧ Paired (MtAt H) ts ms ∧ ms ≠ [] ∧ ms.length ≤ 6 ∧ Risen (ms.map Mt.name) ∧
  ∀ H' L us ns, Dr d H H' → L ≠ d → H' L = some (.lst (us.map V.ref)) → Paired (MtAt H') us ns → ns.length ≤ 7 → ns ≠ [] → (∀ m ∈ ns, m ∈ ms) → ¬ Up (ns.map Mt.name) → Q (.ref L) H'
section
variable {P : Program} {w : World} {K : PySem.W.Frag} {mg : Str → Option Value} {base : Heap}
set_option pp.maxSteps 400 in
theorem ok_l_in_disorder (T : Ctx K mg) : FnOk P w K mg base CX0 2 T.f_l_in_disorder T.fd_l_in_disorder ["draws", "meters"] (sp_l_in_disorder K) := by
  refine T.F_l_in_disorder.ok sc_l_in_disorder (fun vs H Q E h => ?_) (fun cdv A outer s H vs Q E hr h => ?_)
  · obtain ⟨d, M, ts, ms, rfl, _⟩ := h
    rfl
  · obtain ⟨d, M, ts, ms, rfl, hd, nMd, hM, hp, ne, few, ris, q⟩ := h
    refine ⟨_, (pss_cons (ps_set (i := 2) sc_l_in_disorder.nd rfl (.inl rfl) (pe_call (ok_l_take T) (hr.mono (by decide)) (by rfl) T.g_l_take T.F_l_take.kp T.b_l_take .nil pass0 (pa_cons (pv 0) (pa_cons (pe_callB call_len_seq (by rfl) T.m_len (by decide +kernel) (pa_cons (pv 1) pa_nil)) pa_nil))))
      (pss_cons (ps_if (PW.pt (pw_and (pt_cmpR op_lt (pe_op op_add (pv 2) pe_int) (pe_callB call_len_seq (by rfl) T.m_len (by decide +kernel) (pa_cons (pv 1) pa_nil)) (nomark _)) (pw_and1 (pt_cmpR op_eq (pe_call (ok_l_take T) (hr.mono (by decide)) (by rfl) T.g_l_take T.F_l_take.kp T.b_l_take .nil pass0 (pa_cons (pv 0) (pa_cons pe_int pa_nil))) pe_int (nomark _)))))
        (pss_one (ps_ret (pe_op op_cat (pe_op op_cat (pe_slice sl_list (pv 1) po_none (po_some (pv 2))) (pe_lst (pa_cons (pe_ix ix_list (pv 1) (pe_op op_add (pv 2) pe_int) (fun _ _ => rfl)) (pa_cons (pe_ix ix_list (pv 1) (pv 2) (fun _ _ => rfl)) pa_nil)))) (pe_slice sl_list (pv 1) (po_some (pe_op op_add (pv 2) pe_int)) po_none))))
        pss_nil)
      (pss_one (ps_ret (pe_op op_cat (pe_op op_cat (pe_slice sl_list (pv 1) po_none (po_some (pv 2))) (pe_lst (pa_cons (pe_ix ix_list (pv 1) (pv 2) (fun _ _ => rfl)) pa_nil))) (pe_slice sl_list (pv 1) (po_some (pv 2)) po_none)))))), ?_⟩
    have tl : ts.length = ms.length := hp.length
    have m0 : 0 < ms.length := List.length_pos_iff.mpr ne
    refine ⟨.ref d, rfl, .ref M, rfl, M, _, rfl, .inl (.inl (.inl hM)), d, _, rfl, hd, by rw [List.length_map]; omega, fun H1 at' r1 a0 a1 => ?_⟩
    rw [List.length_map] at a1
    have hM1 := r1.keep _ _ nMd hM
    have il : at'.toNat < ts.length := by omega
    have hp1 := r1.mts hd hp
    have sq1 : SqL K H1 M (ts.map V.ref) := .inl (.inl hM1)
    have at0 : atI (ts.map V.ref) at' = some (.ref ts[at'.toNat]) := atI_z (j := at'.toNat) (by omega) (by rw [List.getElem?_map, List.getElem?_eq_getElem il]; rfl)
    have e1 := cut_toA ts a0
    refine ⟨.int at', rfl, _, _, rfl, rfl, .ref M, rfl, M, _, rfl, .inl sq1, _, _, rfl, rfl, _, rfl, ite2 (fun e => ?one) (fun e => iteF ?two)⟩
    case' two =>
      obtain ⟨H2, eH, r2, hM2⟩ : ∃ H2, H2 = H1 ∧ Dr d H H2 ∧ H2 M = some (.lst (ts.map V.ref)) := ⟨_, rfl, r1, hM1⟩
      rw [← eH]
    case' one =>
      have lt2 : at' + 1 < (ts.map V.ref).length := of_decide_eq_true e
      rw [List.length_map] at lt2
      refine ⟨.ref d, rfl, d, _, rfl, r1.at_, by decide, fun H2 y r2' y0 y1 => ⟨rfl, _, rfl, ite2 (fun e2 => ?sw) (fun e2 => ?two2)⟩⟩
    case' two2 =>
      obtain ⟨H3, eH, r2, hM2⟩ : ∃ H3, H3 = H2 ∧ Dr d H H3 ∧ H3 M = some (.lst (ts.map V.ref)) := ⟨_, rfl, r1.trans r2', r2'.keep _ _ nMd hM1⟩
      rw [← eH]
    case sw =>
      have r2 := r1.trans r2'
      have hM2 := r2'.keep _ _ nMd hM1
      have nMN : ∀ {x o}, H2 x = none → upd H2 x o M = some (.lst (ts.map V.ref)) := fun z => same_new z _ _ hM2
      have il1 : at'.toNat + 1 < ts.length := by omega
      have at1 : atI (ts.map V.ref) (at' + 1) = some (.ref ts[at'.toNat + 1]) := atI_z (j := at'.toNat + 1) (by omega) (by rw [List.getElem?_map, List.getElem?_eq_getElem il1]; rfl)
      have e3 := cut_fromA ts (n := at' + 2) (by omega)
      have e4 : (at' + 2).toNat = at'.toNat + 2 := by omega
      rw [e4] at e3
      refine ⟨.ref M, rfl, .int at', rfl, at', rfl, M, _, rfl, .inl (.inl hM2), fun C1 n1 => ?_⟩
      have k1 := same_new (o := .lst (cutV (ts.map V.ref) none (some at'))) n1
      refine ⟨.ref M, rfl, .int at', rfl, _, _, rfl, rfl, M, _, _, _, rfl, rfl, .inl (.inl (k1 _ _ hM2)), at1, .ref M, rfl, .int at', rfl, M, _, _, _, rfl, rfl, .inl (.inl (k1 _ _ hM2)), at0, small' (n := 2) (by decide), fun B nB => ?_⟩
      have k2 := same_new (o := .lst [.ref ts[at'.toNat + 1], .ref ts[at'.toNat]]) nB
      refine ⟨C1, B, _, _, rfl, rfl, k2 _ _ upd_same, upd_same, ?_, fun C nC => ?_⟩
      · rw [e1, List.length_map, List.length_take]
        exact small' (by show min _ _ + 2 ≤ 2000; omega)
      have k3 := same_new (o := .lst (cutV (ts.map V.ref) none (some at') ++ [.ref ts[at'.toNat + 1], .ref ts[at'.toNat]])) nC
      have k13 := (k1.trans k2).trans k3
      refine ⟨.ref M, rfl, .int at', rfl, _, _, rfl, rfl, _, rfl, M, _, rfl, .inl (.inl (k13 _ _ hM2)), fun D nD => ?_⟩
      have k4 := same_new (o := .lst (cutV (ts.map V.ref) (some (at' + 2)) none)) nD
      refine ⟨C, D, _, _, rfl, rfl, k4 _ _ upd_same, upd_same, ?_, fun F nF => ?_⟩
      · rw [e1, e3, List.length_append, List.length_map, List.length_map, List.length_take, List.length_drop]
        exact small' (by show min _ _ + 2 + _ ≤ 2000; omega)
      have k5 := same_new (o := .lst (cutV (ts.map V.ref) none (some at') ++ [.ref ts[at'.toNat + 1], .ref ts[at'.toNat]] ++ cutV (ts.map V.ref) (some (at' + 2)) none)) nF
      have r5 := (r2.then k13).then (k4.trans k5)
      have nFd := ((r2.then k13).then k4).ne nF
      have hp5 := r5.mts hd hp
      obtain ⟨p1, p2⟩ := mts_sub hp5 (mem_swap il1)
      have el : cutV (ts.map V.ref) none (some at') ++ [.ref ts[at'.toNat + 1], .ref ts[at'.toNat]] ++ cutV (ts.map V.ref) (some (at' + 2)) none = (ts.take at'.toNat ++ [ts[at'.toNat + 1], ts[at'.toNat]] ++ ts.drop (at'.toNat + 2)).map V.ref := by
        rw [e1, e3, List.map_append, List.map_append]
        rfl
      obtain ⟨s1, s2⟩ := swap_at ts at'.toNat il1
      obtain ⟨m1, hm1, hat1⟩ := mts_at hp5 (List.getElem?_eq_getElem il1)
      obtain ⟨m0', hm0, hat0⟩ := mts_at hp5 (List.getElem?_eq_getElem il)
      refine q _ F _ _ r5 nFd (by rw [upd_same, el]) p1 ?_ ?_ p2 (fun up => ?_)
      · rw [List.length_map, List.length_append, List.length_append, List.length_take, List.length_drop]
        show min _ _ + 2 + _ ≤ 7
        omega
      · exact fun z => by
          have := congrArg List.length z
          rw [List.length_map, List.length_append, List.length_append] at this
          exact absurd this (by show _ + 2 + _ ≠ 0; omega)
      · refine not_bel_back (sorted_step ris.1 at'.toNat m0'.name m1.name (by rw [List.getElem?_map, hm0]; rfl) (by rw [List.getElem?_map, hm1]; rfl)) (up at'.toNat _ _ (name_at s1 hat1) (name_at s2 hat0))
    all_goals (
      have e3 := cut_fromA ts a0
      refine ⟨.ref M, rfl, .int at', rfl, at', rfl, M, _, rfl, .inl (.inl hM2), fun C1 n1 => ?_⟩
      have k1 := same_new (o := .lst (cutV (ts.map V.ref) none (some at'))) n1
      refine ⟨.ref M, rfl, .int at', rfl, M, _, _, _, rfl, rfl, .inl (.inl (k1 _ _ hM2)), at0, small' (n := 1) (by decide), fun B nB => ?_⟩
      have k2 := same_new (o := .lst [.ref ts[at'.toNat]]) nB
      refine ⟨C1, B, _, _, rfl, rfl, k2 _ _ upd_same, upd_same, ?_, fun C nC => ?_⟩
      · rw [e1, List.length_map, List.length_take]
        exact small' (by show min _ _ + 1 ≤ 2000; omega)
      have k3 := same_new (o := .lst (cutV (ts.map V.ref) none (some at') ++ [.ref ts[at'.toNat]])) nC
      have k13 := (k1.trans k2).trans k3
      refine ⟨.ref M, rfl, .int at', rfl, at', rfl, M, _, rfl, .inl (.inl (k13 _ _ hM2)), fun D nD => ?_⟩
      have k4 := same_new (o := .lst (cutV (ts.map V.ref) (some at') none)) nD
      refine ⟨C, D, _, _, rfl, rfl, k4 _ _ upd_same, upd_same, ?_, fun F nF => ?_⟩
      · rw [e1, e3, List.length_append, List.length_map, List.length_map, List.length_take, List.length_drop]
        exact small' (by show min _ _ + 1 + _ ≤ 2000; omega)
      have k5 := same_new (o := .lst (cutV (ts.map V.ref) none (some at') ++ [.ref ts[at'.toNat]] ++ cutV (ts.map V.ref) (some at') none)) nF
      have r5 := (r2.then k13).then (k4.trans k5)
      have nFd := ((r2.then k13).then k4).ne nF
      have hp5 := r5.mts hd hp
      obtain ⟨p1, p2⟩ := mts_sub hp5 (mem_twice il)
      have el : cutV (ts.map V.ref) none (some at') ++ [.ref ts[at'.toNat]] ++ cutV (ts.map V.ref) (some at') none = (ts.take at'.toNat ++ [ts[at'.toNat]] ++ ts.drop at'.toNat).map V.ref := by
        rw [e1, e3, List.map_append, List.map_append]
        rfl
      obtain ⟨s1, s2⟩ := twice_at ts at'.toNat il
      obtain ⟨m0', hm0, hat0⟩ := mts_at hp5 (List.getElem?_eq_getElem il)
      refine q _ F _ _ r5 nFd (by rw [upd_same, el]) p1 ?_ ?_ p2 (fun up => ?_)
      · rw [List.length_map, List.length_append, List.length_append, List.length_take, List.length_drop]
        show min _ _ + 1 + _ ≤ 7
        omega
      · exact fun z => by
          have := congrArg List.length z
          rw [List.length_map, List.length_append, List.length_append] at this
          exact absurd this (by show _ + 1 + _ ≠ 0; omega)
      · exact not_bel_self _ (up at'.toNat _ _ (name_at s1 hat0) (name_at s2 hat0)))
end
def sp_l_spoilt (K : PySem.W.Frag) : Sp := fun vs H Q _ => ∃ (d p tm : Addr) (ts : List Addr) (P : Pl) (c : Int), vs = [.ref d, .ref p, .int c] ∧ DrA H d ∧ PlanAt H p tm ts P ∧ P.ms ≠ [] ∧ P.ms.length ≤ 6 ∧ (∀ m ∈ P.ms, IsW m.name) ∧ Risen (P.ms.map Mt.name) ∧
  ∀ H' p' tm' ts' P', Dr d H H' → PlanAt H' p' tm' ts' P' → P'.ms.length ≤ 1000 → (∀ m ∈ P'.ms, m.name.length ≤ 1500) → ¬ goodP P' → Q (.ref p') H'
section
variable {P : Program} {w : World} {K : PySem.W.Frag} {mg : Str → Option Value} {base : Heap}
set_option pp.maxSteps 400 in
set_option maxHeartbeats 2000000 in
theorem ok_l_spoilt (T : Ctx K mg) : FnOk P w K mg base CX0 4 T.f_l_spoilt T.fd_l_spoilt ["draws", "plan", "cell"] (sp_l_spoilt K) := by
  refine T.F_l_spoilt.ok sc_l_spoilt (fun vs H Q E h => ?_) (fun cdv A outer s H vs Q E hr h => ?_)
  · obtain ⟨d, p, tm, ts, P, c, rfl, _⟩ := h
    rfl
  · obtain ⟨d, p, tm, ts, P, c, rfl, hd, pa, ne, few, iw, ris, q⟩ := h
    refine ⟨_, (pss_cons (ps_set (i := 3) sc_l_spoilt.nd rfl (.inl rfl) (pe_call (ok_l_take T) (hr.mono (by decide)) (by rfl) T.g_l_take T.F_l_take.kp T.b_l_take .nil pass0 (pa_cons (pv 0) (pa_cons pe_int pa_nil))))
      (pss_cons (ps_set (i := 4) sc_l_spoilt.nd rfl (.inl rfl) (pe_callTy call_list_of (by rfl) T.m_list (by decide +kernel) (pa_cons (pe_ix ix_tup (pv 1) pe_int (fun _ _ => rfl)) pa_nil)))
      (pss_cons (ps_set (i := 5) sc_l_spoilt.nd rfl (.inl rfl) (pe_call (ok_l_take T) (hr.mono (by decide)) (by rfl) T.g_l_take T.F_l_take.kp T.b_l_take .nil pass0 (pa_cons (pv 0) (pa_cons (pe_callB call_len_seq (by rfl) T.m_len (by decide +kernel) (pa_cons (pv 4) pa_nil)) pa_nil))))
      (pss_cons (ps_set (i := 6) sc_l_spoilt.nd rfl (.inl rfl) (pe_ix ix_list (pv 4) (pv 5) (fun _ _ => rfl)))
      (pss_cons (ps_set (i := 7) sc_l_spoilt.nd rfl (.inl rfl) (pe_op op_add pe_int (pe_ix ix_list (pe_lst (pa_cons pe_int (pa_cons (pe_call (ok_l_take T) (hr.mono (by decide)) (by rfl) T.g_l_take T.F_l_take.kp T.b_l_take .nil pass0 (pa_cons (pv 0) (pa_cons pe_int pa_nil))) (pa_cons (pe_callB call_abs (by rfl) T.m_abs (by decide +kernel) (pa_cons (pv 2) pa_nil)) pa_nil)))) (pe_call (ok_l_take T) (hr.mono (by decide)) (by rfl) T.g_l_take T.F_l_take.kp T.b_l_take .nil pass0 (pa_cons (pv 0) (pa_cons pe_int pa_nil))) (fun _ _ => rfl))))
      (pss_cons (ps_if (pt_cmpR op_eq (pv 3) pe_int (nomark _))
        (pss_one (ps_ret (pe_tup (pa_cons (pe_op op_sub pe_int (pv 7)) (pa_cons (pe_ix ix_tup (pv 1) pe_int (fun _ _ => rfl)) pa_nil)))))
        pss_nil)
      (pss_cons (ps_if (pt_cmpR op_eq (pv 3) pe_int (nomark _))
        (pss_one (ps_ret (pe_tup (pa_cons (pe_ix ix_tup (pv 1) pe_int (fun _ _ => rfl)) (pa_cons (pe_tup pa_nil) pa_nil)))))
        pss_nil)
      (pss_cons (ps_if (pt_cmpR op_eq (pv 3) pe_int (nomark _))
        (pss_one (ps_asg (pe_op TT.op_cat_t (pe_tup (pa_cons (pe_call (ok_l_no_word T) (hr.mono (by decide)) (by rfl) T.g_l_no_word T.F_l_no_word.kp T.b_l_no_word .nil pass0 (pa_cons (pv 0) pa_nil)) pa_nil)) (pe_slice TT.sl_t (pv 6) (po_some pe_int) po_none)) (pg_sub (pv 4) (pv 5) set_list)))
        pss_nil)
      (pss_cons (ps_if (pt_cmpR op_eq (pv 3) pe_int (nomark _))
        (pss_one (ps_set (i := 4) sc_l_spoilt.nd rfl (.inl rfl) (pe_call (ok_l_in_disorder T) (hr.mono (by decide)) (by rfl) T.g_l_in_disorder T.F_l_in_disorder.kp T.b_l_in_disorder .nil pass0 (pa_cons (pv 0) (pa_cons (pv 4) pa_nil)))))
        pss_nil)
      (pss_cons (ps_if (pt_cmpR op_eq (pv 3) pe_int (nomark _))
        (pss_one (ps_asg (pe_tup (pa_cons (pe_ix ix_tup (pv 6) pe_int (fun _ _ => rfl)) (pa_cons (pe_ix ix_tup (pv 6) pe_int (fun _ _ => rfl)) (pa_cons (pe_op op_sub (pe_ix ix_tup (pv 6) pe_int (fun _ _ => rfl)) (pv 7)) (pa_cons (pe_ix ix_tup (pv 6) pe_int (fun _ _ => rfl)) pa_nil))))) (pg_sub (pv 4) (pv 5) set_list)))
        pss_nil)
      (pss_cons (ps_if (pt_cmpR op_eq (pv 3) pe_int (nomark _))
        (pss_one (ps_asg (pe_op TT.op_cat_t (pe_slice TT.sl_t (pv 6) po_none (po_some pe_int)) (pe_tup (pa_cons (pe_un un_neg (pv 7)) pa_nil))) (pg_sub (pv 4) (pv 5) set_list)))
        pss_nil)
      (pss_one (ps_ret (pe_tup (pa_cons (pe_ix ix_tup (pv 1) pe_int (fun _ _ => rfl)) (pa_cons (pe_callTy call_tuple_of (by rfl) T.m_tuple (by decide +kernel) (pa_cons (pv 4) pa_nil)) pa_nil)))))))))))))))), ?_⟩
    have tl : ts.length = P.ms.length := pa.low.length
    have p0 : 0 < P.ms.length := List.length_pos_iff.mpr ne
    have lens : ∀ m ∈ P.ms, m.name.length ≤ 1500 := fun m hm => by have := (iw m hm).2.2; omega
    refine ⟨.ref d, rfl, d, _, rfl, hd, by decide, fun H1 kd r1 k0 k1 => ?_⟩
    have pa1 := r1.plan hd pa
    refine ⟨.ref p, rfl, p, _, 1, _, rfl, rfl, .inl (.inl pa1.top), atI_nat (j := 1) rfl, tm, _, rfl, .inr (.inl (.inl pa1.mid)), fun M nM => ?_⟩
    have nMd := r1.ne nM
    have nHM : H M = none := r1.free hd nM
    have q2 := r1.then (same_new (o := .lst (ts.map V.ref)) nM)
    refine ⟨.ref d, rfl, .ref M, rfl, M, _, rfl, .inl (.inl (.inl upd_same)), d, _, rfl, q2.at_, by rw [List.length_map]; omega, fun H2 at' r2 a0 a1 => ?_⟩
    rw [List.length_map] at a1
    have il : at'.toNat < ts.length := by omega
    have hM2 : H2 M = some (.lst (ts.map V.ref)) := r2.keep _ _ nMd upd_same
    have r02 := q2.trans r2
    have at0 : atI (ts.map V.ref) at' = some (.ref ts[at'.toNat]) := atI_z (j := at'.toNat) (by omega) (by rw [List.getElem?_map, List.getElem?_eq_getElem il]; rfl)
    refine ⟨.ref M, rfl, .int at', rfl, M, _, _, _, rfl, rfl, .inl (.inl hM2), at0, ?_⟩
    refine ⟨.ref d, rfl, d, _, rfl, r02.at_, by decide, fun H3 u r3 u0 u1 => ⟨.int c, rfl, c, rfl, small' (n := 3) (by decide), fun E nE => ?_⟩⟩
    rw [abs_eq]
    have r03 := r02.trans r3
    have nEd := r03.ne nE
    have q4 := r03.then (same_new (o := .lst [.int 0, .int u, .int (c.natAbs : Int)]) nE)
    refine ⟨.ref d, rfl, d, _, rfl, q4.at_, by decide, fun H4 y r4 y0 y1 => ?_⟩
    have hE : H4 E = some (.lst [.int 0, .int u, .int (c.natAbs : Int)]) := r4.keep _ _ nEd upd_same
    obtain ⟨fv, fm, fa⟩ := pick (xs := [0, u, (c.natAbs : Int)]) (vs := [.int 0, .int u, .int (c.natAbs : Int)]) (k := y) rfl y0 (by show y < 3; omega)
    have f0 : 0 ≤ fv := by
      simp only [List.mem_cons, List.not_mem_nil, or_false] at fm
      omega
    refine ⟨E, _, y, _, rfl, rfl, .inl (.inl hE), fa, _, _, rfl, rfl, ?_⟩
    dsimp only
    obtain ⟨far, ef, f1⟩ : ∃ far : Int, far = 1 + fv ∧ 1 ≤ far := ⟨_, rfl, by omega⟩
    rw [← ef]
    have r04 := q4.trans r4
    have hM4 : H4 M = some (.lst (ts.map V.ref)) := r4.keep _ _ nMd (same_new nE _ _ (r3.keep _ _ nMd hM2))
    have pa4 := r04.plan hd pa
    have hp4 := pa4.low
    obtain ⟨m, hm, hat⟩ := mts_at hp4 (List.getElem?_eq_getElem il)
    have mem := List.mem_of_getElem? hm
    have hT : SqT K H4 ts[at'.toNat] [.str m.name, .int m.low, .int m.high, .int m.err] := .inl (.inl hat)
    have ix := ixN_at (n := (ts.map V.ref).length) a0 (by rw [List.length_map]; omega)
    generalize et : ts[at'.toNat] = t at hat hT
    -- the plan of changed rows
    have done : ∀ H5 us ns, Dr d H H5 → Paired (MtAt H5) us ns → ns.length ≤ 7 → (∀ m ∈ ns, m.name.length ≤ 1500) → ¬ goodP ⟨P.len, ns⟩ → ∀ tq, H5 tq = none → ∀ p2, upd H5 tq (.tup (us.map V.ref)) p2 = none → Q (.ref p2) (upd (upd H5 tq (.tup (us.map V.ref))) p2 (.tup [.int P.len, .ref tq])) := by
      intro H5 us ns r5 h5 l5 ln bad tq nq p2 n2
      have k1 := same_new (o := .tup (us.map V.ref)) nq
      have k2 := same_new (o := .tup [.int P.len, .ref tq]) n2
      exact q _ p2 tq us ⟨P.len, ns⟩ (r5.then (k1.trans k2)) ⟨upd_same, k2 _ _ upd_same, same_mts (k1.trans k2) h5⟩ (by show ns.length ≤ 1000; omega) ln bad
    -- one row in the place of another
    have put : ∀ H5 tN m', Dr d H H5 → H5 M = some (.lst (ts.map V.ref)) → MtAt H5 tN m' → m'.name.length ≤ 1500 → ¬ goodM m' →
        Dr d H (upd H5 M (.lst ((ts.map V.ref).set at'.toNat (.ref tN)))) ∧ upd H5 M (.lst ((ts.map V.ref).set at'.toNat (.ref tN))) M = some (.lst ((ts.set at'.toNat tN).map V.ref)) ∧ Paired (MtAt (upd H5 M (.lst ((ts.map V.ref).set at'.toNat (.ref tN))))) (ts.set at'.toNat tN) (P.ms.set at'.toNat m') ∧
        (∀ x ∈ P.ms.set at'.toNat m', x.name.length ≤ 1500) ∧ ¬ goodP ⟨P.len, P.ms.set at'.toNat m'⟩ := by
      intro H5 tN m' r5 hM5 hN ln bad
      refine ⟨r5.keepNew nMd nHM, by rw [upd_same, List.map_set], mts_lst hM5 (paired_set _ (r5.mts hd pa.low) hN), fun x hx => ?_, fun g => ?_⟩
      · rcases List.mem_or_eq_of_mem_set hx with z | z
        · exact lens x z
        · rw [z]
          exact ln
      · exact bad (g.2.2.1 m' (List.mem_of_getElem? (i := at'.toNat) (by show (P.ms.set _ _)[_]? = _; rw [List.getElem?_set, if_pos rfl, if_pos (by omega)])))
    have tst : ∀ {a b : Int}, a ≠ b → ¬ decide (V.int a = V.int b) = true := fun h z => h (V.int.inj (of_decide_eq_true z))
    have no : ∀ {a b : Int} {A B : Prop}, a ≠ b → B → (if decide (V.int a = V.int b) = true then A else B) := fun h x => by
      rw [if_neg (tst h)]
      exact x
    have yes : ∀ {a : Int} {A B : Prop}, A → (if decide (V.int a = V.int a) = true then A else B) := fun x => by
      rw [if_pos (decide_eq_true rfl)]
      exact x
    have kinds : kd = 0 ∨ kd = 1 ∨ kd = 2 ∨ kd = 3 ∨ kd = 4 ∨ kd = 5 := by omega
    have sp0 : SqT K H4 p [.int P.len, .ref tm] := .inl (.inl pa4.top)
    rcases kinds with rfl | rfl | rfl | rfl | rfl | rfl
    · refine ⟨.int 0, rfl, rfl, _, rfl, yes ⟨.int far, rfl, _, _, rfl, rfl, .ref p, rfl, p, _, 1, _, rfl, rfl, sp0, atI_nat (j := 1) rfl, small' (n := 2) (by decide), fun p2 n2 => ?_⟩⟩
      have k2 := same_new (o := .tup [.int (1 - far), .ref tm]) n2
      exact q _ p2 tm ts ⟨1 - far, P.ms⟩ (r04.then k2) ⟨upd_same, k2 _ _ pa4.mid, same_mts k2 hp4⟩ (by show P.ms.length ≤ 1000; omega) lens (fun g => by have h1 : 1 ≤ 1 - far := g.1; omega)
    · refine ⟨.int 1, rfl, rfl, _, rfl, no (by decide) ⟨.int 1, rfl, rfl, _, rfl, yes ⟨.ref p, rfl, p, _, 0, _, rfl, rfl, sp0, atI_nat (j := 0) rfl, small' (n := 0) (by decide), fun t0 n0 => ⟨small' (n := 2) (by decide), fun p2 n2 => ?_⟩⟩⟩⟩
      exact done _ [] [] r04 .nil (by decide) (fun _ z => nomatch z) (fun g => g.2.1 rfl) t0 n0 p2 n2
    · refine ⟨.int 2, rfl, rfl, _, rfl, no (by decide) ⟨.int 2, rfl, rfl, _, rfl, no (by decide) ⟨.int 2, rfl, rfl, _, rfl, yes ⟨.ref d, rfl, d, rfl, r04.at_, fun H5 s r5 bad ls => ⟨small' (n := 1) (by decide), fun t1 n1 => ?_⟩⟩⟩⟩⟩
      have k1 := same_new (o := .tup [.str s]) n1
      refine ⟨.ref t, rfl, 1, rfl, t, _, rfl, k1 _ _ (r5.tup r04.at_ hat), fun a1 H6 s6 h6 => ?_⟩
      have h6' : H6 a1 = some (.tup [.int m.low, .int m.high, .int m.err]) := h6
      refine ⟨t1, a1, _, _, rfl, rfl, s6 _ _ upd_same, h6', small' (n := 4) (by decide), fun tN H7 s7 h7 => ?_⟩
      have r07 := (r04.trans r5).then ((k1.trans s6).trans s7)
      have hM7 := ((k1.trans s6).trans s7) _ _ (r5.keep _ _ nMd hM4)
      obtain ⟨b1, b2, b3, b4, b5⟩ := put H7 tN ⟨s, m.low, m.high, m.err⟩ r07 hM7 h7 ls (fun g => bad g.1)
      refine ⟨.ref M, rfl, .int at', rfl, M, _, at', _, rfl, rfl, hM7, ix, ?_⟩
      refine ⟨.int 2, rfl, rfl, _, rfl, no (by decide) ⟨.int 2, rfl, rfl, _, rfl, no (by decide) ⟨.int 2, rfl, rfl, _, rfl, no (by decide) ?_⟩⟩⟩
      refine ⟨.ref p, rfl, p, _, 0, _, rfl, rfl, .inl (.inl (b1.plan hd pa).top), atI_nat (j := 0) rfl, .ref M, rfl, M, _, rfl, .inl ⟨.inl (.inl b2), fun tq ntq => ⟨small' (n := 2) (by decide), fun p2 np2 => ?_⟩⟩⟩
      exact done _ _ _ b1 b3 (by rw [List.length_set]; omega) b4 b5 tq ntq p2 np2
    · refine ⟨.int 3, rfl, rfl, _, rfl, no (by decide) ⟨.int 3, rfl, rfl, _, rfl, no (by decide) ⟨.int 3, rfl, rfl, _, rfl, no (by decide) ⟨.int 3, rfl, rfl, _, rfl, yes ⟨.ref d, rfl, .ref M, rfl, d, M, ts, P.ms, rfl, r04.at_, nMd, hM4, hp4, ne, few, ris, fun H5 L us ns r5 nLd hL hp5 len nne sub bad => ?_⟩⟩⟩⟩⟩
      have r05 := r04.trans r5
      refine ⟨.int 3, rfl, rfl, _, rfl, no (by decide) ⟨.int 3, rfl, rfl, _, rfl, no (by decide) ?_⟩⟩
      refine ⟨.ref p, rfl, p, _, 0, _, rfl, rfl, .inl (.inl (r05.plan hd pa).top), atI_nat (j := 0) rfl, .ref L, rfl, L, _, rfl, .inl ⟨.inl (.inl hL), fun tq ntq => ⟨small' (n := 2) (by decide), fun p2 np2 => ?_⟩⟩⟩
      exact done _ _ _ r05 hp5 len (fun x hx => lens x (sub x hx)) (fun g => bad g.2.2.2) tq ntq p2 np2
    · refine ⟨.int 4, rfl, rfl, _, rfl, no (by decide) ⟨.int 4, rfl, rfl, _, rfl, no (by decide) ⟨.int 4, rfl, rfl, _, rfl, no (by decide) ⟨.int 4, rfl, rfl, _, rfl, no (by decide) ⟨.int 4, rfl, rfl, _, rfl, yes ?_⟩⟩⟩⟩⟩
      refine ⟨.ref t, rfl, t, _, 0, _, rfl, rfl, hT, atI_nat (j := 0) rfl, .ref t, rfl, t, _, 1, _, rfl, rfl, hT, atI_nat (j := 1) rfl, .ref t, rfl, t, _, 1, _, rfl, rfl, hT, atI_nat (j := 1) rfl, .int far, rfl, _, _, rfl, rfl, .ref t, rfl, t, _, 3, _, rfl, rfl, hT, atI_nat (j := 3) rfl, small' (n := 4) (by decide), fun tN nN => ?_⟩
      have k1 := same_new (o := .tup [.str m.name, .int m.low, .int (m.low - far), .int m.err]) nN
      have r05 := r04.then k1
      have hM5 := k1 _ _ hM4
      obtain ⟨b1, b2, b3, b4, b5⟩ := put _ tN ⟨m.name, m.low, m.low - far, m.err⟩ r05 hM5 upd_same (lens m mem) (fun g => by have h1 : m.low ≤ m.low - far := g.2.1; omega)
      refine ⟨.ref M, rfl, .int at', rfl, M, _, at', _, rfl, rfl, hM5, ix, ?_⟩
      refine ⟨.int 4, rfl, rfl, _, rfl, no (by decide) ?_⟩
      refine ⟨.ref p, rfl, p, _, 0, _, rfl, rfl, .inl (.inl (b1.plan hd pa).top), atI_nat (j := 0) rfl, .ref M, rfl, M, _, rfl, .inl ⟨.inl (.inl b2), fun tq ntq => ⟨small' (n := 2) (by decide), fun p2 np2 => ?_⟩⟩⟩
      exact done _ _ _ b1 b3 (by rw [List.length_set]; omega) b4 b5 tq ntq p2 np2
    · refine ⟨.int 5, rfl, rfl, _, rfl, no (by decide) ⟨.int 5, rfl, rfl, _, rfl, no (by decide) ⟨.int 5, rfl, rfl, _, rfl, no (by decide) ⟨.int 5, rfl, rfl, _, rfl, no (by decide) ⟨.int 5, rfl, rfl, _, rfl, no (by decide) ⟨.int 5, rfl, rfl, _, rfl, yes ?_⟩⟩⟩⟩⟩⟩
      refine ⟨.ref t, rfl, 3, rfl, t, _, rfl, hat, fun a1 H5 s5 h5 => ?_⟩
      have h5' : H5 a1 = some (.tup [.str m.name, .int m.low, .int m.high]) := h5
      refine ⟨.int far, rfl, _, rfl, small' (n := 1) (by decide), fun t1 n1 => ?_⟩
      have k1 := same_new (o := .tup [.int (-far)]) n1
      refine ⟨a1, t1, _, _, rfl, rfl, k1 _ _ h5', upd_same, small' (n := 4) (by decide), fun tN H7 s7 h7 => ?_⟩
      have r07 := r04.then ((s5.trans k1).trans s7)
      have hM7 := ((s5.trans k1).trans s7) _ _ hM4
      obtain ⟨b1, b2, b3, b4, b5⟩ := put H7 tN ⟨m.name, m.low, m.high, -far⟩ r07 hM7 h7 (lens m mem) (fun g => by have h1 : 0 ≤ -far := g.2.2; omega)
      refine ⟨.ref M, rfl, .int at', rfl, M, _, at', _, rfl, rfl, hM7, ix, ?_⟩
      refine ⟨.ref p, rfl, p, _, 0, _, rfl, rfl, .inl (.inl (b1.plan hd pa).top), atI_nat (j := 0) rfl, .ref M, rfl, M, _, rfl, .inl ⟨.inl (.inl b2), fun tq ntq => ⟨small' (n := 2) (by decide), fun p2 np2 => ?_⟩⟩⟩
      exact done _ _ _ b1 b3 (by rw [List.length_set]; omega) b4 b5 tq ntq p2 np2
end
def sp_l_accepted (K : PySem.W.Frag) : Sp := fun vs H Q _ => ∃ (p tm : Addr) (ts : List Addr) (P : Pl), vs = [.ref p] ∧ PlanAt H p tm ts P ∧ P.ms.length ≤ 1000 ∧ (∀ m ∈ P.ms, m.name.length ≤ 1500) ∧ goodP P ∧ ∀ H', Same H H' → Q (.bl true) H'
section
variable {P : Program} {w : World} {K : PySem.W.Frag} {mg : Str → Option Value} {base : Heap}
theorem ok_l_accepted (T : Ctx K mg) : FnOk P w K mg base CX0 4 T.f_l_accepted T.fd_l_accepted ["plan"] (sp_l_accepted K) := by
  refine T.F_l_accepted.ok sc_l_accepted (fun vs H Q E h => ?_) (fun cdv A outer s H vs Q E hr h => ?_)
  · obtain ⟨p, tm, ts, P, rfl, _⟩ := h
    rfl
  · obtain ⟨p, tm, ts, P, rfl, pa, few, lens, g, q⟩ := h
    refine ⟨_, (pss_cons (L2N.ps_try_many (Wout := fun _ _ _ _ => False) rfl rfl HotP.takes0 (fun W pn xe tk _ => (pss_one (ps_set (i := 1) sc_l_accepted.nd rfl (.inl rfl) (pe_callS (ok_check_plan T) (hr.mono (by decide)) (by rfl) T.g_check_plan T.F_check_plan.kp T.b_check_plan (fun σ => L2N.passAt tk σ) (pa_cons (pv 0) pa_nil))))) (.cons ⟨by rfl, by decide, Or.inl T.gC_GatherError⟩ (fun a oe cls d pn hz hf => (pss_one (ps_ret pe_bl))) .nil))
      (pss_one (ps_ret (pe_cmpR op_isN (pv 1) pe_non (nomark _))))), ?_⟩
    refine ⟨.ref p, rfl, p, tm, ts, P, rfl, pa, few, lens, fun _ H' s => ?_, fun ng => absurd g ng⟩
    exact ⟨.non, rfl, rfl, q _ s⟩
end
def sp_l_refused (K : PySem.W.Frag) : Sp := fun vs H Q _ => ∃ (p tm : Addr) (ts : List Addr) (P : Pl), vs = [.ref p] ∧ PlanAt H p tm ts P ∧ P.ms.length ≤ 1000 ∧ (∀ m ∈ P.ms, m.name.length ≤ 1500) ∧ ¬ goodP P ∧ ∀ H', Same H H' → Q (.bl true) H'
section
variable {P : Program} {w : World} {K : PySem.W.Frag} {mg : Str → Option Value} {base : Heap}
theorem ok_l_refused (T : Ctx K mg) : FnOk P w K mg base CX0 4 T.f_l_refused T.fd_l_refused ["plan"] (sp_l_refused K) := by
  refine T.F_l_refused.ok sc_l_refused (fun vs H Q E h => ?_) (fun cdv A outer s H vs Q E hr h => ?_)
  · obtain ⟨p, tm, ts, P, rfl, _⟩ := h
    rfl
  · obtain ⟨p, tm, ts, P, rfl, pa, few, lens, bad, q⟩ := h
    refine ⟨_, (pss_cons (L2N.ps_try_as (i := 1) (Wout := fun _ _ _ _ => False) rfl rfl sc_l_refused.nd rfl rfl ⟨by rfl, by decide, Or.inl T.gC_InvalidPlan⟩ HotP.takes0 (fun W pn xe tk _ => (pss_one (ps_expr (pe_callS (ok_check_plan T) (hr.mono (by decide)) (by rfl) T.g_check_plan T.F_check_plan.kp T.b_check_plan (fun σ => L2N.passAt tk σ) (pa_cons (pv 0) pa_nil))))) (fun a oe cls d pn hz hf => (pss_one (ps_ret (pe_and (pe_callB (show CallR _ _ (HotP.rIsQ K a cls d) from HotP.isA (oe := oe) hz hf List.mem_cons_self) (by rfl) T.m_isinstance (by decide +kernel) (pa_cons (pv 1) (pa_cons (pe_glob (v := .ref T.c_GatherError) (by rfl) T.gC_GatherError rfl) pa_nil))) (pe_and (pe_callB (show CallR _ _ (HotP.rIsQ K a cls d) from HotP.isA (oe := oe) hz hf List.mem_cons_self) (by rfl) T.m_isinstance (by decide +kernel) (pa_cons (pv 1) (pa_cons (pe_bltn (v := .ty "ValueError") (by rfl) T.m_ValueError (by decide +kernel) rfl) pa_nil))) (pe_one (pe_not (HotP.pe_callA (oe := oe) (ok_l_other_error T cls d) hz hf (HotP.hot_mark hz hf) List.mem_cons_self (HotP.room_mark (hr.mono (by decide))) (by rfl) T.g_l_other_error T.F_l_other_error.kp T.b_l_other_error (fun _ => HotP.passQ0 (E := fun _ _ _ => False)) (pa_cons (pv 1) (pa_cons pe_str pa_nil)))))))))))
      (pss_one (ps_ret pe_bl))), ?_⟩
    refine ⟨.ref p, rfl, p, tm, ts, P, rfl, pa, few, lens, fun g => absurd g bad, fun _ H' s => ?_⟩
    refine ⟨true, PySem.W.exm_ref T.xS T.xd T.xT T.xR, fun _ a na => ?_, fun z => nomatch z⟩
    refine ⟨.ref a, rfl, _, _, _, _, rfl, rfl, excC T, rfl, (fun _ r => r), T.kit_GatherError, _, rfl, iteT ⟨.ref a, rfl, _, _, _, _, rfl, rfl, excC T, rfl, (fun _ r => r), T.kitV, _, rfl, iteT ⟨.ref a, rfl, rfl, rfl, rfl, fun H2 s2 => ⟨_, rfl, q _ (s.trans s2)⟩⟩⟩⟩
end
/-- the number that a word was made of -/
def unword (l : List Nat) : Int := l.foldl (fun (n : Int) (c : Nat) => n * 26 + ((c : Int) - 96)) 0
theorem unword_all : ∀ k : Nat, k < 1000 → unword (wcps 60 (k : Int) []) = (k : Int) := by decide +kernel
theorem wordS_inj {a b : Int} (ha : 0 ≤ a) (ha' : a < 1000) (hb : 0 ≤ b) (hb' : b < 1000) (h : wordS a = wordS b) : a = b := by
  have e : wcps 60 a [] = wcps 60 b [] := by
    have := congrArg (fun s : Str => s.cps.toList) h
    simpa [wordS] using this
  have h1 := unword_all a.toNat (by omega)
  have h2 := unword_all b.toNat (by omega)
  rw [Int.toNat_of_nonneg ha] at h1
  rw [Int.toNat_of_nonneg hb] at h2
  rw [← h1, ← h2, e]
def words20 (f : Int) (k : Nat) : List Str := (List.range k).map fun (i : Nat) => wordS (f + 13 * (i : Int))
theorem words20_nodup {f : Int} (h0 : 1 ≤ f) (h1 : f ≤ 700) : (words20 f 20).Nodup := by
  unfold words20
  rw [List.nodup_iff_pairwise_ne, List.pairwise_map]
  refine List.Pairwise.imp_of_mem (R := fun a b => a ≠ b) (fun {a b} ha hb ne e => ?_) List.nodup_range
  rw [List.mem_range] at ha hb
  have := wordS_inj (a := f + 13 * (a : Int)) (b := f + 13 * (b : Int)) (by omega) (by omega) (by omega) (by omega) e
  exact ne (by omega)
theorem words20_succ (f : Int) (k : Nat) : words20 f (k + 1) = words20 f k ++ [wordS (f + 13 * (k : Int))] := by
  unfold words20
  rw [List.range_succ, List.map_append]
  rfl
theorem words20_len (f : Int) (k : Nat) : (words20 f k).length = k := by
  unfold words20
  rw [List.length_map, List.length_range]
theorem words20_isW {f : Int} {k : Nat} (h : 1 ≤ f) : ∀ x ∈ words20 f k, IsW x := fun x hx => by
  unfold words20 at hx
  obtain ⟨i, _, rfl⟩ := List.mem_map.mp hx
  exact wordS_isW (by omega)
def mkM (c : Int) (n : Str) : Mt := ⟨n, c, c, 60⟩
theorem mkM_names (c : Int) (ys : List Str) : (ys.map (mkM c)).map Mt.name = ys := by
  rw [List.map_map]
  exact List.map_id _
/-- the last two change places -/
theorem last_two {α : Type} {l : List α} (h : l.length = 20) : (l.take 18 ++ l.drop 19 ++ (l.drop 18).take 1)[18]? = l[19]? ∧ (l.take 18 ++ l.drop 19 ++ (l.drop 18).take 1)[19]? = l[18]? := by
  have e1 : (l.take 18).length = 18 := by rw [List.length_take]; omega
  have e2 : (l.drop 19).length = 1 := by rw [List.length_drop]; omega
  constructor
  · rw [List.getElem?_append_left (by rw [List.length_append]; omega), List.getElem?_append_right (by omega), e1, Nat.sub_self, List.getElem?_drop]
  · rw [List.getElem?_append_right (by rw [List.length_append]; omega), List.length_append, e1, e2, List.getElem?_take, List.getElem?_drop]
    rfl
theorem mem_last_two {α : Type} {l : List α} : ∀ x ∈ l.take 18 ++ l.drop 19 ++ (l.drop 18).take 1, x ∈ l := fun x hx => by
  rcases List.mem_append.mp hx with z | z
  · rcases List.mem_append.mp z with z | z
    · exact List.mem_of_mem_take z
    · exact List.mem_of_mem_drop z
  · exact List.mem_of_mem_drop (List.mem_of_mem_take z)
def sp_law (K : PySem.W.Frag) : Sp := fun vs H Q _ => ∃ (a : Addr) (ns : List Int), vs = [.ref a] ∧ SqL K H a (ns.map V.int) ∧ ns.length ≤ 63 ∧ ∀ H', Q (.bl true) H'
section
variable {P : Program} {w : World} {K : PySem.W.Frag} {mg : Str → Option Value} {base : Heap}
set_option pp.maxSteps 400 in
set_option maxHeartbeats 2000000 in
theorem ok_law (T : Ctx K mg) : FnOk P w K mg base CX0 5 T.f_law T.fd_law ["script"] (sp_law K) := by
  refine T.F_law.ok sc_law (fun vs H Q E h => ?_) (fun cdv A outer s H vs Q E hr h => ?_)
  · obtain ⟨a, ns, rfl, _⟩ := h
    rfl
  · obtain ⟨a, ns, rfl, hS, hlen, q⟩ := h
    refine ⟨_, (pss_cons (ps_set (i := 1) sc_law.nd rfl (.inl rfl) (pe_call (ok_l_draws T) (hr.mono (by decide)) (by rfl) T.g_l_draws T.F_l_draws.kp T.b_l_draws .nil pass0 (pa_cons (pv 0) (pa_cons pe_int pa_nil))))
      (pss_cons (ps_set (i := 2) sc_law.nd rfl (.inr rfl) (pe_call (ok_l_cell T) (hr.mono (by decide)) (by rfl) T.g_l_cell T.F_l_cell.kp T.b_l_cell .nil pass0 (pa_cons (pv 0) (pa_cons (pv 1) pa_nil))))
      (pss_cons (ps_set (i := 3) sc_law.nd rfl (.inl rfl) (pe_call (ok_l_plan T) (hr.mono (by decide)) (by rfl) T.g_l_plan T.F_l_plan.kp T.b_l_plan .nil pass0 (pa_cons (pv 1) (pa_cons (pv 2) pa_nil))))
      (pss_cons (ps_if (PW.pt (pw_or (pt_not (pt_val (pe_call (ok_l_accepted T) (hr.mono (by decide)) (by rfl) T.g_l_accepted T.F_l_accepted.kp T.b_l_accepted .nil pass0 (pa_cons (pv 3) pa_nil)))) (pw_or1 (pt_not (pt_val (pe_call (ok_l_refused T) (hr.mono (by decide)) (by rfl) T.g_l_refused T.F_l_refused.kp T.b_l_refused .nil pass0 (pa_cons (pe_call (ok_l_spoilt T) (hr.mono (by decide)) (by rfl) T.g_l_spoilt T.F_l_spoilt.kp T.b_l_spoilt .nil pass0 (pa_cons (pv 1) (pa_cons (pv 3) (pa_cons (pv 2) pa_nil)))) pa_nil)))))))
        (pss_one (ps_ret pe_bl))
        pss_nil)
      (pss_cons (ps_set (i := 4) sc_law.nd rfl (.inr rfl) (pe_op op_add pe_int (pe_call (ok_l_take T) (hr.mono (by decide)) (by rfl) T.g_l_take T.F_l_take.kp T.b_l_take .nil pass0 (pa_cons (pv 1) (pa_cons pe_int pa_nil)))))
      (pss_cons (ps_set (i := 5) sc_law.nd rfl (.inl rfl) (pe_callB cr_sortedS (by rfl) T.m_sorted (by decide +kernel) (pa_cons (pe_lc (own := [("k", 7)]) (g := gName 7) (by rfl) sc_law.nd (pi_range1 (by rfl) T.m_range (pa_cons pe_int pa_nil)) (blkOk_by (own := [("k", 7)]) (N := ["script", "draws", "cell", "plan", "first", "names", "many", "k", "name"]) (sc := defScope s_law) (by decide +kernel)) (fun _ _ _ _ _ => pg_name (i := 7) sc_law.nd rfl (Or.inl rfl)) (fun _ _ _ _ _ => pts_nil) (fun _ _ _ _ _ => (pe_call (ok_l_word T) (hr.mono (by decide)) (by rfl) T.g_l_word T.F_l_word.kp T.b_l_word .nil pass0 (pa_cons (pe_op op_add (pv 4) (pe_op op_mul pe_int (pv 7))) pa_nil)))) pa_nil)))
      (pss_cons (ps_set (i := 6) sc_law.nd rfl (.inl rfl) (pe_callTy call_tuple_of (by rfl) T.m_tuple (by decide +kernel) (pa_cons (pe_lc (own := [("name", 8)]) (g := gName 8) (by rfl) sc_law.nd (pi_list (pv 5)) (blkOk_by (own := [("name", 8)]) (N := ["script", "draws", "cell", "plan", "first", "names", "many", "k", "name"]) (sc := defScope s_law) (by decide +kernel)) (fun _ _ _ _ _ => pg_name (i := 8) sc_law.nd rfl (Or.inl rfl)) (fun _ _ _ _ _ => pts_nil) (fun _ _ _ _ _ => (pe_tup (pa_cons (pv 8) (pa_cons (pv 2) (pa_cons (pv 2) (pa_cons pe_int pa_nil))))))) pa_nil)))
      (pss_cons (ps_if (PW.pt (pw_or (pt_not (pt_val (pe_call (ok_l_accepted T) (hr.mono (by decide)) (by rfl) T.g_l_accepted T.F_l_accepted.kp T.b_l_accepted .nil pass0 (pa_cons (pe_tup (pa_cons (pe_ix ix_tup (pv 3) pe_int (fun _ _ => rfl)) (pa_cons (pv 6) pa_nil))) pa_nil)))) (pw_or1 (pt_not (pt_val (pe_call (ok_l_refused T) (hr.mono (by decide)) (by rfl) T.g_l_refused T.F_l_refused.kp T.b_l_refused .nil pass0 (pa_cons (pe_tup (pa_cons (pe_ix ix_tup (pv 3) pe_int (fun _ _ => rfl)) (pa_cons (pe_op TT.op_cat_t (pe_op TT.op_cat_t (pe_slice TT.sl_t (pv 6) po_none (po_some pe_int)) (pe_slice TT.sl_t (pv 6) (po_some pe_int) po_none)) (pe_slice TT.sl_t (pv 6) (po_some pe_int) (po_some pe_int))) pa_nil))) pa_nil)))))))
        (pss_one (ps_ret pe_bl))
        pss_nil)
      (pss_one (ps_ret (pe_and (pe_call (ok_l_accepted T) (hr.mono (by decide)) (by rfl) T.g_l_accepted T.F_l_accepted.kp T.b_l_accepted .nil pass0 (pa_cons (pe_tup (pa_cons pe_int (pa_cons (pe_slice TT.sl_t (pe_ix ix_tup (pv 3) pe_int (fun _ _ => rfl)) po_none (po_some pe_int)) pa_nil))) pa_nil)) (pe_one (pe_call (ok_l_accepted T) (hr.mono (by decide)) (by rfl) T.g_l_accepted T.F_l_accepted.kp T.b_l_accepted .nil pass0 (pa_cons (pv 3) pa_nil)))))))))))))), ?_⟩
    refine ⟨.ref a, rfl, a, ns, 76, rfl, hS, by omega, by decide, fun H1 d s1 nd hd => ?_⟩
    refine ⟨.ref a, rfl, .ref d, rfl, a, d, ns, rfl, fun H' r => r.script hS nd s1, hd, fun H2 cell r2 hc => ?_⟩
    refine ⟨.ref d, rfl, .int cell, rfl, d, cell, rfl, r2.at_, fun H3 pp tm ts P r3 pa po iw => ?_⟩
    have tl : ts.length = P.ms.length := pa.low.length
    have few := po.few
    have lens : ∀ m ∈ P.ms, m.name.length ≤ 1500 := fun m hm => by have := (iw m hm).2.2; omega
    have gp := plan_good po iw
    refine ⟨.ref pp, rfl, pp, tm, ts, P, rfl, pa, by omega, lens, gp, fun H4 s4 => ⟨_, rfl, iteF ?_⟩⟩
    have r4 := (Dr.refl r3.at_).then s4
    refine ⟨.ref d, rfl, .ref pp, rfl, .int cell, rfl, d, pp, tm, ts, P, cell, rfl, r4.at_, pa.same s4, po.some_, few, iw, po.risen, fun H5 p' tm' ts' P' r5 pa' few' lens' bad => ?_⟩
    refine ⟨p', tm', ts', P', rfl, pa', few', lens', bad, fun H6 s6 => ⟨_, rfl, iteF ?_⟩⟩
    have r6 := (r4.trans r5).then s6
    have pa6 := r6.plan r3.at_ pa
    refine ⟨.ref d, rfl, d, _, rfl, r6.at_, by decide, fun H7 fx r7 x0 x1 => ⟨_, _, rfl, rfl, ?_⟩⟩
    dsimp only
    obtain ⟨fst, ef, f0, f1⟩ : ∃ fst : Int, fst = 1 + fx ∧ 1 ≤ fst ∧ fst ≤ 700 := ⟨_, rfl, by omega, by omega⟩
    rw [← ef]
    have r07 := r6.trans r7
    refine ⟨20, rfl, by decide, by decide, fun C nC => ?_⟩
    refine lc_range (lo := 0) (n := 20) (fun i H' => Same H7 H' ∧ H' C = some (.lst ((words20 fst i).map V.str))) ⟨same_new nC, upd_same⟩ (fun i H' hi z => ?_) (fun H' z => ?_)
    · obtain ⟨z1, z2⟩ := z
      refine ⟨rfl, _, rfl, _, rfl, _, _, rfl, rfl, .inl ⟨by decide, by decide⟩, _, _, rfl, rfl, _, rfl, _, z2, ?_, fun b o e => ?_, ?_⟩
      · rw [List.length_map, words20_len]
        exact small (by omega)
      · rw [upd_ne (ne_of_none e nC)]
        exact z1 _ _ e
      · rw [upd_same, words20_succ, List.map_append, Int.zero_add]
        rfl
    obtain ⟨z1, z2⟩ := z
    refine ⟨C, words20 fst 20, rfl, .inl (.inl z2), by rw [words20_len]; decide, fun ys S pm so nS => ?_⟩
    have yl : ys.length = 20 := by rw [pm.length_eq, words20_len]
    have yW : ∀ x ∈ ys, IsW x := fun x hx => words20_isW f0 x (pm.mem_iff.mp hx)
    have yR : Risen ys := ⟨so, pm.nodup_iff.mpr (words20_nodup f0 f1)⟩
    have z3 := z1.trans (same_new (o := .lst (ys.map V.str)) nS)
    have hS8 : upd H' S (.lst (ys.map V.str)) S = some (.lst (ys.map V.str)) := upd_same
    generalize upd H' S (.lst (ys.map V.str)) = H8 at z3 hS8 ⊢
    have r8 := r07.then z3
    refine ⟨.ref S, rfl, S, rfl, ⟨_, .inl (.inl hS8)⟩, fun B nB => lc_list (K := K) (a := S) (xs := ys.map V.str) (fun i H' => Same H8 H' ∧ ∃ us : List Addr, H' B = some (.lst (us.map V.ref)) ∧ Paired (MtAt H') us ((ys.take i).map (mkM cell))) ⟨same_new nB, [], upd_same, .nil⟩ (fun i H' _ z => .inl (.inl (z.1 _ _ hS8))) (fun i x H' hx z => ?_) (fun H' z => ?_)⟩
    · obtain ⟨z1, us, hB, hp⟩ := z
      rw [List.getElem?_map] at hx
      obtain ⟨w', hw, rfl⟩ := Option.map_eq_some_iff.mp hx
      have i20 := (List.getElem?_eq_some_iff.mp hw).1
      have ul := hp.length
      rw [List.length_map, List.length_take] at ul
      refine ⟨rfl, .str w', rfl, .int cell, rfl, .int cell, rfl, small' (n := 4) (by decide), fun tN nN => ?_⟩
      have k1 := same_new (o := .tup [.str w', .int cell, .int cell, .int 60]) nN
      have hB1 := k1 _ _ hB
      refine ⟨_, hB1, by rw [List.length_map]; exact small (by omega), fun b o e => ?_, us ++ [tN], by rw [upd_same, map_snoc], ?_⟩
      · rw [upd_ne (ne_of_none e nB)]
        exact k1 _ _ (z1 _ _ e)
      · rw [List.take_add_one, hw, List.map_append]
        exact mts_lst hB1 ((same_mts k1 hp).snoc upd_same)
    obtain ⟨z4, us, hB, hp⟩ := z
    rw [List.length_map, List.take_length] at hp
    have ul : us.length = 20 := by rw [hp.length, List.length_map, yl]
    refine ⟨B, _, rfl, .inl ⟨.inl (.inl hB), fun MN nMN => ?_⟩⟩
    have z5 := z4.trans (same_new (o := .tup (us.map V.ref)) nMN)
    have hp9 := same_mts (same_new (o := .tup (us.map V.ref)) nMN) hp
    have hMN : upd H' MN (.tup (us.map V.ref)) MN = some (.tup (us.map V.ref)) := upd_same
    generalize upd H' MN (.tup (us.map V.ref)) = H9 at z5 hp9 hMN ⊢
    have r9 := r8.then z5
    have pa9 := r9.plan r3.at_ pa
    have rows : ∀ m ∈ ys.map (mkM cell), goodM m ∧ m.name.length ≤ 1500 := fun m hm => by
      obtain ⟨x, hx, rfl⟩ := List.mem_map.mp hm
      have w1 := yW x hx
      exact ⟨⟨isW_nameOk w1, Int.le_refl _, (by decide : (0 : Int) ≤ 60)⟩, by have := w1.2.2; show x.length ≤ 1500; omega⟩
    have mne : ys.map (mkM cell) ≠ [] := fun z => by
      have := congrArg List.length z
      rw [List.length_map, yl] at this
      cases this
    refine ⟨.ref pp, rfl, pp, _, 0, _, rfl, rfl, .inl (.inl pa9.top), atI_nat (j := 0) rfl, .ref MN, rfl, small' (n := 2) (by decide), fun p2 n2 => ?_⟩
    have k2 := same_new (o := .tup [.int P.len, .ref MN]) n2
    refine ⟨p2, MN, us, ⟨P.len, ys.map (mkM cell)⟩, rfl, ⟨upd_same, k2 _ _ hMN, same_mts k2 hp9⟩, by show (ys.map (mkM cell)).length ≤ 1000; rw [List.length_map]; omega, fun m hm => (rows m hm).2, ⟨po.len, mne, fun m hm => (rows m hm).1, by show Up ((ys.map (mkM cell)).map Mt.name); rw [mkM_names]; exact up_of yR⟩, fun HA sA => ⟨_, rfl, iteF ?_⟩⟩
    have kA := k2.trans sA
    have paA := pa9.same kA
    have hMA := kA _ _ hMN
    have hpA := same_mts kA hp9
    refine ⟨.ref pp, rfl, pp, _, 0, _, rfl, rfl, .inl (.inl paA.top), atI_nat (j := 0) rfl, .ref MN, rfl, 18, rfl, MN, _, rfl, hMA, fun a1 HB sB hb1 => ⟨.ref MN, rfl, 19, rfl, MN, _, rfl, sB _ _ hMA, fun a2 HC sC hc2 => ?_⟩⟩
    have c18 := cut_toA us (n := 18) (by decide)
    have c19 := cut_fromA us (n := 19) (by decide)
    have cmid := cutV_mid (us.map V.ref) 18 19 (by rw [List.length_map]; omega)
    rw [c18] at hb1
    rw [c19] at hc2
    refine ⟨a1, a2, _, _, rfl, rfl, sC _ _ hb1, hc2, ?_, fun a3 HD sD hd3 => ?_⟩
    · rw [List.length_map, List.length_map, List.length_take, List.length_drop]
      exact small' (by omega)
    have kD := (sB.trans sC).trans sD
    refine ⟨.ref MN, rfl, 18, rfl, 19, rfl, MN, _, rfl, kD _ _ hMA, fun a4 HE sE he4 => ?_⟩
    have he4' : HE a4 = some (.tup (((us.map V.ref).drop 18).take 1)) := by
      rw [← cmid]
      exact he4
    refine ⟨a3, a4, _, _, rfl, rfl, sE _ _ hd3, he4', ?_, fun a5 HF sF hf5 => ⟨small' (n := 2) (by decide), fun p3 n3 => ?_⟩⟩
    · rw [List.length_append, List.length_map, List.length_map, List.length_take, List.length_drop, List.length_take]
      exact small' (by omega)
    have el : (us.take (18 : Int).toNat).map V.ref ++ (us.drop (19 : Int).toNat).map V.ref ++ ((us.map V.ref).drop 18).take 1 = (us.take 18 ++ us.drop 19 ++ (us.drop 18).take 1).map V.ref := by
      rw [show ((18 : Int)).toNat = 18 from rfl, show ((19 : Int)).toNat = 19 from rfl, ← List.map_drop, ← List.map_take, List.map_append, List.map_append]
    rw [el] at hf5
    have kF := (kD.trans sE).trans sF
    have k3 := same_new (o := .tup [.int P.len, .ref a5]) n3
    have hpF := same_mts (kF.trans k3) hpA
    obtain ⟨g1, g2⟩ := mts_sub hpF (mem_last_two (l := us))
    obtain ⟨t1, t2⟩ := last_two ul
    have u18 : us[18]? = some us[18] := List.getElem?_eq_getElem (by omega)
    have u19 : us[19]? = some us[19] := List.getElem?_eq_getElem (by omega)
    rw [u19] at t1
    rw [u18] at t2
    obtain ⟨m18, e18, h18⟩ := mts_at hpF u18
    obtain ⟨m19, e19, h19⟩ := mts_at hpF u19
    refine ⟨p3, a5, us.take 18 ++ us.drop 19 ++ (us.drop 18).take 1, ⟨P.len, (us.take 18 ++ us.drop 19 ++ (us.drop 18).take 1).map (mtOf _)⟩, rfl, ⟨upd_same, k3 _ _ hf5, g1⟩, ?_, fun m hm => (rows m (g2 m hm)).2, fun g => ?_, fun HG sG => ⟨_, rfl, iteF ?_⟩⟩
    · show (List.map _ _).length ≤ 1000
      rw [List.length_map, List.length_append, List.length_append, List.length_take, List.length_drop, List.length_take, List.length_drop]
      omega
    · have nm : ∀ {i : Nat} {m : Mt}, (ys.map (mkM cell))[i]? = some m → ys[i]? = some m.name := fun {i m} h => by
        have := congrArg (Option.map Mt.name) h
        rw [← List.getElem?_map, mkM_names] at this
        exact this
      exact not_bel_back (sorted_step so 18 m18.name m19.name (nm e18) (nm e19)) (g.2.2.2 18 _ _ (name_at t1 h19) (name_at t2 h18))
    have kG := (kF.trans k3).trans sG
    have paG := paA.same kG
    have sT : SqT K HG tm (ts.map V.ref) := .inl (.inl paG.mid)
    refine ⟨.ref pp, rfl, pp, _, 1, _, rfl, rfl, .inl (.inl paG.top), atI_nat (j := 1) rfl, 1, rfl, tm, _, rfl, paG.mid, fun a6 HI sI hi6 => ⟨small' (n := 2) (by decide), fun p4 n4 => ?_⟩⟩
    rw [cut_toA ts (n := 1) (by decide)] at hi6
    have k4 := same_new (o := .tup [.int 1, .ref a6]) n4
    have pa4 := paG.same (sI.trans k4)
    obtain ⟨g3, g4⟩ := mts_sub pa4.low (us := ts.take 1) (fun u hu => List.mem_of_mem_take hu)
    have l1 : ((ts.take 1).map (mtOf (upd HI p4 (.tup [.int 1, .ref a6])))).length = 1 := by
      have p0 : 0 < P.ms.length := List.length_pos_iff.mpr po.some_
      rw [List.length_map, List.length_take]
      omega
    refine ⟨p4, a6, ts.take 1, ⟨1, (ts.take 1).map (mtOf _)⟩, rfl, ⟨upd_same, k4 _ _ hi6, g3⟩, by show (List.map _ _).length ≤ 1000; rw [l1]; decide, fun m hm => lens m (g4 m hm), ⟨Int.le_refl _, fun z => ?_, fun m hm => gp.2.2.1 m (g4 m hm), fun i a b h1 h2 => ?_⟩, fun HJ sJ => ⟨_, rfl, iteT ?_⟩⟩
    · have z' := congrArg List.length z
      have z'' : ((ts.take 1).map (mtOf (upd HI p4 (.tup [.int 1, .ref a6])))).length = 0 := z'
      rw [l1] at z''
      cases z''
    · have := (List.getElem?_eq_some_iff.mp h2).1
      rw [List.length_map] at this
      have z'' : i + 1 < ((ts.take 1).map (mtOf (upd HI p4 (.tup [.int 1, .ref a6])))).length := this
      rw [l1] at z''
      omega
    exact ⟨.ref pp, rfl, pp, tm, ts, P, rfl, pa4.same sJ, by omega, lens, gp, fun HK sK => q _⟩
end
theorem all_mk {l : PySem.W.OpenLaw} {w : World} {K : PySem.W.Frag} {h : Heap} {mg : Str → Option Value} {fa : Addr} (X : K.In h) (G : h.Ns mainGlobals mg) (hfa : mg "law" = some (.ref fa)) 
    {f1 : Addr} {od1 an1 : Option Addr} {sl1 : Array (Option Value)} {oc1 kV1 dc1 pm1 cd1 ct1 : Value}
    {f2 : Addr} {od2 an2 : Option Addr} {sl2 : Array (Option Value)} {oc2 kV2 dc2 pm2 cd2 ct2 : Value}
    {f3 : Addr} {od3 an3 : Option Addr} {sl3 : Array (Option Value)} {oc3 kV3 dc3 pm3 cd3 ct3 : Value}
    {f4 : Addr} {od4 an4 : Option Addr} {sl4 : Array (Option Value)} {oc4 kV4 dc4 pm4 cd4 ct4 : Value}
    {f5 : Addr} {od5 an5 : Option Addr} {sl5 : Array (Option Value)} {oc5 kV5 dc5 pm5 cd5 ct5 : Value}
    {f6 : Addr} {od6 an6 : Option Addr} {sl6 : Array (Option Value)} {oc6 kV6 dc6 pm6 cd6 ct6 : Value}
    {f7 : Addr} {od7 an7 : Option Addr} {sl7 : Array (Option Value)} {oc7 kV7 dc7 pm7 cd7 ct7 : Value}
    {f8 : Addr} {od8 an8 : Option Addr} {sl8 : Array (Option Value)} {oc8 kV8 dc8 pm8 cd8 ct8 : Value}
    {f9 : Addr} {od9 an9 : Option Addr} {sl9 : Array (Option Value)} {oc9 kV9 dc9 pm9 cd9 ct9 : Value}
    {f10 : Addr} {od10 an10 : Option Addr} {sl10 : Array (Option Value)} {oc10 kV10 dc10 pm10 cd10 ct10 : Value}
    {f11 : Addr} {od11 an11 : Option Addr} {sl11 : Array (Option Value)} {oc11 kV11 dc11 pm11 cd11 ct11 : Value}
    {f12 : Addr} {od12 an12 : Option Addr} {sl12 : Array (Option Value)} {oc12 kV12 dc12 pm12 cd12 ct12 : Value}
    {f13 : Addr} {od13 an13 : Option Addr} {sl13 : Array (Option Value)} {oc13 kV13 dc13 pm13 cd13 ct13 : Value}
    {f14 : Addr} {od14 an14 : Option Addr} {sl14 : Array (Option Value)} {oc14 kV14 dc14 pm14 cd14 ct14 : Value}
    {f15 : Addr} {od15 an15 : Option Addr} {sl15 : Array (Option Value)} {oc15 kV15 dc15 pm15 cd15 ct15 : Value}
    {f16 : Addr} {od16 an16 : Option Addr} {sl16 : Array (Option Value)} {oc16 kV16 dc16 pm16 cd16 ct16 : Value}
    {f17 : Addr} {od17 an17 : Option Addr} {sl17 : Array (Option Value)} {oc17 kV17 dc17 pm17 cd17 ct17 : Value}
    {lt : Tok}
    {cGatherError : Addr} {cInvalidPlan : Addr} {cInvalidLetter : Addr} {cInvalidAlarm : Addr} {cNoSlot : Addr} {cBadText : Addr} {cNotPossible : Addr} {cNoNote : Addr} {cClosed : Addr} {cInvalidEntry : Addr} {cNoLetter : Addr}
    (a1 : PySem.W.nsIn K mainGlobals "is_name" = some (some (.ref f1))) (l1 : K.lookup f1 = some ⟨oc1, od1, .func (PySem.W.fnOf "is_name" "is_name" (defArgs s_is_name) (defBody s_is_name) (defScope s_is_name) .none kV1 dc1 pm1 an1 cd1 ct1), sl1⟩) (c1 : PySem.W.codeIn K cd1 "is_name" = true) (k1 : PySem.W.keepIn K (.ref f1) = true)
    (a2 : PySem.W.nsIn K mainGlobals "names_of" = some (some (.ref f2))) (l2 : K.lookup f2 = some ⟨oc2, od2, .func (PySem.W.fnOf "names_of" "names_of" (defArgs s_names_of) (defBody s_names_of) (defScope s_names_of) .none kV2 dc2 pm2 an2 cd2 ct2), sl2⟩) (c2 : PySem.W.codeIn K cd2 "names_of" = true) (k2 : PySem.W.keepIn K (.ref f2) = true)
    (a3 : PySem.W.nsIn K mainGlobals "check_plan" = some (some (.ref f3))) (l3 : K.lookup f3 = some ⟨oc3, od3, .func (PySem.W.fnOf "check_plan" "check_plan" (defArgs s_check_plan) (defBody s_check_plan) (defScope s_check_plan) .none kV3 dc3 pm3 an3 cd3 ct3), sl3⟩) (c3 : PySem.W.codeIn K cd3 "check_plan" = true) (k3 : PySem.W.keepIn K (.ref f3) = true)
    (a4 : PySem.W.nsIn K mainGlobals "_check_meter" = some (some (.ref f4))) (l4 : K.lookup f4 = some ⟨oc4, od4, .func (PySem.W.fnOf "_check_meter" "_check_meter" (defArgs s_check_meter) (defBody s_check_meter) (defScope s_check_meter) .none kV4 dc4 pm4 an4 cd4 ct4), sl4⟩) (c4 : PySem.W.codeIn K cd4 "_check_meter" = true) (k4 : PySem.W.keepIn K (.ref f4) = true)
    (a5 : PySem.W.nsIn K mainGlobals "_law_draws" = some (some (.ref f5))) (l5 : K.lookup f5 = some ⟨oc5, od5, .func (PySem.W.fnOf "_law_draws" "_law_draws" (defArgs s_l_draws) (defBody s_l_draws) (defScope s_l_draws) .none kV5 dc5 pm5 an5 cd5 ct5), sl5⟩) (c5 : PySem.W.codeIn K cd5 "_law_draws" = true) (k5 : PySem.W.keepIn K (.ref f5) = true)
    (a6 : PySem.W.nsIn K mainGlobals "_law_take" = some (some (.ref f6))) (l6 : K.lookup f6 = some ⟨oc6, od6, .func (PySem.W.fnOf "_law_take" "_law_take" (defArgs s_l_take) (defBody s_l_take) (defScope s_l_take) .none kV6 dc6 pm6 an6 cd6 ct6), sl6⟩) (c6 : PySem.W.codeIn K cd6 "_law_take" = true) (k6 : PySem.W.keepIn K (.ref f6) = true)
    (a7 : PySem.W.nsIn K mainGlobals "_law_cell" = some (some (.ref f7))) (l7 : K.lookup f7 = some ⟨oc7, od7, .func (PySem.W.fnOf "_law_cell" "_law_cell" (defArgs s_l_cell) (defBody s_l_cell) (defScope s_l_cell) .none kV7 dc7 pm7 an7 cd7 ct7), sl7⟩) (c7 : PySem.W.codeIn K cd7 "_law_cell" = true) (k7 : PySem.W.keepIn K (.ref f7) = true)
    (a8 : PySem.W.nsIn K mainGlobals "_law_word" = some (some (.ref f8))) (l8 : K.lookup f8 = some ⟨oc8, od8, .func (PySem.W.fnOf "_law_word" "_law_word" (defArgs s_l_word) (defBody s_l_word) (defScope s_l_word) .none kV8 dc8 pm8 an8 cd8 ct8), sl8⟩) (c8 : PySem.W.codeIn K cd8 "_law_word" = true) (k8 : PySem.W.keepIn K (.ref f8) = true)
    (a9 : PySem.W.nsIn K mainGlobals "_law_some_word" = some (some (.ref f9))) (l9 : K.lookup f9 = some ⟨oc9, od9, .func (PySem.W.fnOf "_law_some_word" "_law_some_word" (defArgs s_l_some_word) (defBody s_l_some_word) (defScope s_l_some_word) .none kV9 dc9 pm9 an9 cd9 ct9), sl9⟩) (c9 : PySem.W.codeIn K cd9 "_law_some_word" = true) (k9 : PySem.W.keepIn K (.ref f9) = true)
    (a10 : PySem.W.nsIn K mainGlobals "_law_no_word" = some (some (.ref f10))) (l10 : K.lookup f10 = some ⟨oc10, od10, .func (PySem.W.fnOf "_law_no_word" "_law_no_word" (defArgs s_l_no_word) (defBody s_l_no_word) (defScope s_l_no_word) .none kV10 dc10 pm10 an10 cd10 ct10), sl10⟩) (c10 : PySem.W.codeIn K cd10 "_law_no_word" = true) (k10 : PySem.W.keepIn K (.ref f10) = true)
    (a11 : PySem.W.nsIn K mainGlobals "_law_plan" = some (some (.ref f11))) (l11 : K.lookup f11 = some ⟨oc11, od11, .func (PySem.W.fnOf "_law_plan" "_law_plan" (defArgs s_l_plan) (defBody s_l_plan) (defScope s_l_plan) .none kV11 dc11 pm11 an11 cd11 ct11), sl11⟩) (c11 : PySem.W.codeIn K cd11 "_law_plan" = true) (k11 : PySem.W.keepIn K (.ref f11) = true)
    (a12 : PySem.W.nsIn K mainGlobals "_law_other_error" = some (some (.ref f12))) (l12 : K.lookup f12 = some ⟨oc12, od12, .func (PySem.W.fnOf "_law_other_error" "_law_other_error" (defArgs s_l_other_error) (defBody s_l_other_error) (defScope s_l_other_error) .none kV12 dc12 pm12 an12 cd12 ct12), sl12⟩) (c12 : PySem.W.codeIn K cd12 "_law_other_error" = true) (k12 : PySem.W.keepIn K (.ref f12) = true)
    (a13 : PySem.W.nsIn K mainGlobals "_law_in_disorder" = some (some (.ref f13))) (l13 : K.lookup f13 = some ⟨oc13, od13, .func (PySem.W.fnOf "_law_in_disorder" "_law_in_disorder" (defArgs s_l_in_disorder) (defBody s_l_in_disorder) (defScope s_l_in_disorder) .none kV13 dc13 pm13 an13 cd13 ct13), sl13⟩) (c13 : PySem.W.codeIn K cd13 "_law_in_disorder" = true) (k13 : PySem.W.keepIn K (.ref f13) = true)
    (a14 : PySem.W.nsIn K mainGlobals "_law_spoilt" = some (some (.ref f14))) (l14 : K.lookup f14 = some ⟨oc14, od14, .func (PySem.W.fnOf "_law_spoilt" "_law_spoilt" (defArgs s_l_spoilt) (defBody s_l_spoilt) (defScope s_l_spoilt) .none kV14 dc14 pm14 an14 cd14 ct14), sl14⟩) (c14 : PySem.W.codeIn K cd14 "_law_spoilt" = true) (k14 : PySem.W.keepIn K (.ref f14) = true)
    (a15 : PySem.W.nsIn K mainGlobals "_law_accepted" = some (some (.ref f15))) (l15 : K.lookup f15 = some ⟨oc15, od15, .func (PySem.W.fnOf "_law_accepted" "_law_accepted" (defArgs s_l_accepted) (defBody s_l_accepted) (defScope s_l_accepted) .none kV15 dc15 pm15 an15 cd15 ct15), sl15⟩) (c15 : PySem.W.codeIn K cd15 "_law_accepted" = true) (k15 : PySem.W.keepIn K (.ref f15) = true)
    (a16 : PySem.W.nsIn K mainGlobals "_law_refused" = some (some (.ref f16))) (l16 : K.lookup f16 = some ⟨oc16, od16, .func (PySem.W.fnOf "_law_refused" "_law_refused" (defArgs s_l_refused) (defBody s_l_refused) (defScope s_l_refused) .none kV16 dc16 pm16 an16 cd16 ct16), sl16⟩) (c16 : PySem.W.codeIn K cd16 "_law_refused" = true) (k16 : PySem.W.keepIn K (.ref f16) = true)
    (a17 : PySem.W.nsIn K mainGlobals "law" = some (some (.ref f17))) (l17 : K.lookup f17 = some ⟨oc17, od17, .func (PySem.W.fnOf "law" "law" (defArgs s_law) (defBody s_law) (defScope s_law) .none kV17 dc17 pm17 an17 cd17 ct17), sl17⟩) (c17 : PySem.W.codeIn K cd17 "law" = true) (k17 : PySem.W.keepIn K (.ref f17) = true)
    (z18 : PySem.W.nsIn K mainGlobals "ValueError" = some none)
    (z19 : PySem.W.nsIn K mainGlobals "abs" = some none)
    (z20 : PySem.W.nsIn K mainGlobals "all" = some none)
    (z21 : PySem.W.nsIn K mainGlobals "int" = some none)
    (z22 : PySem.W.nsIn K mainGlobals "isinstance" = some none)
    (z23 : PySem.W.nsIn K mainGlobals "len" = some none)
    (z24 : PySem.W.nsIn K mainGlobals "list" = some none)
    (z25 : PySem.W.nsIn K mainGlobals "range" = some none)
    (z26 : PySem.W.nsIn K mainGlobals "set" = some none)
    (z27 : PySem.W.nsIn K mainGlobals "sorted" = some none)
    (z28 : PySem.W.nsIn K mainGlobals "tuple" = some none)
    (z29 : PySem.W.nsIn K mainGlobals "zip" = some none)
    (gL : PySem.W.nsIn K mainGlobals "LETTERS" = some (some (.str "abcdefghijklmnopqrstuvwxyz" lt)))
    (eAGatherError : PySem.W.nsIn K mainGlobals "GatherError" = some (some (.ref cGatherError))) (eAInvalidPlan : PySem.W.nsIn K mainGlobals "InvalidPlan" = some (some (.ref cInvalidPlan))) (eAInvalidLetter : PySem.W.nsIn K mainGlobals "InvalidLetter" = some (some (.ref cInvalidLetter))) (eAInvalidAlarm : PySem.W.nsIn K mainGlobals "InvalidAlarm" = some (some (.ref cInvalidAlarm))) (eANoSlot : PySem.W.nsIn K mainGlobals "NoSlot" = some (some (.ref cNoSlot))) (eABadText : PySem.W.nsIn K mainGlobals "BadText" = some (some (.ref cBadText))) (eANotPossible : PySem.W.nsIn K mainGlobals "NotPossible" = some (some (.ref cNotPossible))) (eANoNote : PySem.W.nsIn K mainGlobals "NoNote" = some (some (.ref cNoNote))) (eAClosed : PySem.W.nsIn K mainGlobals "Closed" = some (some (.ref cClosed))) (eAInvalidEntry : PySem.W.nsIn K mainGlobals "InvalidEntry" = some (some (.ref cInvalidEntry))) (eANoLetter : PySem.W.nsIn K mainGlobals "NoLetter" = some (some (.ref cNoLetter))) (eKGatherError : PySem.W.kitOne K (.ref cInvalidPlan) (.ref cGatherError) = some true) (eKInvalidPlan : PySem.W.kitOne K (.ref cInvalidPlan) (.ref cInvalidPlan) = some true) (eKInvalidLetter : PySem.W.kitOne K (.ref cInvalidPlan) (.ref cInvalidLetter) = some false) (eKInvalidAlarm : PySem.W.kitOne K (.ref cInvalidPlan) (.ref cInvalidAlarm) = some false) (eKNoSlot : PySem.W.kitOne K (.ref cInvalidPlan) (.ref cNoSlot) = some false) (eKBadText : PySem.W.kitOne K (.ref cInvalidPlan) (.ref cBadText) = some false) (eKNotPossible : PySem.W.kitOne K (.ref cInvalidPlan) (.ref cNotPossible) = some false) (eKNoNote : PySem.W.kitOne K (.ref cInvalidPlan) (.ref cNoNote) = some false) (eKClosed : PySem.W.kitOne K (.ref cInvalidPlan) (.ref cClosed) = some false) (eKInvalidEntry : PySem.W.kitOne K (.ref cInvalidPlan) (.ref cInvalidEntry) = some false) (eKNoLetter : PySem.W.kitOne K (.ref cInvalidPlan) (.ref cNoLetter) = some false) (ekitV : PySem.W.kitOne K (.ref cInvalidPlan) (.type "ValueError") = some true) (exQ : PySem.W.excIn K cInvalidPlan [.type "ValueError", .type "Exception", .type "BaseException", .type "object"] "ValueError.__new__" = true) (exK : PySem.W.keepIn K (.ref cInvalidPlan) = true) (exS : PySem.W.subIn K (.ref cInvalidPlan) (.type "BaseException") = some true) (exT : PySem.W.typeIn K (.ref cInvalidPlan) = some (.type "type")) (exR : PySem.W.subIn K (.ref cInvalidPlan) (.ref cInvalidPlan) = some true) (exd : PySem.W.hasDictIn K cInvalidPlan = true) (exg : PySem.W.findIn K (.ref cInvalidPlan) "__getattribute__" = some (some (.builtin "BaseException.__getattribute__"))) (exk : PySem.W.findIn K (.ref cInvalidPlan) "__getattr__" = some none) (exa : PySem.W.findIn K (.ref cInvalidPlan) "__class__" = some (some (.builtin "object.__class__"))) (exm : PySem.W.mroIn K cInvalidPlan (.type "object") = some true) (exn : PySem.W.specialIn K (.builtin "object.__class__") "__get__" = some (some (.builtin "getset_descriptor.__get__"))) (ext : PySem.W.takesIn K (.builtin "object.__class__") = some true) :
    ∃ fd : FuncData, (∀ (s : Shared) (v : Value), BindsTo s fd ⟨[v], []⟩ [("script", v)]) ∧ ∀ base : Heap, K.In base → base.Ns mainGlobals mg →  FnOk l.prog w K mg base CX0 5 fa fd ["script"] (sp_law K) := by
  have e := hfa.symm.trans (PySem.W.mg_of X G a17)
  cases e
  have F1 := fun_mk (st := s_is_name) l1 c1 k1
  have B1 := F1.binds (ps := ["text"]) (fun _ _ _ _ _ _ us hl => match us, hl with | [_], _ => rfl)
  have F2 := fun_mk (st := s_names_of) l2 c2 k2
  have B2 := F2.binds (ps := ["plan"]) (fun _ _ _ _ _ _ us hl => match us, hl with | [_], _ => rfl)
  have F3 := fun_mk (st := s_check_plan) l3 c3 k3
  have B3 := F3.binds (ps := ["plan"]) (fun _ _ _ _ _ _ us hl => match us, hl with | [_], _ => rfl)
  have F4 := fun_mk (st := s_check_meter) l4 c4 k4
  have B4 := F4.binds (ps := ["meter"]) (fun _ _ _ _ _ _ us hl => match us, hl with | [_], _ => rfl)
  have F5 := fun_mk (st := s_l_draws) l5 c5 k5
  have B5 := F5.binds (ps := ["script", "many"]) (fun _ _ _ _ _ _ us hl => match us, hl with | [_, _], _ => rfl)
  have F6 := fun_mk (st := s_l_take) l6 c6 k6
  have B6 := F6.binds (ps := ["draws", "many"]) (fun _ _ _ _ _ _ us hl => match us, hl with | [_, _], _ => rfl)
  have F7 := fun_mk (st := s_l_cell) l7 c7 k7
  have B7 := F7.binds (ps := ["script", "draws"]) (fun _ _ _ _ _ _ us hl => match us, hl with | [_, _], _ => rfl)
  have F8 := fun_mk (st := s_l_word) l8 c8 k8
  have B8 := F8.binds (ps := ["number"]) (fun _ _ _ _ _ _ us hl => match us, hl with | [_], _ => rfl)
  have F9 := fun_mk (st := s_l_some_word) l9 c9 k9
  have B9 := F9.binds (ps := ["draws"]) (fun _ _ _ _ _ _ us hl => match us, hl with | [_], _ => rfl)
  have F10 := fun_mk (st := s_l_no_word) l10 c10 k10
  have B10 := F10.binds (ps := ["draws"]) (fun _ _ _ _ _ _ us hl => match us, hl with | [_], _ => rfl)
  have F11 := fun_mk (st := s_l_plan) l11 c11 k11
  have B11 := F11.binds (ps := ["draws", "cell"]) (fun _ _ _ _ _ _ us hl => match us, hl with | [_, _], _ => rfl)
  have F12 := fun_mk (st := s_l_other_error) l12 c12 k12
  have B12 := F12.binds (ps := ["e", "name"]) (fun _ _ _ _ _ _ us hl => match us, hl with | [_, _], _ => rfl)
  have F13 := fun_mk (st := s_l_in_disorder) l13 c13 k13
  have B13 := F13.binds (ps := ["draws", "meters"]) (fun _ _ _ _ _ _ us hl => match us, hl with | [_, _], _ => rfl)
  have F14 := fun_mk (st := s_l_spoilt) l14 c14 k14
  have B14 := F14.binds (ps := ["draws", "plan", "cell"]) (fun _ _ _ _ _ _ us hl => match us, hl with | [_, _, _], _ => rfl)
  have F15 := fun_mk (st := s_l_accepted) l15 c15 k15
  have B15 := F15.binds (ps := ["plan"]) (fun _ _ _ _ _ _ us hl => match us, hl with | [_], _ => rfl)
  have F16 := fun_mk (st := s_l_refused) l16 c16 k16
  have B16 := F16.binds (ps := ["plan"]) (fun _ _ _ _ _ _ us hl => match us, hl with | [_], _ => rfl)
  have F17 := fun_mk (st := s_law) l17 c17 k17
  have B17 := F17.binds (ps := ["script"]) (fun _ _ _ _ _ _ us hl => match us, hl with | [_], _ => rfl)
  let T : Ctx K mg := { f_is_name := f1, fd_is_name := _, F_is_name := F1, b_is_name := B1, g_is_name := PySem.W.mg_of X G a1, f_names_of := f2, fd_names_of := _, F_names_of := F2, b_names_of := B2, g_names_of := PySem.W.mg_of X G a2, f_check_plan := f3, fd_check_plan := _, F_check_plan := F3, b_check_plan := B3, g_check_plan := PySem.W.mg_of X G a3, f_check_meter := f4, fd_check_meter := _, F_check_meter := F4, b_check_meter := B4, g_check_meter := PySem.W.mg_of X G a4, f_l_draws := f5, fd_l_draws := _, F_l_draws := F5, b_l_draws := B5, g_l_draws := PySem.W.mg_of X G a5, f_l_take := f6, fd_l_take := _, F_l_take := F6, b_l_take := B6, g_l_take := PySem.W.mg_of X G a6, f_l_cell := f7, fd_l_cell := _, F_l_cell := F7, b_l_cell := B7, g_l_cell := PySem.W.mg_of X G a7, f_l_word := f8, fd_l_word := _, F_l_word := F8, b_l_word := B8, g_l_word := PySem.W.mg_of X G a8, f_l_some_word := f9, fd_l_some_word := _, F_l_some_word := F9, b_l_some_word := B9, g_l_some_word := PySem.W.mg_of X G a9, f_l_no_word := f10, fd_l_no_word := _, F_l_no_word := F10, b_l_no_word := B10, g_l_no_word := PySem.W.mg_of X G a10, f_l_plan := f11, fd_l_plan := _, F_l_plan := F11, b_l_plan := B11, g_l_plan := PySem.W.mg_of X G a11, f_l_other_error := f12, fd_l_other_error := _, F_l_other_error := F12, b_l_other_error := B12, g_l_other_error := PySem.W.mg_of X G a12, f_l_in_disorder := f13, fd_l_in_disorder := _, F_l_in_disorder := F13, b_l_in_disorder := B13, g_l_in_disorder := PySem.W.mg_of X G a13, f_l_spoilt := f14, fd_l_spoilt := _, F_l_spoilt := F14, b_l_spoilt := B14, g_l_spoilt := PySem.W.mg_of X G a14, f_l_accepted := f15, fd_l_accepted := _, F_l_accepted := F15, b_l_accepted := B15, g_l_accepted := PySem.W.mg_of X G a15, f_l_refused := f16, fd_l_refused := _, F_l_refused := F16, b_l_refused := B16, g_l_refused := PySem.W.mg_of X G a16, f_law := fa, fd_law := _, F_law := F17, b_law := B17, g_law := PySem.W.mg_of X G a17, m_ValueError := PySem.W.mg_none_of X G z18, m_abs := PySem.W.mg_none_of X G z19, m_all := PySem.W.mg_none_of X G z20, m_int := PySem.W.mg_none_of X G z21, m_isinstance := PySem.W.mg_none_of X G z22, m_len := PySem.W.mg_none_of X G z23, m_list := PySem.W.mg_none_of X G z24, m_range := PySem.W.mg_none_of X G z25, m_set := PySem.W.mg_none_of X G z26, m_sorted := PySem.W.mg_none_of X G z27, m_tuple := PySem.W.mg_none_of X G z28, m_zip := PySem.W.mg_none_of X G z29, lt := lt, g_LETTERS := PySem.W.mg_of X G gL, c_GatherError := cGatherError, gC_GatherError := PySem.W.mg_of X G eAGatherError, c_InvalidPlan := cInvalidPlan, gC_InvalidPlan := PySem.W.mg_of X G eAInvalidPlan, c_InvalidLetter := cInvalidLetter, gC_InvalidLetter := PySem.W.mg_of X G eAInvalidLetter, c_InvalidAlarm := cInvalidAlarm, gC_InvalidAlarm := PySem.W.mg_of X G eAInvalidAlarm, c_NoSlot := cNoSlot, gC_NoSlot := PySem.W.mg_of X G eANoSlot, c_BadText := cBadText, gC_BadText := PySem.W.mg_of X G eABadText, c_NotPossible := cNotPossible, gC_NotPossible := PySem.W.mg_of X G eANotPossible, c_NoNote := cNoNote, gC_NoNote := PySem.W.mg_of X G eANoNote, c_Closed := cClosed, gC_Closed := PySem.W.mg_of X G eAClosed, c_InvalidEntry := cInvalidEntry, gC_InvalidEntry := PySem.W.mg_of X G eAInvalidEntry, c_NoLetter := cNoLetter, gC_NoLetter := PySem.W.mg_of X G eANoLetter, kit_GatherError := eKGatherError, kit_InvalidPlan := eKInvalidPlan, kit_InvalidLetter := eKInvalidLetter, kit_InvalidAlarm := eKInvalidAlarm, kit_NoSlot := eKNoSlot, kit_BadText := eKBadText, kit_NotPossible := eKNotPossible, kit_NoNote := eKNoNote, kit_Closed := eKClosed, kit_InvalidEntry := eKInvalidEntry, kit_NoLetter := eKNoLetter, kitV := ekitV, xQ := exQ, xK := exK, xS := exS, xT := exT, xR := exR, xd := exd, xg := exg, xk := exk, xa := exa, xm := exm, xn := exn, xt := ext }
  exact ⟨PySem.W.fnOf "law" "law" (defArgs s_law) (defBody s_law) (defScope s_law) .none kV17 dc17 pm17 an17 cd17 ct17, fun s v => .of_eq rfl, fun base _ _  => ok_law T ⟩
end Tw
open PySem PySem.W PyProof.Rows
set_option maxHeartbeats 0 in
theorem PySem.Challenge.cw_toldwhensure_k01_right_plans_holds : PySem.Challenge.rw_toldwhensure_k01_right_plans.Holds := by
  w_on; o_law; k_head; (case hw => w_witness2)
  k_fill
  refine L2.walk_of (l := PySem.Challenge.rw_toldwhensure_k01_right_plans) (n := 63) (k := 5) (x := "script") (CX := fun _ => L2.CX0) (sp := fun w => Tw.sp_law _) rfl (by decide) rfl ⟨rfl, by decide, by decide⟩ (fun w h Y => PySem.W.kIn_of Y) ?F
    (fun _ _ a ns hl _ hS => ⟨a, ns, rfl, hS, hl, fun _ => rfl⟩) (fun _ _ _ _ _ h => h)
  case F =>
    intro w mg fa h KX G hmg
    refine' Tw.all_mk KX G hmg  ?a1 ?l1 ?c1 ?k1 ?a2 ?l2 ?c2 ?k2 ?a3 ?l3 ?c3 ?k3 ?a4 ?l4 ?c4 ?k4 ?a5 ?l5 ?c5 ?k5 ?a6 ?l6 ?c6 ?k6 ?a7 ?l7 ?c7 ?k7 ?a8 ?l8 ?c8 ?k8 ?a9 ?l9 ?c9 ?k9 ?a10 ?l10 ?c10 ?k10 ?a11 ?l11 ?c11 ?k11 ?a12 ?l12 ?c12 ?k12 ?a13 ?l13 ?c13 ?k13 ?a14 ?l14 ?c14 ?k14 ?a15 ?l15 ?c15 ?k15 ?a16 ?l16 ?c16 ?k16 ?a17 ?l17 ?c17 ?k17 ?z18 ?z19 ?z20 ?z21 ?z22 ?z23 ?z24 ?z25 ?z26 ?z27 ?z28 ?z29 ?gL ?eAGatherError ?eAInvalidPlan ?eAInvalidLetter ?eAInvalidAlarm ?eANoSlot ?eABadText ?eANotPossible ?eANoNote ?eAClosed ?eAInvalidEntry ?eANoLetter ?eKGatherError ?eKInvalidPlan ?eKInvalidLetter ?eKInvalidAlarm ?eKNoSlot ?eKBadText ?eKNotPossible ?eKNoNote ?eKClosed ?eKInvalidEntry ?eKNoLetter ?ekitV ?exQ ?exK ?exS ?exT ?exR ?exd ?exg ?exk ?exa ?exm ?exn ?ext
    (case a1 => k_is); (case l1 => k_is); (case c1 => k_is); (case k1 => k_is); (case a2 => k_is); (case l2 => k_is); (case c2 => k_is); (case k2 => k_is); (case a3 => k_is); (case l3 => k_is); (case c3 => k_is); (case k3 => k_is); (case a4 => k_is); (case l4 => k_is); (case c4 => k_is); (case k4 => k_is); (case a5 => k_is); (case l5 => k_is); (case c5 => k_is); (case k5 => k_is); (case a6 => k_is); (case l6 => k_is); (case c6 => k_is); (case k6 => k_is); (case a7 => k_is); (case l7 => k_is); (case c7 => k_is); (case k7 => k_is); (case a8 => k_is); (case l8 => k_is); (case c8 => k_is); (case k8 => k_is); (case a9 => k_is); (case l9 => k_is); (case c9 => k_is); (case k9 => k_is); (case a10 => k_is); (case l10 => k_is); (case c10 => k_is); (case k10 => k_is); (case a11 => k_is); (case l11 => k_is); (case c11 => k_is); (case k11 => k_is); (case a12 => k_is); (case l12 => k_is); (case c12 => k_is); (case k12 => k_is); (case a13 => k_is); (case l13 => k_is); (case c13 => k_is); (case k13 => k_is); (case a14 => k_is); (case l14 => k_is); (case c14 => k_is); (case k14 => k_is); (case a15 => k_is); (case l15 => k_is); (case c15 => k_is); (case k15 => k_is); (case a16 => k_is); (case l16 => k_is); (case c16 => k_is); (case k16 => k_is); (case a17 => k_is); (case l17 => k_is); (case c17 => k_is); (case k17 => k_is); (case z18 => k_is); (case z19 => k_is); (case z20 => k_is); (case z21 => k_is); (case z22 => k_is); (case z23 => k_is); (case z24 => k_is); (case z25 => k_is); (case z26 => k_is); (case z27 => k_is); (case z28 => k_is); (case z29 => k_is); (case gL => k_is); (case eAGatherError => k_is); (case eAInvalidPlan => k_is); (case eAInvalidLetter => k_is); (case eAInvalidAlarm => k_is); (case eANoSlot => k_is); (case eABadText => k_is); (case eANotPossible => k_is); (case eANoNote => k_is); (case eAClosed => k_is); (case eAInvalidEntry => k_is); (case eANoLetter => k_is); (case eKGatherError => kit_is); (case eKInvalidPlan => kit_is); (case eKInvalidLetter => kit_is); (case eKInvalidAlarm => kit_is); (case eKNoSlot => kit_is); (case eKBadText => kit_is); (case eKNotPossible => kit_is); (case eKNoNote => kit_is); (case eKClosed => kit_is); (case eKInvalidEntry => kit_is); (case eKNoLetter => kit_is); (case ekitV => kit_is); (case exQ => k_exc); (case exK => k_is); (case exS => k_is); (case exT => k_is); (case exR => first | rfl | k_is); (case exd => k_is); (case exg => k_is); (case exk => k_is); (case exa => k_is); (case exm => k_is); (case exn => k_is); (case ext => k_is)
