import PyProof.Rows.All
import Wide.All
import OpenK.AllK
import Wide.FinOn
import PyProof.Rows.ReprOcc
import HandS.ForMost
import HandS.Wide
import HandS.WideBits
import HandS.TupAny
import HandS.IsInst
import HandS.SetFor
import HandS.SetTxt0
import HandS.Strs
import HandS.More
import HandS.EndBits
import HandS.Zip
import HandS.FStr
import HandS.Walk
import HandS.TryOnly
import KE.KTupSum
import PySem.Challenge.RW_toldwhensure_k19_ranks_between_the_ends
set_option Elab.async false
set_option linter.all false
set_option maxRecDepth 100000
/-! a, b, *rest = t, t a tuple: the names ahead of the star, the rest as a new list -/
namespace Star2
open PySem PySem.Spec PyProof.Rows L2
theorem nolen_ti : typeLookup (.type "tuple_iterator") "__len__" = pure none := by rw [typeLookup_type, builtinLookup_eq_fast]; kernel_rfl
theorem hint_ti : typeLookup (.type "tuple_iterator") "__length_hint__" = pure (some (.builtin "tuple_iterator.__length_hint__")) := by rw [typeLookup_type, builtinLookup_eq_fast]; kernel_rfl
section
variable {prog : Program} {w : World} {A : Around} {E : Value → Shared → Prop} {s : Shared}
/-- the walk of a tuple from its k-th item on -/
theorem from_ {I ax : Addr} {items : Array Value} {k : Nat} (W : Walks prog w A I [I, ax] [I] items.size (fun i v => items[i]? = some v) (fun i h => h.IsTupleIter I ax i ∧ h.IsTuple ax items)) (hk : k ≤ items.size) :
    Walks prog w A I [I, ax] [I] (items.size - k) (fun i v => items[i + k]? = some v) (fun i h => h.IsTupleIter I ax (i + k) ∧ h.IsTuple ax items) where
  sub := W.sub
  frame := fun i => W.frame (i + k)
  item := fun i s Q E hi st q => W.item (i + k) s Q E (by omega) st fun v h' tk pv st' kk => q v h' tk pv ((show i + k + 1 = i + 1 + k by omega) ▸ st') kk
  done := fun s Q E st q => W.done s Q E ((show items.size - k + k = items.size by omega) ▸ st) q
  self := fun i => W.self (i + k)
/-- what is left of the walk, gathered -/
theorem rest {it t : Addr} {items : Array Value} {k : Nat} {Q : List Value → Shared → Prop} (hh : A.handled = none) (hit : s.heap.IsTupleIter it t k) (ht : s.heap.IsTuple t items) (ne : t ≠ it) (hk : k ≤ items.size) (hz : items.size ≤ sizeLine)
    (q : ∀ (h' : Heap) (tk : Nat), (∀ b o, b ≠ it → s.heap.get? b = some o → h'.get? b = some o) → s.heap.objs.size ≤ h'.objs.size → Q (items.toList.drop k) { s with heap := h', toks := tk }) : wpAny (model prog w) A (collect (.ref it)) Q E s := by
  have W := (from_ (Walks.tuple (prog := prog) (w := w) (A := A.in1) hh it t ne items) hk).toS
  obtain ⟨oi, hoi, _⟩ := id hit
  obtain ⟨ot, hot, _⟩ := id ht
  have n1 : s.heap.objs.size ≠ it := Nat.ne_of_gt (Heap.lt_size hoi)
  have n2 : s.heap.objs.size ≠ t := Nat.ne_of_gt (Heap.lt_size hot)
  have nS : s.heap.objs.size ∉ [it, t] := by simp only [List.mem_cons, List.not_mem_nil, or_false, not_or]; exact ⟨n1, n2⟩
  unfold collect
  refine wpAny_bind (wpAny_runValue (codeAny_builtin F.entry_proto_collect ?_))
  rw [Around.under_plainId F.plain_proto_collect _]
  refine wpAny_bind (m := newList []) (wpAny_newObj_type ?_)
  refine wpAny_pure ⟨plainId_quiet F.plain_list_iadd _, codeAny_builtin F.entry_list_iadd ?_⟩
  rw [Around.under_plainId F.plain_list_iadd _]
  generalize eo : ({ cls := .type "list", data := .seq ([] : List Value).toArray } : Obj) = ob
  have at1 : (s.heap.push ob).get? s.heap.objs.size = some ob := Heap.get?_push_size _ (by subst eo; rfl)
  have it1 : (s.heap.push ob).IsTupleIter it t (0 + k) := by rw [Nat.zero_add]; exact hit.at fun o e => Heap.get?_push_of_some _ e
  have ht1 : (s.heap.push ob).IsTuple t items := ht.push _
  have ty : ({ s with heap := s.heap.push ob } : Shared).TypeIs (.ref it) "tuple_iterator" := Heap.IsTupleIter.typeIs (s := { s with heap := s.heap.push ob }) it1
  have other : Builtin.List.listSameRef (.ref s.heap.objs.size) (.ref it) = false := by simp [Builtin.List.listSameRef, n1]
  subst eo
  show wpAny _ A.in1 (Builtin.List.listExtendWith (.ref s.heap.objs.size) (.ref it) (.ref s.heap.objs.size)) _ _ _
  unfold Builtin.List.listExtendWith
  refine wpAny_bind (wpAny_typeOf ty ?_)
  rw [if_neg (by rw [other]; decide)]
  refine wpAny_bind (wpAny_pyIter_tupleiter (s := { s with heap := s.heap.push _ }) it1 ?_)
  refine wpAny_bind (wpAny_holding ?_)
  unfold Builtin.List.listLengthHint
  refine wpAny_bind (wpAny_specialOf ty nolen_ti ?_)
  show wpAny _ A.in1 (specialOf (Value.ref it) (Str.ofString "__length_hint__") >>= _) _ _ _
  refine wpAny_bind (wpAny_specialOf ty hint_ti ?_)
  generalize hid : ("tuple_iterator.__length_hint__" : String) = id0
  wp_delta
  rw [show splitId id0 = some ("tuple_iterator", "__length_hint__") from by subst hid; decide +kernel]
  subst hid
  refine wpAny_bind (wpAny_isInstance (b := true) ty (by rw [isSubtype_type]; kernel_rfl) ?_)
  refine wpAny_pure ?_
  rw [if_neg (by decide)]
  refine wpAny_pure ⟨plainId_quiet F.plain_extend_loop _, codeAny_extend_loopS W (by omega) _ nS _ (items.size - k) 0 _ _ _ rfl (Nat.zero_le _) ⟨it1, ht1⟩ at1 (ItemsOf.nil _) fun s' acc c mv at2 got => ?_⟩
  show wpAny _ A (load s.heap.objs.size >>= _) _ _ s'
  refine wpAny_bind (wpAny_load at2 (wpAny_pure ?_))
  have ea : acc.toList = items.toList.drop k := by
    refine List.ext_getElem? fun i => ?_
    rw [List.getElem?_drop, Array.getElem?_toList, Array.getElem?_toList]
    have hs : acc.size = items.size - k := got.1
    by_cases hi : i < acc.size
    · have z := got.2 i acc[i] (Array.getElem?_eq_getElem hi)
      rw [Array.getElem?_eq_getElem hi, Nat.add_comm k i]
      exact z.symm
    · rw [Array.getElem?_eq_none (by omega), Array.getElem?_eq_none (by omega)]
  show Q acc.toList s'
  rw [ea, Moved.eq_with mv]
  refine q s'.heap s'.toks (fun b o hb e => mv.heap b o (fun hm => ?_) (Heap.get?_push_of_some _ e)) (Nat.le_of_lt (Heap.lt_size at2))
  rcases List.mem_cons.mp hm with z | hm
  · exact absurd (Heap.lt_size e) (by rw [z]; exact Nat.lt_irrefl _)
  · exact hb (List.mem_singleton.mp hm)
theorem items_star {t : Addr} {items : Array Value} {i n : Nat} {Q : List Value → Shared → Prop} (hh : A.handled = none) (ht : IsTup s.heap t items) (hi : i + 1 = n) (hl : i ≤ items.size) (hz : items.size ≤ sizeLine)
    (q : ∀ (h' : Heap) (tk : Nat), (∀ b o, s.heap.get? b = some o → h'.get? b = some o) → s.heap.objs.size ≤ h'.objs.size →
      Q (items.toList.take i ++ [.ref h'.objs.size]) { s with heap := h'.push { cls := .type "list", data := .seq (items.toList.drop i).toArray }, toks := tk }) :
    wpAny (model prog w) A (unpackItems (.ref t) n (some i)) Q E s := by
  have nt : t ≠ s.heap.objs.size := by obtain ⟨o, ho, _⟩ := ht; exact Nat.ne_of_lt (Heap.lt_size ho)
  unfold unpackItems
  refine wpAny_bind ?_
  unfold notIterableAtAll
  refine wpAny_bind (wpAny_specialOf ht.typeIs slot_tuple_iter.lookup (wpAny_pure ?_))
  simp only [Bool.false_eq_true, if_false]
  refine wpAny_bind (wpAny_holding (iter_tuple ht ?_))
  refine wpAny_bind (wpAny_holding (draw_tuple nt i 0 _ _ ⟨_, Heap.get?_push_size _ rfl, rfl, rfl⟩ (ht.push _) (by omega) fun h1 it1 sb => ?_))
  have e1 : List.take i (List.drop 0 items.toList) = items.toList.take i := by rw [List.drop_zero]
  rw [e1]
  have len1 : (items.toList.take i).length = i := by rw [List.length_take, Array.length_toList]; omega
  rw [if_neg (by rw [len1]; omega)]
  have ht1 : IsTup h1 t items := (ht.push _).extBut sb.extBut nt
  obtain ⟨ot, hot, hoc, hod⟩ := id ht1
  obtain ⟨oi, hoi, hic, hid⟩ := id it1
  refine wpAny_bind (wpAny_holding (rest (k := i) hh (by rw [Nat.zero_add] at it1; exact it1) ht1 nt hl hz fun h2 tk k2 z2 => ?_))
  have ea : n - 1 - i = 0 := by omega
  rw [ea]
  try dsimp only
  rw [if_neg (by omega)]
  have em : (items.toList.drop i).length - 0 = (items.toList.drop i).length := rfl
  rw [em, List.take_length, List.drop_length]
  refine wpAny_bind (wpAny_newList ?_ (by rw [List.length_drop, Array.length_toList]; omega))
  refine wpAny_pure ?_
  rw [List.append_nil]
  refine q h2 tk (fun b o e => ?_) ?_
  · have hb : b ≠ s.heap.objs.size := Nat.ne_of_lt (Heap.lt_size e)
    exact k2 b o hb (sb.extBut b o hb (Heap.get?_push_of_some _ e))
  · exact Nat.le_trans (Nat.le_of_lt (Heap.lt_size hoi)) z2
end
section
variable {X : Cx}
/-- names ahead of the star: their targets' readings; then the starred one's -/
def gStar (K : PySem.W.Frag) (i : Nat) (t : TGs) : TG := fun v σ H Q => ∃ a xs, v = .ref a ∧ SqT K H a xs ∧ i ≤ xs.length ∧ ∀ p, H p = none → t (xs.take i ++ [.ref p]) σ (upd H p (.lst (xs.drop i))) Q
theorem pgs_star {e : Expr} {pos : Pos} {t : TG} (h1 : PG X e t) (hs : (assignEach [.Starred e pos] X.env).map (·.2) = [assign e X.env] := by rfl) : PGs X [.Starred e pos] (gCons t gNil) := by
  refine ⟨fun pins s σ H vs us Q I r h => ?_⟩
  obtain ⟨v, vr, rfl, h⟩ := h
  cases r with
  | cons r rr =>
    rw [hs]
    refine assignInOrder_cons (thn (h1.run pins s σ H _ _ _ I r h) fun _ s1 ⟨σ1, H1, I1, e1, q1⟩ => ?_)
    subst e1
    cases rr
    exact assignInOrder_nil ⟨σ1, H1, I1, q1⟩
theorem pg_star {es : List Expr} {k : Nat} {t : TGs} {i : Nat} {pos : Pos} (hc : X.calm = true) (h : PGs X es t) (hn : (assignEach es X.env).length = i + 1 := by rfl) (hst : (assignEach es X.env).findIdx? (·.1) = some i := by rfl) : PG X (.Tuple es k pos) (gStar X.K i t) := by
  refine ⟨fun pins s σ H v u Q I r hw => ?_⟩
  obtain ⟨a, xs, rfl, hq, hl, hw⟩ := hw
  cases r
  obtain ⟨its, rv, ht, hz⟩ := I.tuple hq
  have el := rv.length
  rw [assign_Tuple]
  refine wpAny_bind (wpAny_standAt ?_)
  unfold unpack
  rw [hn, hst]
  refine wpAny_bind (wpAny_holding (items_star (I.ok.hd hc) ht rfl (by simp; omega) (by simp; omega) fun h' tk kk hs => ?_))
  have keep : ∀ b o, s.heap.get? b = some o → (h'.push { cls := .type "list", data := .seq (its.toArray.toList.drop i).toArray }).get? b = some o := fun b o e => Heap.get?_push_of_some _ (kk b o e)
  have hp : H h'.objs.size = none := I.hok.fresh hs
  have new : ObjOk X.prog X.w (upd H h'.objs.size (.lst (xs.drop i))) (h'.push { cls := .type "list", data := .seq (its.toArray.toList.drop i).toArray }) h'.objs.size (.lst (xs.drop i)) :=
    ⟨by rw [List.length_drop]; omega, its.drop i, 0, rv.drop i, by rw [Heap.get?_push_size _ rfl]⟩
  have J : Inv X pins σ (upd H h'.objs.size (.lst (xs.drop i))) { s with heap := h'.push { cls := .type "list", data := .seq (its.toArray.toList.drop i).toArray }, toks := tk } := I.laid keep hs new
  exact h.run pins _ σ _ _ _ Q J (Vals.append (by simpa using rv.take i) (.cons (show RelV (V.ref h'.objs.size) (Value.ref h'.objs.size) from rfl) .nil)) (hw _ hp)
end
end Star2

namespace SumT
open PySem PySem.Spec PyProof.Rows L2
variable {X : Cx}
/-- sum(xs) of a tuple of ints -/
def rSumT (K : PySem.W.Frag) : List V → Hp → VK → Prop := fun vs H Q => ∃ (a : Addr) (ns : List Int), vs = [V.ref a] ∧ SqT K H a (ns.map V.int) ∧ Q (.int ns.sum) H
theorem cr_sumT (hc : X.calm = true) : CallR X (.builtin "sum") (rSumT X.K) := by
  intro pins s σ H vs us Q I r h
  obtain ⟨a, ns, rfl, hs, q⟩ := h
  obtain ⟨its, rv, hl, _⟩ := I.tuple hs
  rw [Vals.ref1 r]
  have hi := rv.ints
  obtain ⟨xs, e⟩ := hi.allInts.items
  have hn : numsOf (intItems xs).toList = ns := by rw [← e]; exact hi.numsOf
  rw [nums_intItems] at hn
  have ht : s.heap.IsTuple a (intItems xs) := by rw [← e]; exact hl
  refine PySem.W.ktm_sumG (I.ok.hd hc) ht fun h' tk t' hk => ?_
  rw [preSum_eq, List.take_of_length_le (by simp), hn]
  exact ⟨.int _, H, I.kept hk, ⟨_, rfl⟩, q⟩
end SumT

namespace Tw
open PySem PySem.Spec PyProof.Rows L2
/-! what the laws' helpers do to the heap: the draws at d shrink, all else stands -/
def DrA (H : Hp) (d : Addr) : Prop := ∃ ns : List Int, H d = some (.lst (ns.map V.int))
structure Dr (d : Addr) (H H' : Hp) : Prop where
  keep : ∀ b o, b ≠ d → H b = some o → H' b = some o
  at_ : DrA H' d
theorem Dr.refl {d : Addr} {H : Hp} (h : DrA H d) : Dr d H H := ⟨fun _ _ _ e => e, h⟩
theorem Dr.trans {d : Addr} {H H1 H2 : Hp} (a : Dr d H H1) (b : Dr d H1 H2) : Dr d H H2 := ⟨fun c o n e => b.keep c o n (a.keep c o n e), b.at_⟩
theorem Dr.then {d : Addr} {H H1 H2 : Hp} (a : Dr d H H1) (b : Same H1 H2) : Dr d H H2 := ⟨fun c o n e => b c o (a.keep c o n e), let ⟨ns, q⟩ := a.at_; ⟨ns, b d _ q⟩⟩
theorem Dr.of {d : Addr} {H H1 : Hp} (h : DrA H d) (b : Same H H1) : Dr d H H1 := (Dr.refl h).then b
theorem Dr.free {d : Addr} {H H' : Hp} (a : Dr d H H') (h : DrA H d) {l : Addr} (n : H' l = none) : H l = none := by
  cases q : H l with
  | none => rfl
  | some o =>
    by_cases e : l = d
    · obtain ⟨_, z⟩ := a.at_
      rw [e, z] at n
      cases n
    · rw [a.keep l o e q] at n
      cases n
theorem Dr.ne {d : Addr} {H H' : Hp} (a : Dr d H H') {l : Addr} (n : H' l = none) : l ≠ d := fun e => by
  obtain ⟨_, z⟩ := a.at_
  rw [e, z] at n
  cases n
theorem Dr.seq {K : PySem.W.Frag} {d a : Addr} {H H' : Hp} {xs : List V} (r : Dr d H H') (ne : a ≠ d) (h : SqL K H a xs) : SqL K H' a xs := by
  rcases h with (h | ⟨o, h⟩) | h
  · exact .inl (.inl (r.keep _ _ ne h))
  · exact .inl (.inr ⟨o, r.keep _ _ ne h⟩)
  · exact .inr h
theorem same_new {H : Hp} {p : Addr} {o : HO} (h : H p = none) : Same H (upd H p o) := fun b x e => by
  rw [upd_ne (ne_of_none e h)]
  exact e
theorem drA_upd {H : Hp} {d : Addr} (ns : List Int) : DrA (upd H d (.lst (ns.map V.int))) d := ⟨ns, upd_same⟩
theorem dr_upd {H : Hp} {d : Addr} (ns : List Int) : Dr d H (upd H d (.lst (ns.map V.int))) := ⟨fun b o n e => by rw [upd_ne n]; exact e, drA_upd ns⟩
theorem at_last {α : Type} {xs : List α} (h : xs ≠ []) : xs[xs.length - 1]? = some (xs.getLast h) := by
  rw [← List.getLast?_eq_getElem?, List.getLast?_eq_getLast h]
theorem map_at {ns : List Int} {i : Nat} (h : i < ns.length) : (ns.map V.int)[i]? = some (.int ns[i]) := by
  rw [List.getElem?_map, List.getElem?_eq_getElem h]
  rfl
theorem sline : (2000 : Nat) < sizeLine := by decide
theorem small {n : Nat} (h : n ≤ 2000) : n < sizeLine := Nat.lt_of_le_of_lt h sline
theorem small' {n : Nat} (h : n ≤ 2000) : n ≤ sizeLine := Nat.le_of_lt (small h)
theorem atI_z {α : Type} {xs : List α} {z : Int} {j : Nat} {v : α} (e : z = (j : Int)) (h : xs[j]? = some v) : atI xs z = some v := by
  rw [e]
  exact atI_nat h
theorem atI_pos {α : Type} {xs : List α} {z : Int} (h0 : 0 ≤ z) (h1 : z < xs.length) : atI xs z = some (xs[z.toNat]'(by omega)) :=
  atI_z (j := z.toNat) (by omega) (List.getElem?_eq_getElem (by omega))
theorem atM_pos {ns : List Int} {z : Int} (h0 : 0 ≤ z) (h1 : z < ns.length) : atI (ns.map V.int) z = some (.int (ns[z.toNat]'(by omega))) :=
  atI_z (j := z.toNat) (by omega) (map_at (by omega))
/-- an address that was not there at the beginning may be written -/
theorem Dr.keepNew {d p : Addr} {H H' : Hp} {o : HO} (r : Dr d H H') (ne : p ≠ d) (n : H p = none) : Dr d H (upd H' p o) :=
  ⟨fun b x nb e => by rw [upd_ne (ne_of_none e n)]; exact r.keep b x nb e, let ⟨ns, z⟩ := r.at_; ⟨ns, by rw [upd_ne ne.symm]; exact z⟩⟩
/-- the script is read behind every draw -/
theorem Dr.script {K : PySem.W.Frag} {d a : Addr} {H H1 H' : Hp} {xs : List V} (h : SqL K H a xs) (n : H d = none) (s : Same H H1) (r : Dr d H1 H') : SqL K H' a xs := by
  rcases h with (h | ⟨o, h⟩) | h
  · exact .inl (.inl (r.keep _ _ (ne_of_none h n) (s _ _ h)))
  · exact .inl (.inr ⟨o, r.keep _ _ (ne_of_none h n) (s _ _ h)⟩)
  · exact .inr h
theorem same_keep {H H' : Hp} {p : Addr} {o : HO} (s : Same H H') (n : H p = none) : Same H (upd H' p o) := fun b x e => by
  rw [upd_ne (ne_of_none e n)]
  exact s b x e

/-! readings, aggregates and their values -/
theorem pickT {xs : List V} {k : Int} (h0 : 0 ≤ k) (h1 : k < xs.length) : ∃ v, v ∈ xs ∧ atI xs k = some v :=
  ⟨_, List.getElem_mem _, atI_pos h0 h1⟩
theorem pickI {xs : List Int} {vs : List V} {k : Int} (e : vs = xs.map V.int) (h0 : 0 ≤ k) (h1 : k < xs.length) : ∃ v, v ∈ xs ∧ atI vs k = some (.int v) := by
  rw [e]
  exact ⟨_, List.getElem_mem _, atM_pos h0 h1⟩
theorem int_at {xs : List Int} {i : Nat} {x : V} (h : (xs.map V.int)[i]? = some x) : ∃ k, xs[i]? = some k ∧ x = .int k := by
  rw [List.getElem?_map] at h
  obtain ⟨a, e1, e2⟩ := Option.map_eq_some_iff.mp h
  exact ⟨a, e1, e2.symm⟩
theorem filt_snoc {xs : List Int} {i : Nat} {k : Int} (f : Int → Bool) (h : xs[i]? = some k) : (xs.take (i + 1)).filter f = (xs.take i).filter f ++ (if f k = true then [k] else []) := by
  rw [List.take_add_one, h, List.filter_append]
  congr 1
  show List.filter _ [k] = _
  rw [List.filter_cons, List.filter_nil]
theorem Dr.tupA {d t : Addr} {H H' : Hp} {xs : List V} (r : Dr d H H') (hd : DrA H d) (h : H t = some (.tup xs)) : H' t = some (.tup xs) := by
  refine r.keep _ _ (fun z => ?_) h
  obtain ⟨ns, hn⟩ := hd
  rw [z, hn] at h
  cases h
inductive Ag where
  | count | sum | among (a b : Int) | rank (p q : Int)
def Ag.vals : Ag → List V
  | .count => [.str "count"]
  | .sum => [.str "sum"]
  | .among a b => [.str "among", .int a, .int b]
  | .rank p q => [.str "rank", .int p, .int q]
def AgAt (H : Hp) (a : Addr) (g : Ag) : Prop := H a = some (.tup g.vals)
def Ag.Ok : Ag → Prop
  | .rank p q => 0 ≤ p ∧ p ≤ q ∧ 1 ≤ q ∧ q ≤ 1000
  | _ => True
def within (a b : Int) (x : Int) : Bool := decide (a ≤ x) && decide (x ≤ b)
def idxOf (n : Nat) (p q : Int) : Int := ((n : Int) - 1) * p / q
def rankOf (p q : Int) (xs : List Int) : V := if xs = [] then .non else match atI (xs.map V.int) (idxOf xs.length p q) with
  | some v => v
  | none => .non
def valOf : Ag → List Int → V
  | .count, xs => .int (xs.length : Nat)
  | .sum, xs => .int xs.sum
  | .among a b, xs => .int ((xs.filter (within a b)).length : Nat)
  | .rank p q, xs => rankOf p q xs
theorem idx_ok {n : Nat} {p q : Int} (hn : 0 < n) (h0 : 0 ≤ p) (h1 : p ≤ q) (h2 : 1 ≤ q) : 0 ≤ idxOf n p q ∧ idxOf n p q < n := by
  unfold idxOf
  have a : 0 ≤ ((n : Int) - 1) * p := Int.mul_nonneg (by omega) h0
  have b : ((n : Int) - 1) * p ≤ ((n : Int) - 1) * q := Int.mul_le_mul_of_nonneg_left h1 (by omega)
  have c : ((n : Int) - 1) * p / q ≤ (n : Int) - 1 := by
    have e := Int.ediv_le_ediv (c := q) (by omega) b
    rw [Int.mul_ediv_cancel _ (by omega)] at e
    exact e
  have e := Int.ediv_nonneg a (b := q) (by omega)
  omega
theorem rank_at {xs : List Int} {p q : Int} (hn : xs ≠ []) (h0 : 0 ≤ p) (h1 : p ≤ q) (h2 : 1 ≤ q) : ∃ k, k ∈ xs ∧ atI (xs.map V.int) (idxOf xs.length p q) = some (.int k) ∧ valOf (.rank p q) xs = .int k := by
  have hl : 0 < xs.length := List.length_pos_iff.mpr hn
  obtain ⟨a, b⟩ := idx_ok (n := xs.length) hl h0 h1 h2
  obtain ⟨k, hk, e⟩ := pickI (xs := xs) rfl a b
  refine ⟨k, hk, e, ?_⟩
  show rankOf p q xs = _
  unfold rankOf
  rw [if_neg hn, e]
theorem rank_nil (p q : Int) : valOf (.rank p q) [] = .non := by
  show rankOf p q [] = _
  unfold rankOf
  rw [if_pos rfl]
theorem valOf_is {g : Ag} {xs : List Int} (ok : g.Ok) : valOf g xs = .non ∨ ∃ k, valOf g xs = .int k := by
  cases g with
  | count => exact .inr ⟨_, rfl⟩
  | sum => exact .inr ⟨_, rfl⟩
  | among a b => exact .inr ⟨_, rfl⟩
  | rank p q =>
    by_cases hn : xs = []
    · rw [hn]
      exact .inl (rank_nil p q)
    · obtain ⟨h0, h1, h2, _⟩ := ok
      obtain ⟨k, _, _, e⟩ := rank_at hn h0 h1 h2
      exact .inr ⟨k, e⟩
theorem sum_snoc {xs : List Int} {i : Nat} {k : Int} (h : xs[i]? = some k) : (xs.take (i + 1)).sum = (xs.take i).sum + k := by
  rw [List.take_add_one, h, List.sum_append]
  show _ + ([k] : List Int).sum = _
  rw [List.sum_cons, List.sum_nil, Int.add_zero]

/-! places in ascending rows of ints -/
theorem sorted_at {xs : List Int} (h : xs.Pairwise (· ≤ ·)) {i j : Nat} {a b : Int} (hi : xs[i]? = some a) (hj : xs[j]? = some b) (l : i ≤ j) : a ≤ b := by
  obtain ⟨p, rfl⟩ := List.getElem?_eq_some_iff.mp hi
  obtain ⟨q, rfl⟩ := List.getElem?_eq_some_iff.mp hj
  rcases Nat.lt_or_eq_of_le l with z | z
  · exact List.pairwise_iff_getElem.mp h i j p q z
  · subst z
    exact Int.le_refl _
/-- downward closed -/
def Down (f : Int → Bool) : Prop := ∀ x y, x ≤ y → f y = true → f x = true
theorem down_at {xs : List Int} (h : xs.Pairwise (· ≤ ·)) {f : Int → Bool} (df : Down f) {t : Nat} {a : Int} (ht : xs[t]? = some a) : f a = true ↔ t < (xs.filter f).length := by
  have il := (List.getElem?_eq_some_iff.mp ht).1
  have e : xs.filter f = (xs.take t).filter f ++ (xs.drop t).filter f := by
    rw [← List.filter_append, List.take_append_drop]
  constructor
  · intro fa
    have e1 : (xs.take (t + 1)).filter f = xs.take (t + 1) := List.filter_eq_self.mpr fun x hx => by
      obtain ⟨j, hj⟩ := List.getElem?_of_mem hx
      have jl : j < t + 1 := by
        have := (List.getElem?_eq_some_iff.mp hj).1
        rw [List.length_take] at this
        omega
      rw [List.getElem?_take, if_pos jl] at hj
      exact df x a (sorted_at h hj ht (by omega)) fa
    have e2 : xs.filter f = (xs.take (t + 1)).filter f ++ (xs.drop (t + 1)).filter f := by
      rw [← List.filter_append, List.take_append_drop]
    rw [e2, e1, List.length_append, List.length_take]
    omega
  · intro lt
    by_cases fa : f a = true
    · exact fa
    · have e1 : (xs.drop t).filter f = [] := List.filter_eq_nil_iff.mpr fun x hx fx => by
        obtain ⟨j, hj⟩ := List.getElem?_of_mem hx
        rw [List.getElem?_drop] at hj
        exact fa (df a x (sorted_at h ht hj (by omega)) fx)
      rw [e, e1, List.append_nil] at lt
      have l2 := List.length_filter_le f (xs.take t)
      rw [List.length_take] at l2
      omega
def ltB (v x : Int) : Bool := decide (x < v)
def leB (v x : Int) : Bool := decide (x ≤ v)
theorem down_lt (v : Int) : Down (ltB v) := fun x y a b => decide_eq_true (by have := of_decide_eq_true b; omega)
theorem down_le (v : Int) : Down (leB v) := fun x y a b => decide_eq_true (by have := of_decide_eq_true b; omega)
theorem at_lt {xs : List Int} (h : xs.Pairwise (· ≤ ·)) {t : Nat} {a v : Int} (ht : xs[t]? = some a) : a < v ↔ t < (xs.filter (ltB v)).length := by
  rw [← down_at h (down_lt v) ht]
  exact ⟨fun z => decide_eq_true z, fun z => of_decide_eq_true z⟩
theorem at_le {xs : List Int} (h : xs.Pairwise (· ≤ ·)) {t : Nat} {a v : Int} (ht : xs[t]? = some a) : a ≤ v ↔ t < (xs.filter (leB v)).length := by
  rw [← down_at h (down_le v) ht]
  exact ⟨fun z => decide_eq_true z, fun z => of_decide_eq_true z⟩
theorem perm_cnt {xs ys : List Int} (h : ys.Perm xs) (f : Int → Bool) : (ys.filter f).length = (xs.filter f).length := (h.filter f).length_eq
theorem perm_sum {xs ys : List Int} (h : ys.Perm xs) : ys.sum = xs.sum := by
  induction h with
  | nil => rfl
  | cons x _ ih => rw [List.sum_cons, List.sum_cons, ih]
  | swap x y l => rw [List.sum_cons, List.sum_cons, List.sum_cons, List.sum_cons]; omega
  | trans _ _ a b => exact a.trans b
theorem cnt_more {xs : List Int} {m : Int} (f : Int → Bool) : ((xs ++ [m]).filter f).length = (xs.filter f).length + (if f m = true then 1 else 0) := by
  rw [List.filter_append, List.length_append]
  congr 1
  rw [List.filter_cons, List.filter_nil]
  split <;> rfl
theorem ediv_le_iff {a b q : Int} (h : 0 < q) : a ≤ b / q ↔ a * q ≤ b := Int.le_ediv_iff_mul_le h
theorem idx_mono {n : Nat} {p q r s : Int} (hn : 0 < n) (hq : 0 < q) (hs : 0 < s) (h : p * s ≤ r * q) : idxOf n p q ≤ idxOf n r s := by
  unfold idxOf
  have a1 : ((n : Int) - 1) * p / q * q ≤ ((n : Int) - 1) * p := (ediv_le_iff hq).mp (Int.le_refl _)
  generalize ((n : Int) - 1) * p / q = x at a1
  refine (ediv_le_iff hs).mpr ?_
  have b1 : x * q * s ≤ ((n : Int) - 1) * p * s := Int.mul_le_mul_of_nonneg_right a1 (by omega)
  have b2 : ((n : Int) - 1) * (p * s) ≤ ((n : Int) - 1) * (r * q) := Int.mul_le_mul_of_nonneg_left h (by omega)
  have b3 : x * s * q ≤ ((n : Int) - 1) * r * q := by
    calc x * s * q = x * q * s := by rw [Int.mul_assoc, Int.mul_comm s q, ← Int.mul_assoc]
      _ ≤ ((n : Int) - 1) * p * s := b1
      _ = ((n : Int) - 1) * (p * s) := Int.mul_assoc _ _ _
      _ ≤ ((n : Int) - 1) * (r * q) := b2
      _ = ((n : Int) - 1) * r * q := (Int.mul_assoc _ _ _).symm
  exact Int.le_of_mul_le_mul_right b3 hq
/-- one reading more: the place stays, or is the next one -/
theorem idx_next {n : Nat} {p q : Int} (hn : 0 < n) (h0 : 0 ≤ p) (h1 : p ≤ q) (h2 : 1 ≤ q) : idxOf n p q ≤ idxOf (n + 1) p q ∧ idxOf (n + 1) p q ≤ idxOf n p q + 1 := by
  unfold idxOf
  have e : (((n + 1 : Nat) : Int) - 1) * p = ((n : Int) - 1) * p + p := by
    rw [show (((n + 1 : Nat) : Int) - 1) = ((n : Int) - 1) + 1 by omega, Int.add_mul, Int.one_mul]
  rw [e]
  constructor
  · exact Int.ediv_le_ediv (by omega) (by omega)
  · have a : (((n : Int) - 1) * p + p) / q ≤ (((n : Int) - 1) * p + 1 * q) / q := Int.ediv_le_ediv (by omega) (by omega)
    rw [Int.add_mul_ediv_right _ _ (by omega)] at a
    exact a
theorem idx_zero {n : Nat} {q : Int} : idxOf n 0 q = 0 := by
  unfold idxOf
  rw [Int.mul_zero, Int.zero_ediv]
theorem idx_all {n : Nat} {q : Int} (h : 1 ≤ q) : idxOf n q q = (n : Int) - 1 := by
  unfold idxOf
  exact Int.mul_ediv_cancel _ (by omega)
/-- the rank of a row that is not empty: its place -/
theorem rank_place {xs : List Int} {p q : Int} (hn : xs ≠ []) (h0 : 0 ≤ p) (h1 : p ≤ q) (h2 : 1 ≤ q) : ∃ (i : Nat) (k : Int), idxOf xs.length p q = (i : Int) ∧ i < xs.length ∧ xs[i]? = some k ∧ valOf (.rank p q) xs = .int k := by
  have hl : 0 < xs.length := List.length_pos_iff.mpr hn
  obtain ⟨a, b⟩ := idx_ok (n := xs.length) hl h0 h1 h2
  refine ⟨(idxOf xs.length p q).toNat, xs[(idxOf xs.length p q).toNat]'(by omega), by omega, by omega, List.getElem?_eq_getElem (by omega), ?_⟩
  show rankOf p q xs = _
  unfold rankOf
  rw [if_neg hn, atM_pos a b]
theorem flat_ints (ns : List Int) : (ns.map V.int).all flatV = true := by
  rw [List.all_map, List.all_eq_true]
  exact fun _ _ => rfl
theorem in_ints {x : Int} : ∀ ns : List Int, inV (.int x) (ns.map V.int) = decide (x ∈ ns)
  | [] => by simp [inV]
  | n :: ns => by
    have ih := in_ints (x := x) ns
    unfold inV at ih ⊢
    rw [List.map_cons, List.any_cons, ih]
    by_cases e : n = x
    · subst e
      simp [eqV]
    · have e1 : eqV (.int n) (.int x) = false := beq_eq_false_iff_ne.mpr e
      have e2 : ¬ x = n := fun z => e z.symm
      rw [e1, Bool.false_or, decide_eq_decide]
      simp [List.mem_cons, e2]

def topS (i : Nat) : Stmt := PySem.Challenge.pw_toldwhensure_k19_ranks_between_the_ends.main.body.getD i (.Pass ⟨0, 0, 0, 0⟩)
abbrev s_value_of : Stmt := topS 1
theorem sc_value_of : FnScope ["aggregate", "values", "kind", "numbers", "low", "high", "part", "whole", "value"] ["aggregate", "values"] (defScope s_value_of) := ⟨rfl, rfl, rfl, by decide +kernel, rfl, by decide +kernel, by decide +kernel⟩
abbrev s_l_draws : Stmt := topS 3
theorem sc_l_draws : FnScope ["script", "many", "cells", "rest", "draws", "k", "at", "once", "cell"] ["script", "many"] (defScope s_l_draws) := ⟨rfl, rfl, rfl, by decide +kernel, rfl, by decide +kernel, by decide +kernel⟩
abbrev s_l_take : Stmt := topS 4
theorem sc_l_take : FnScope ["draws", "many"] ["draws", "many"] (defScope s_l_take) := ⟨rfl, rfl, rfl, by decide +kernel, rfl, by decide +kernel, by decide +kernel⟩
abbrev s_l_cell : Stmt := topS 5
theorem sc_l_cell : FnScope ["script", "draws"] ["script", "draws"] (defScope s_l_cell) := ⟨rfl, rfl, rfl, by decide +kernel, rfl, by decide +kernel, by decide +kernel⟩
abbrev s_l_values : Stmt := topS 6
theorem sc_l_values : FnScope ["draws", "cell", "many", "found", "k"] ["draws", "cell"] (defScope s_l_values) := ⟨rfl, rfl, rfl, by decide +kernel, rfl, by decide +kernel, by decide +kernel⟩
abbrev s_l_rank : Stmt := topS 7
theorem sc_l_rank : FnScope ["draws", "q"] ["draws"] (defScope s_l_rank) := ⟨rfl, rfl, rfl, by decide +kernel, rfl, by decide +kernel, by decide +kernel⟩
abbrev s_l_between : Stmt := topS 8
theorem sc_l_between : FnScope ["rank", "values", "found", "index", "less", "value"] ["rank", "values"] (defScope s_l_between) := ⟨rfl, rfl, rfl, by decide +kernel, rfl, by decide +kernel, by decide +kernel⟩
abbrev s_l_ordered : Stmt := topS 9
theorem sc_l_ordered : FnScope ["one", "two", "values", "first", "second"] ["one", "two", "values"] (defScope s_l_ordered) := ⟨rfl, rfl, rfl, by decide +kernel, rfl, by decide +kernel, by decide +kernel⟩
abbrev s_l_moved : Stmt := topS 10
theorem sc_l_moved : FnScope ["rank", "values", "more", "longer", "old", "new", "index", "low", "high"] ["rank", "values", "more"] (defScope s_l_moved) := ⟨rfl, rfl, rfl, by decide +kernel, rfl, by decide +kernel, by decide +kernel⟩
abbrev s_law : Stmt := topS 11
theorem sc_law : FnScope ["script", "draws", "cell", "values", "one", "two", "times", "value", "more"] ["script"] (defScope s_law) := ⟨rfl, rfl, rfl, by decide +kernel, rfl, by decide +kernel, by decide +kernel⟩
/-- what the top has left: where each def stands; the built-ins' names are not taken -/
structure Ctx (K : PySem.W.Frag) (mg : Str → Option Value) where
  f_value_of : Addr
  fd_value_of : FuncData
  F_value_of : Fun K "value_of" "value_of" s_value_of f_value_of fd_value_of
  b_value_of : Binds K fd_value_of ["aggregate", "values"] []
  g_value_of : mg "value_of" = some (.ref f_value_of)
  f_l_draws : Addr
  fd_l_draws : FuncData
  F_l_draws : Fun K "_law_draws" "_law_draws" s_l_draws f_l_draws fd_l_draws
  b_l_draws : Binds K fd_l_draws ["script", "many"] []
  g_l_draws : mg "_law_draws" = some (.ref f_l_draws)
  f_l_take : Addr
  fd_l_take : FuncData
  F_l_take : Fun K "_law_take" "_law_take" s_l_take f_l_take fd_l_take
  b_l_take : Binds K fd_l_take ["draws", "many"] []
  g_l_take : mg "_law_take" = some (.ref f_l_take)
  f_l_cell : Addr
  fd_l_cell : FuncData
  F_l_cell : Fun K "_law_cell" "_law_cell" s_l_cell f_l_cell fd_l_cell
  b_l_cell : Binds K fd_l_cell ["script", "draws"] []
  g_l_cell : mg "_law_cell" = some (.ref f_l_cell)
  f_l_values : Addr
  fd_l_values : FuncData
  F_l_values : Fun K "_law_values" "_law_values" s_l_values f_l_values fd_l_values
  b_l_values : Binds K fd_l_values ["draws", "cell"] []
  g_l_values : mg "_law_values" = some (.ref f_l_values)
  f_l_rank : Addr
  fd_l_rank : FuncData
  F_l_rank : Fun K "_law_rank" "_law_rank" s_l_rank f_l_rank fd_l_rank
  b_l_rank : Binds K fd_l_rank ["draws"] []
  g_l_rank : mg "_law_rank" = some (.ref f_l_rank)
  f_l_between : Addr
  fd_l_between : FuncData
  F_l_between : Fun K "_law_between" "_law_between" s_l_between f_l_between fd_l_between
  b_l_between : Binds K fd_l_between ["rank", "values"] []
  g_l_between : mg "_law_between" = some (.ref f_l_between)
  f_l_ordered : Addr
  fd_l_ordered : FuncData
  F_l_ordered : Fun K "_law_ordered" "_law_ordered" s_l_ordered f_l_ordered fd_l_ordered
  b_l_ordered : Binds K fd_l_ordered ["one", "two", "values"] []
  g_l_ordered : mg "_law_ordered" = some (.ref f_l_ordered)
  f_l_moved : Addr
  fd_l_moved : FuncData
  F_l_moved : Fun K "_law_moved" "_law_moved" s_l_moved f_l_moved fd_l_moved
  b_l_moved : Binds K fd_l_moved ["rank", "values", "more"] []
  g_l_moved : mg "_law_moved" = some (.ref f_l_moved)
  f_law : Addr
  fd_law : FuncData
  F_law : Fun K "law" "law" s_law f_law fd_law
  b_law : Binds K fd_law ["script"] []
  g_law : mg "law" = some (.ref f_law)
  m_int : mg "int" = none
  m_len : mg "len" = none
  m_list : mg "list" = none
  m_max : mg "max" = none
  m_min : mg "min" = none
  m_range : mg "range" = none
  m_sorted : mg "sorted" = none
  m_sum : mg "sum" = none
  m_tuple : mg "tuple" = none
def sp_value_of (K : PySem.W.Frag) : Sp := fun vs H Q _ => ∃ (a v : Addr) (g : Ag) (xs : List Int), vs = [.ref a, .ref v] ∧ AgAt H a g ∧ H v = some (.tup (xs.map V.int)) ∧ xs.length ≤ 1000 ∧ g.Ok ∧ ∀ H', Same H H' → Q (valOf g xs) H'
section
variable {P : Program} {w : World} {K : PySem.W.Frag} {mg : Str → Option Value} {base : Heap}
theorem ok_value_of (T : Ctx K mg) : FnOk P w K mg base CX0 1 T.f_value_of T.fd_value_of ["aggregate", "values"] (sp_value_of K) := by
  refine T.F_value_of.ok sc_value_of (fun vs H Q E h => ?_) (fun cdv A outer s H vs Q E hr h => ?_)
  · obtain ⟨a, v, g, xs, rfl, _⟩ := h
    rfl
  · obtain ⟨a, v, g, xs, rfl, ha, hv, few, ok, q⟩ := h
    refine ⟨_, (pss_cons (ps_asg (pv 0) (Star2.pg_star (i := 1) rfl (pgs_cons (pg_name (i := 2) sc_value_of.nd rfl (Or.inl rfl)) (Star2.pgs_star (pg_name (i := 3) sc_value_of.nd rfl (Or.inl rfl))))))
      (pss_cons (ps_if (pt_cmpR op_eq (pv 2) pe_str (nomark _))
        (pss_one (ps_ret (pe_callB call_len_seq (by rfl) T.m_len (by decide +kernel) (pa_cons (pv 1) pa_nil))))
        pss_nil)
      (pss_cons (ps_if (pt_cmpR op_eq (pv 2) pe_str (nomark _))
        (pss_cons (ps_asg (pv 3) (pg_lst (by rfl) (pgs_cons (pg_name (i := 4) sc_value_of.nd rfl (Or.inr rfl)) (pgs_cons (pg_name (i := 5) sc_value_of.nd rfl (Or.inr rfl)) pgs_nil))))
      (pss_one (ps_ret (pe_callB call_len_seq (by rfl) T.m_len (by decide +kernel) (pa_cons (pe_lc (own := [("value", 8)]) (g := gName 8) (by rfl) sc_value_of.nd (pi_tup (pv 1)) (blkOk_by (own := [("value", 8)]) (N := ["aggregate", "values", "kind", "numbers", "low", "high", "part", "whole", "value"]) (sc := defScope s_value_of) (by decide +kernel)) (fun _ _ _ _ _ => pg_name (i := 8) sc_value_of.nd rfl (Or.inl rfl)) (fun _ _ _ _ _ => (pts_one (pt_chain op_le op_le (pv 4) (pv 8) (pv 5)))) (fun _ _ _ _ _ => (pv 8))) pa_nil)))))
        pss_nil)
      (pss_cons (ps_if (pt_cmpR op_eq (pv 2) pe_str (nomark _))
        (pss_one (ps_ret (pe_callB (SumT.cr_sumT rfl) (by rfl) T.m_sum (by decide +kernel) (pa_cons (pv 1) pa_nil))))
        pss_nil)
      (pss_cons (ps_if (pt_cmpR op_eq (pe_callB call_len_seq (by rfl) T.m_len (by decide +kernel) (pa_cons (pv 1) pa_nil)) pe_int (nomark _))
        (pss_one (ps_ret pe_non))
        pss_nil)
      (pss_cons (ps_asg (pv 3) (pg_lst (by rfl) (pgs_cons (pg_name (i := 6) sc_value_of.nd rfl (Or.inl rfl)) (pgs_cons (pg_name (i := 7) sc_value_of.nd rfl (Or.inl rfl)) pgs_nil))))
      (pss_one (ps_ret (pe_ix ix_tup (pv 1) (pe_op op_fdiv (pe_op op_mul (pe_op op_sub (pe_callB call_len_seq (by rfl) T.m_len (by decide +kernel) (pa_cons (pv 1) pa_nil)) pe_int) (pv 6)) (pv 7)) (fun _ _ => rfl)))))))))), ?_⟩
    cases g with
    | count =>
      refine ⟨.ref a, rfl, a, _, rfl, .inl (.inl ha), by decide, fun N nN => ⟨_, _, rfl, _, _, rfl, rfl, .str "count", rfl, rfl, _, rfl, ite2 (fun _ => ?_) (fun e => absurd (decide_eq_true rfl) e)⟩⟩
      have s1 := same_new (o := .lst (List.drop 1 (Ag.vals .count))) nN
      have qq := q _ s1
      refine ⟨.ref v, rfl, v, _, rfl, .inr (.inl (.inl (s1 _ _ hv))), ?_⟩
      rw [List.length_map]
      exact qq
    | among lo hi =>
      refine ⟨.ref a, rfl, a, _, rfl, .inl (.inl ha), by show 1 ≤ 3; omega, fun N nN => ⟨_, _, rfl, _, _, rfl, rfl, .str "among", rfl, rfl, _, rfl, ite2 (fun e => absurd e (by decide +kernel)) (fun _ => ?_)⟩⟩
      have s1 := same_new (o := .lst (List.drop 1 (Ag.vals (.among lo hi)))) nN
      have hN : upd H N (.lst (List.drop 1 (Ag.vals (.among lo hi)))) N = some (.lst [.int lo, .int hi]) := upd_same
      generalize upd H N (.lst (List.drop 1 (Ag.vals (.among lo hi)))) = H1 at s1 hN ⊢
      refine ⟨.str "among", rfl, rfl, _, rfl, ite2 (fun _ => ?_) (fun e => absurd (decide_eq_true rfl) e)⟩
      refine ⟨.ref N, rfl, N, _, rfl, .inl (.inl hN), rfl, _, _, rfl, _, _, rfl, rfl, ?_⟩
      have hv1 := s1 _ _ hv
      refine ⟨.ref v, rfl, v, rfl, ⟨_, .inl (.inl hv1)⟩, fun C nC => lc_tup (K := K) (a := v) (xs := xs.map V.int) (fun i H' => Same H1 H' ∧ H' C = some (.lst (((xs.take i).filter (within lo hi)).map V.int))) ⟨same_new nC, upd_same⟩ (fun i H' _ z => .inl (.inl (z.1 _ _ hv1))) (fun i x H' hx z => ?_) (fun H' z => ?_)⟩
      · obtain ⟨s2, hC⟩ := z
        obtain ⟨k, hk, rfl⟩ := int_at hx
        have il := (List.getElem?_eq_some_iff.mp hk).1
        have fl := filt_snoc (within lo hi) hk
        have l1 : ((xs.take i).filter (within lo hi)).length ≤ i := Nat.le_trans (List.length_filter_le _ _) (by rw [List.length_take]; omega)
        refine ⟨rfl, .int lo, rfl, .int k, rfl, _, _, rfl, rfl, _, rfl, ite2 (fun e1 => ?_) (fun e1 => ?_)⟩
        · have c1 : lo ≤ k := of_decide_eq_true e1
          refine ⟨.int hi, rfl, _, _, rfl, rfl, _, rfl, ite2 (fun e2 => ?_) (fun e2 => ?_)⟩
          · have c2 : k ≤ hi := of_decide_eq_true e2
            have w : within lo hi k = true := by
              show (decide (lo ≤ k) && decide (k ≤ hi)) = true
              rw [e1, e2]; rfl
            rw [if_pos w] at fl
            refine ⟨.int k, rfl, _, hC, by rw [List.length_map]; exact small (by omega), same_keep s2 nC, ?_⟩
            rw [upd_same, fl, List.map_append]
            rfl
          · have w : ¬ within lo hi k = true := fun z => e2 (Bool.and_eq_true_iff.mp z).2
            rw [if_neg w, List.append_nil] at fl
            exact ⟨s2, by rw [fl]; exact hC⟩
        · have w : ¬ within lo hi k = true := fun z => e1 (Bool.and_eq_true_iff.mp z).1
          rw [if_neg w, List.append_nil] at fl
          exact ⟨_, rfl, iteF ⟨s2, by rw [fl]; exact hC⟩⟩
      · obtain ⟨s2, hC⟩ := z
        rw [List.length_map, List.take_length] at hC
        refine ⟨C, _, rfl, .inl (.inl (.inl hC)), ?_⟩
        rw [List.length_map]
        exact q _ (s1.trans s2)
    | sum =>
      refine ⟨.ref a, rfl, a, _, rfl, .inl (.inl ha), by decide, fun N nN => ⟨_, _, rfl, _, _, rfl, rfl, .str "sum", rfl, rfl, _, rfl, ite2 (fun e => absurd e (by decide +kernel)) (fun _ => ?_)⟩⟩
      have s1 := same_new (o := .lst (List.drop 1 (Ag.vals .sum))) nN
      have qq := q _ s1
      refine ⟨.str "sum", rfl, rfl, _, rfl, ite2 (fun e => absurd e (by decide +kernel)) (fun _ => ?_)⟩
      refine ⟨.str "sum", rfl, rfl, _, rfl, ite2 (fun _ => ?_) (fun e => absurd (decide_eq_true rfl) e)⟩
      exact ⟨.ref v, rfl, v, xs, rfl, .inl (.inl (s1 _ _ hv)), qq⟩
    | rank pp qq =>
      refine ⟨.ref a, rfl, a, _, rfl, .inl (.inl ha), by show 1 ≤ 3; omega, fun N nN => ⟨_, _, rfl, _, _, rfl, rfl, .str "rank", rfl, rfl, _, rfl, ite2 (fun e => absurd e (by decide +kernel)) (fun _ => ?_)⟩⟩
      have s1 := same_new (o := .lst (List.drop 1 (Ag.vals (.rank pp qq)))) nN
      have hN : upd H N (.lst (List.drop 1 (Ag.vals (.rank pp qq)))) N = some (.lst [.int pp, .int qq]) := upd_same
      generalize upd H N (.lst (List.drop 1 (Ag.vals (.rank pp qq)))) = H1 at s1 hN ⊢
      have q1 := q _ s1
      have hT : SqT K H1 v (xs.map V.int) := .inl (.inl (s1 _ _ hv))
      refine ⟨.str "rank", rfl, rfl, _, rfl, ite2 (fun e => absurd e (by decide +kernel)) (fun _ => ?_)⟩
      refine ⟨.str "rank", rfl, rfl, _, rfl, ite2 (fun e => absurd e (by decide +kernel)) (fun _ => ?_)⟩
      refine ⟨.ref v, rfl, v, _, rfl, .inr hT, rfl, _, rfl, ite2 (fun e => ?_) (fun e => ?_)⟩
      · have e0 : xs = [] := by
          have z : ((xs.map V.int).length : Int) = 0 := V.int.inj (of_decide_eq_true e)
          rw [List.length_map] at z
          exact List.length_eq_zero_iff.mp (by omega)
        rw [e0, rank_nil] at q1
        exact q1
      · have hn : xs ≠ [] := fun z => by
          subst z
          exact e (decide_eq_true rfl)
        obtain ⟨h0, h1, h2, h3⟩ := ok
        obtain ⟨k, hk, ea, ev⟩ := rank_at hn h0 h1 h2
        rw [ev] at q1
        refine ⟨.ref N, rfl, N, _, rfl, .inl (.inl hN), rfl, _, _, rfl, _, _, rfl, rfl, ?_⟩
        refine ⟨.ref v, rfl, .ref v, rfl, v, _, rfl, .inr hT, _, _, rfl, rfl, .int pp, rfl, _, _, rfl, rfl, .inl ⟨?_, ?_⟩, .int qq, rfl, _, _, rfl, rfl, ?_, v, _, _, _, rfl, rfl, hT, ?_, q1⟩
        · rw [List.length_map]; omega
        · rw [List.length_map]; omega
        · exact ⟨by omega, by omega⟩
        · rw [List.length_map]
          exact ea
end
def sp_l_draws (K : PySem.W.Frag) : Sp := fun vs H Q _ => ∃ (a : Addr) (ns : List Int) (m : Nat), vs = [.ref a, .int (m : Int)] ∧ SqL K H a (ns.map V.int) ∧ ns.length ≤ 1000 ∧ m ≤ 1000 ∧
  ∀ H' d, Same H H' → H d = none → DrA H' d → Q (.ref d) H'
section
variable {P : Program} {w : World} {K : PySem.W.Frag} {mg : Str → Option Value} {base : Heap}
theorem ok_l_draws (T : Ctx K mg) : FnOk P w K mg base CX0 1 T.f_l_draws T.fd_l_draws ["script", "many"] (sp_l_draws K) := by
  refine T.F_l_draws.ok sc_l_draws (fun vs H Q E h => ?_) (fun cdv A outer s H vs Q E hr h => ?_)
  · obtain ⟨a, ns, m, rfl, _⟩ := h
    rfl
  · obtain ⟨a, ns, m, rfl, hS, hlen, hm, q⟩ := h
    refine ⟨_, (pss_cons (ps_setLc (i := 2) (own := [("cell", 8)]) (g := gName 8) (by rfl) sc_l_draws.nd rfl rfl (sw_true rfl rfl rfl (by decide +kernel)) (pi_list (pv 0)) (blkOk_by (own := [("cell", 8)]) (N := ["script", "many", "cells", "rest", "draws", "k", "at", "once", "cell"]) (sc := defScope s_l_draws) (by decide +kernel)) (fun _ _ _ _ _ => pg_name (i := 8) sc_l_draws.nd rfl (Or.inl rfl)) (fun _ _ _ _ _ => pts_nil) (fun _ _ _ _ _ => (pe_callTy call_int1 (by rfl) T.m_int (by decide +kernel) (pa_cons (pv 8) pa_nil))))
      (pss_cons (ps_if (pt_cmpR op_eq (pe_callB call_len_seq (by rfl) T.m_len (by decide +kernel) (pa_cons (pv 2) pa_nil)) pe_int (nomark _))
        (pss_one (ps_expr (pe_bm PySem.F.plainAttrs_list PySem.F.slot_list_append PySem.F.type_list_append mt_append (pv 2) (pa_cons pe_int pa_nil))))
        pss_nil)
      (pss_cons (ps_set (i := 3) sc_l_draws.nd rfl (.inl rfl) (pe_callTy call_list_of (by rfl) T.m_list (by decide +kernel) (pa_cons (pv 2) pa_nil)))
      (pss_cons (ps_set (i := 4) sc_l_draws.nd rfl (.inl rfl) (pe_lst pa_nil))
      (pss_cons (ps_for PassesOwn.never rfl (pi_range1 (by rfl) T.m_range (pa_cons (pv 1) pa_nil)) (pg_name (i := 5) sc_l_draws.nd rfl (.inl rfl))
        (pss_cons (ps_set (i := 6) sc_l_draws.nd rfl (.inl rfl) (pe_op op_mod (pv 5) (pe_callB call_len_seq (by rfl) T.m_len (by decide +kernel) (pa_cons (pv 2) pa_nil))))
      (pss_one (ps_if (pt_cmpR op_ge (pe_ix ix_list (pv 2) (pv 6) (fun _ _ => rfl)) (pe_op op_pow pe_int pe_int) (nomark _))
        (pss_cons (ps_expr (pe_bm PySem.F.plainAttrs_list PySem.F.slot_list_append PySem.F.type_list_append mt_append (pv 4) (pa_cons (pe_op op_mod (pe_callTy call_int1 (by rfl) T.m_int (by decide +kernel) (pa_cons (pe_ix ix_list (pv 3) (pv 6) (fun _ _ => rfl)) pa_nil)) pe_int) pa_nil)))
      (pss_one (ps_asg (pe_op op_fdiv (pe_ix ix_list (pv 3) (pv 6) (fun _ _ => rfl)) pe_int) (pg_sub (pv 3) (pv 6) set_list))))
        (pss_cons (ps_set (i := 7) sc_l_draws.nd rfl (.inl rfl) (pe_op op_mod (pe_callTy call_int1 (by rfl) T.m_int (by decide +kernel) (pa_cons (pe_op op_add (pe_op op_add (pe_op op_mul (pe_ix ix_list (pv 2) (pv 6) (fun _ _ => rfl)) pe_int) (pe_op op_mul (pv 5) pe_int)) pe_int) pa_nil)) pe_int))
      (pss_one (ps_expr (pe_bm PySem.F.plainAttrs_list PySem.F.slot_list_append PySem.F.type_list_append mt_append (pv 4) (pa_cons (pe_op op_mod (pe_callTy call_int1 (by rfl) T.m_int (by decide +kernel) (pa_cons (pe_op op_add (pe_op op_add (pe_op op_mul (pv 7) (pv 7)) (pe_op op_mul pe_int (pv 7))) (pv 5)) pa_nil)) pe_int) pa_nil)))))))))
      (pss_cons (ps_expr (pe_bm0 PySem.F.plainAttrs_list PySem.F.slot_list_reverse PySem.F.type_list_reverse mt_reverse (pv 4)))
      (pss_one (ps_ret (pv 4))))))))), ?_⟩
    -- cells = [int(cell) for cell in script]
    refine ⟨.ref a, rfl, a, rfl, ⟨_, hS⟩, fun C hC => lc_list (K := K) (a := a) (xs := ns.map V.int) (fun i H1 => Same H H1 ∧ H1 C = some (.lst ((ns.take i).map V.int))) ⟨same_new hC, upd_same⟩ (fun i H1 _ p => p.1.seq hS) (fun i x H1 hx p => ?_) (fun H1 p => ?_)⟩
    · obtain ⟨hlt, hx'⟩ := List.getElem?_eq_some_iff.mp hx
      rw [List.length_map] at hlt
      have ex : x = .int ns[i] := by
        rw [← hx', List.getElem_map]
      subst ex
      refine ⟨rfl, _, rfl, .inl ⟨_, rfl, _, p.2, ?_, ?_, ?_⟩⟩
      · rw [List.length_map, List.length_take]
        exact small (by omega)
      · exact fun b o e => by
          rw [upd_ne (ne_of_none e hC)]
          exact p.1 b o e
      · rw [upd_same, List.take_add_one, List.getElem?_eq_getElem hlt, List.map_append]
        rfl
    · rw [List.length_map, List.take_length] at p
      obtain ⟨s1, hc⟩ := p
      refine ⟨.ref C, rfl, C, _, rfl, .inl (.inl (.inl hc)), rfl, _, rfl, ite2 (fun e => ?c1) (fun e => ?c2)⟩
      case' c1 =>
        have e0 : ns = [] := by
          have z : ((ns.map V.int).length : Int) = 0 := V.int.inj (of_decide_eq_true e)
          rw [List.length_map] at z
          exact List.length_eq_zero_iff.mp (by omega)
        subst e0
        refine ⟨.ref C, rfl, .inl ⟨rfl, _, .inl (.inl hc)⟩, C, _, _, rfl, rfl, hc, small (by decide), ?_⟩
        obtain ⟨H2, cs, hH, hcs, hcl, s2, hc2⟩ : ∃ (H2 : Hp) (cs : List Int), H2 = upd H1 C (.lst (List.map V.int [] ++ [.int 0])) ∧ cs ≠ [] ∧ cs.length ≤ 1000 ∧ Same H H2 ∧ H2 C = some (.lst (cs.map V.int)) :=
          ⟨_, [0], rfl, by simp, by decide, fun b o e => by rw [upd_ne (ne_of_none e hC)]; exact s1 b o e, upd_same⟩
        rw [← hH]
      case' c2 =>
        obtain ⟨H2, cs, hH, hcs, hcl, s2, hc2⟩ : ∃ (H2 : Hp) (cs : List Int), H2 = H1 ∧ cs ≠ [] ∧ cs.length ≤ 1000 ∧ Same H H2 ∧ H2 C = some (.lst (cs.map V.int)) :=
          ⟨H1, ns, rfl, fun z => by subst z; exact e (decide_eq_true rfl), hlen, s1, hc⟩
        rw [← hH]
      all_goals (
        have hcl0 : 0 < cs.length := by cases cs with | nil => exact absurd rfl hcs | cons x r => exact Nat.succ_pos _
        refine ⟨.ref C, rfl, C, _, rfl, .inl (.inl (.inl hc2)), fun r nr => ⟨Nat.zero_le _, fun D nD => ⟨.int m, rfl, m, rfl, by omega, by omega, ?_⟩⟩⟩
        have nrC : C ≠ r := ne_of_none hc2 nr
        have nDr : D ≠ r := fun e => by rw [e, upd_same] at nD; cases nD
        have nDC : C ≠ D := fun e => by rw [← e, upd_ne nrC, hc2] at nD; cases nD
        have nHD : H D = none := s2.free (by rw [upd_ne nDr] at nD; exact nD)
        have nHr : H r = none := s2.free nr
        refine for_range (lo := 0) (n := m) (fun i σ H3 => ∃ (y5 y6 y7 y8 : Option V) (rs ds : List Int), σ = [some (.ref a), some (.int m), some (.ref C), some (.ref r), some (.ref D), y5, y6, y7, y8] ∧
          Same H H3 ∧ H3 C = some (.lst (cs.map V.int)) ∧ H3 r = some (.lst (rs.map V.int)) ∧ rs.length = cs.length ∧ H3 D = some (.lst (ds.map V.int)) ∧ ds.length = i) ?_ (fun i σ H3 hi hp => ?_) (fun σ H3 hp => ?_)
        · refine ⟨none, none, none, none, cs, [], rfl, (s2.trans (same_new nr)).trans (same_new nD), ?_, ?_, rfl, upd_same, rfl⟩
          · rw [upd_ne nDC, upd_ne nrC]; exact hc2
          · rw [upd_ne nDr.symm, upd_same]
        · obtain ⟨y5, y6, y7, y8, rs, ds, rfl, s3, hC3, hr3, hrl, hD3, hdl⟩ := hp
          have e0 : (0 : Int) + (i : Int) = (i : Int) := by omega
          have hk0 : 0 ≤ ((0 : Int) + (i : Int)) % (cs.length : Int) := Int.emod_nonneg _ (by omega)
          have hk1 : ((0 : Int) + (i : Int)) % (cs.length : Int) < (cs.length : Int) := Int.emod_lt_of_pos _ (by omega)
          have hlenC : ((cs.map V.int).length : Int) = (cs.length : Int) := by rw [List.length_map]
          have hSC : SqL K H3 C (cs.map V.int) := .inl (.inl hC3)
          have hSr : SqL K H3 r (rs.map V.int) := .inl (.inl hr3)
          have more : ∀ (z : Int) (H4 : Hp), (∀ b o, H3 b = some o → b ≠ D → b ≠ r → H4 b = some o) → ∀ rs' : List Int, rs'.length = cs.length → H4 r = some (.lst (rs'.map V.int)) → H4 D = some (.lst (ds.map V.int ++ [.int z])) → ∀ y6 y7 : Option V,
              ∃ (z5 z6 z7 z8 : Option V) (rs ds : List Int), [some (.ref a), some (.int m), some (.ref C), some (.ref r), some (.ref D), some (.int ((0 : Int) + (i : Int))), y6, y7, y8] = [some (.ref a), some (.int m), some (.ref C), some (.ref r), some (.ref D), z5, z6, z7, z8] ∧
              Same H H4 ∧ H4 C = some (.lst (cs.map V.int)) ∧ H4 r = some (.lst (rs.map V.int)) ∧ rs.length = cs.length ∧ H4 D = some (.lst (ds.map V.int)) ∧ ds.length = i + 1 := fun z H4 k rs' hl' hr' hd' y6 y7 => by
            refine ⟨_, _, _, _, rs', ds ++ [z], rfl, fun b o e => k b o (s3 b o e) (ne_of_none e nHD) (ne_of_none e nHr), k C _ hC3 nDC nrC, hr', hl', ?_, ?_⟩
            · rw [hd', List.map_append]; rfl
            · rw [List.length_append, hdl]; rfl
          refine ⟨.int (0 + (i : Int)), rfl, .ref C, rfl, C, _, rfl, .inl hSC, _, _, rfl, rfl, by rw [hlenC]; omega, ?_⟩
          rw [hlenC]
          dsimp only
          generalize hkk : ((0 : Int) + (i : Int)) % (cs.length : Int) = kk at hk0 hk1 ⊢
          have hat : atI (cs.map V.int) kk = some (.int (cs[kk.toNat]'(by omega))) := atM_pos hk0 hk1
          have har : atI (rs.map V.int) kk = some (.int (rs[kk.toNat]'(by omega))) := atM_pos hk0 (by omega)
          generalize cs[kk.toNat]'(by omega) = cv at hat
          generalize rs[kk.toNat]'(by omega) = rv at har
          refine ⟨.ref C, rfl, .int kk, rfl, C, _, kk, _, rfl, rfl, hSC, hat, 10, 18, rfl, rfl, ⟨by decide, by decide, by decide⟩, _, _, rfl, rfl, _, rfl, ite2 (fun e => ?_) (fun e => ?_)⟩
          · have hge : (10 : Int) ^ (18 : Int).toNat ≤ cv := of_decide_eq_true e
            refine ⟨.ref D, rfl, .inl ⟨rfl, _, .inl (.inl hD3)⟩, .ref r, rfl, .int kk, rfl, r, _, kk, _, rfl, rfl, hSr, har, .inl ⟨_, rfl, _, _, rfl, rfl, (show (0 : Int) < 1000 by decide), D, _, _, rfl, rfl, hD3, ?_, ?_⟩⟩
            · rw [List.length_map]; exact small (by omega)
            · have nrD : r ≠ D := nDr.symm
              have hr4 : upd H3 D (.lst (ds.map V.int ++ [.int (rv % 1000)])) r = some (.lst (rs.map V.int)) := by rw [upd_ne nrD]; exact hr3
              have hj : ixN (rs.map V.int).length kk = some kk.toNat := by
                unfold ixN
                rw [if_pos hk0, if_pos (by rw [List.length_map]; omega)]
              refine ⟨.ref r, rfl, .int kk, rfl, r, _, kk, _, rfl, rfl, .inl (.inl hr4), har, _, _, rfl, rfl, ⟨by decide, by decide⟩, .ref r, rfl, .int kk, rfl, r, _, kk, _, rfl, rfl, hr4, hj, ?_⟩
              refine more (rv % 1000) _ (fun b o e n1 n2 => ?_) (rs.set kk.toNat (rv / 1000)) (by rw [List.length_set]; exact hrl) ?_ ?_ _ _
              · rw [upd_ne n2, upd_ne n1]; exact e
              · rw [upd_same, List.map_set]
              · rw [upd_ne nDr, upd_same]
          · refine ⟨.ref C, rfl, .int kk, rfl, C, _, kk, _, rfl, rfl, hSC, hat, _, _, rfl, rfl, .inr ⟨by decide, by decide⟩, .int (0 + (i : Int)), rfl, _, _, rfl, rfl, .inr ⟨by decide, by decide⟩, _, _, rfl, rfl, _, _, rfl, rfl, .inl ⟨_, rfl, _, _, rfl, rfl, (show (0 : Int) < 2147483647 by decide), ?_⟩⟩
            have o0 : 0 ≤ (cv * 48271 + (0 + (i : Int)) * 69621 + 11) % 2147483647 := Int.emod_nonneg _ (by decide)
            have o1 : (cv * 48271 + (0 + (i : Int)) * 69621 + 11) % 2147483647 < 2147483647 := Int.emod_lt_of_pos _ (by decide)
            dsimp only
            generalize (cv * 48271 + (0 + (i : Int)) * 69621 + 11) % 2147483647 = on at o0 o1 ⊢
            refine ⟨.ref D, rfl, .inl ⟨rfl, _, .inl (.inl hD3)⟩, .int on, rfl, .int on, rfl, _, _, rfl, rfl, .inl ⟨by omega, by omega⟩, .int on, rfl, _, _, rfl, rfl, .inl ⟨by decide, by decide⟩, _, _, rfl, rfl, .int (0 + (i : Int)), rfl, _, _, rfl, rfl, .inl ⟨_, rfl, _, _, rfl, rfl, (show (0 : Int) < 1000003 by decide), D, _, _, rfl, rfl, hD3, ?_, ?_⟩⟩
            · rw [List.length_map]; exact small (by omega)
            · exact more _ _ (fun b o e n1 n2 => by rw [upd_ne n1]; exact e) rs hrl (by rw [upd_ne nDr.symm]; exact hr3) upd_same _ _
        · obtain ⟨y5, y6, y7, y8, rs, ds, rfl, s3, hC3, hr3, hrl, hD3, hdl⟩ := hp
          refine ⟨.ref D, rfl, .inl ⟨rfl, _, .inl (.inl hD3)⟩, D, _, rfl, rfl, hD3, .ref D, rfl, ?_⟩
          refine q _ D (fun b o e => ?_) nHD ⟨ds.reverse, ?_⟩
          · rw [upd_ne (ne_of_none e nHD)]; exact s3 b o e
          · rw [upd_same, List.map_reverse])
end
def sp_l_take (K : PySem.W.Frag) : Sp := fun vs H Q _ => ∃ (d : Addr) (m : Int), vs = [.ref d, .int m] ∧ DrA H d ∧ 0 < m ∧ ∀ H' r, Dr d H H' → 0 ≤ r → r < m → Q (.int r) H'
section
variable {P : Program} {w : World} {K : PySem.W.Frag} {mg : Str → Option Value} {base : Heap}
theorem ok_l_take (T : Ctx K mg) : FnOk P w K mg base CX0 1 T.f_l_take T.fd_l_take ["draws", "many"] (sp_l_take K) := by
  refine T.F_l_take.ok sc_l_take (fun vs H Q E h => ?_) (fun cdv A outer s H vs Q E hr h => ?_)
  · obtain ⟨d, m, rfl, _⟩ := h
    rfl
  · obtain ⟨d, m, rfl, ⟨ns, hd⟩, hm, q⟩ := h
    refine ⟨_, (pss_cons (ps_if (pt_cmpR op_eq (pe_callB call_len_seq (by rfl) T.m_len (by decide +kernel) (pa_cons (pv 0) pa_nil)) pe_int (nomark _))
        (pss_one (ps_ret pe_int))
        pss_nil)
      (pss_one (ps_ret (pe_op op_mod (pe_callTy call_int1 (by rfl) T.m_int (by decide +kernel) (pa_cons (pe_bm0 PySem.F.plainAttrs_list PySem.F.slot_list_pop PySem.F.type_list_pop mt_pop (pv 0)) pa_nil)) (pv 1))))), ?_⟩
    have hS : SqL K H d (ns.map V.int) := .inl (.inl hd)
    refine ⟨.ref d, rfl, d, _, rfl, .inl hS, rfl, _, rfl, ite2 (fun e => ?_) (fun e => ?_)⟩
    · exact q H 0 ⟨fun _ _ _ h => h, ns, hd⟩ (Int.le_refl 0) hm
    · have hne : ns ≠ [] := fun z => by
        subst z
        exact e (decide_eq_true rfl)
      have hl : (ns.map V.int)[(ns.map V.int).length - 1]? = some (.int (ns.getLast hne)) := by
        rw [List.getElem?_map, List.length_map, at_last hne]
        rfl
      refine ⟨.ref d, rfl, .inl ⟨rfl, _, hS⟩, d, _, _, rfl, rfl, hd, hl, .inl ⟨_, rfl, .int m, rfl, _, _, rfl, rfl, hm, ?_⟩⟩
      rw [← List.map_dropLast]
      exact q _ _ (dr_upd _) (Int.emod_nonneg _ (by omega)) (Int.emod_lt_of_pos _ hm)
end
def sp_l_cell (K : PySem.W.Frag) : Sp := fun vs H Q _ => ∃ (a d : Addr) (ns : List Int), vs = [.ref a, .ref d] ∧ (∀ H', Dr d H H' → SqL K H' a (ns.map V.int)) ∧ DrA H d ∧
  ∀ H' c, Dr d H H' → (c = 0 ∨ c ∈ ns) → Q (.int c) H'
section
variable {P : Program} {w : World} {K : PySem.W.Frag} {mg : Str → Option Value} {base : Heap}
theorem ok_l_cell (T : Ctx K mg) : FnOk P w K mg base CX0 2 T.f_l_cell T.fd_l_cell ["script", "draws"] (sp_l_cell K) := by
  refine T.F_l_cell.ok sc_l_cell (fun vs H Q E h => ?_) (fun cdv A outer s H vs Q E hr h => ?_)
  · obtain ⟨a, d, ns, rfl, _⟩ := h
    rfl
  · obtain ⟨a, d, ns, rfl, hK, hd, q⟩ := h
    have hS := hK H (Dr.refl hd)
    refine ⟨_, (pss_cons (ps_if (pt_cmpR op_eq (pe_callB call_len_seq (by rfl) T.m_len (by decide +kernel) (pa_cons (pv 0) pa_nil)) pe_int (nomark _))
        (pss_one (ps_ret pe_int))
        pss_nil)
      (pss_one (ps_ret (pe_callTy call_int1 (by rfl) T.m_int (by decide +kernel) (pa_cons (pe_ix ix_list (pv 0) (pe_call (ok_l_take T) (hr.mono (by decide)) (by rfl) T.g_l_take T.F_l_take.kp T.b_l_take .nil pass0 (pa_cons (pv 1) (pa_cons (pe_callB call_len_seq (by rfl) T.m_len (by decide +kernel) (pa_cons (pv 0) pa_nil)) pa_nil))) (fun _ _ => rfl)) pa_nil))))), ?_⟩
    refine ⟨.ref a, rfl, a, _, rfl, .inl hS, rfl, _, rfl, ite2 (fun e => ?_) (fun e => ?_)⟩
    · exact q H 0 (Dr.refl hd) (.inl rfl)
    · have hne : ns ≠ [] := fun z => by
        subst z
        exact e (decide_eq_true rfl)
      have hl : 0 < ns.length := by cases ns with | nil => exact absurd rfl hne | cons x r => exact Nat.succ_pos _
      refine ⟨.ref a, rfl, .ref d, rfl, .ref a, rfl, a, _, rfl, .inl hS, d, _, rfl, hd, by rw [List.length_map]; omega, fun H1 r r1 h0 h1 => ?_⟩
      rw [List.length_map] at h1
      have hS1 : SqL K H1 a (ns.map V.int) := hK H1 r1
      exact ⟨a, _, r, _, rfl, rfl, hS1, atM_pos h0 h1, .inl ⟨_, rfl, q H1 _ r1 (.inr (List.getElem_mem _))⟩⟩
end
def sp_l_values (K : PySem.W.Frag) : Sp := fun vs H Q _ => ∃ (d : Addr) (c : Int), vs = [.ref d, .int c] ∧ DrA H d ∧ ∀ (H' : Hp) (t : Addr) (xs : List Int), Dr d H H' → H' t = some (.tup (xs.map V.int)) → xs.length ≤ 48 → xs.Pairwise (· ≤ ·) → Q (.ref t) H'
section
variable {P : Program} {w : World} {K : PySem.W.Frag} {mg : Str → Option Value} {base : Heap}
theorem ok_l_values (T : Ctx K mg) : FnOk P w K mg base CX0 2 T.f_l_values T.fd_l_values ["draws", "cell"] (sp_l_values K) := by
  refine T.F_l_values.ok sc_l_values (fun vs H Q E h => ?_) (fun cdv A outer s H vs Q E hr h => ?_)
  · obtain ⟨d, c, rfl, _⟩ := h
    rfl
  · obtain ⟨d, c, rfl, hd, q⟩ := h
    refine ⟨_, (pss_cons (ps_set (i := 2) sc_l_values.nd rfl (.inl rfl) (pe_ix ix_list (pe_lst (pa_cons pe_int (pa_cons pe_int (pa_cons pe_int (pa_cons pe_int (pa_cons (pe_call (ok_l_take T) (hr.mono (by decide)) (by rfl) T.g_l_take T.F_l_take.kp T.b_l_take .nil pass0 (pa_cons (pv 0) (pa_cons pe_int pa_nil))) (pa_cons pe_int pa_nil))))))) (pe_call (ok_l_take T) (hr.mono (by decide)) (by rfl) T.g_l_take T.F_l_take.kp T.b_l_take .nil pass0 (pa_cons (pv 0) (pa_cons pe_int pa_nil))) (fun _ _ => rfl)))
      (pss_cons (ps_set (i := 3) sc_l_values.nd rfl (.inl rfl) (pe_lst pa_nil))
      (pss_cons (ps_for PassesOwn.never rfl (pi_range1 (by rfl) T.m_range (pa_cons (pv 2) pa_nil)) (pg_name (i := 4) sc_l_values.nd rfl (.inl rfl))
        (pss_one (ps_expr (pe_bm PySem.F.plainAttrs_list PySem.F.slot_list_append PySem.F.type_list_append mt_append (pv 3) (pa_cons (pe_ix ix_list (pe_lst (pa_cons (pe_call (ok_l_take T) (hr.mono (by decide)) (by rfl) T.g_l_take T.F_l_take.kp T.b_l_take .nil pass0 (pa_cons (pv 0) (pa_cons pe_int pa_nil))) (pa_cons (pe_op op_sub (pe_call (ok_l_take T) (hr.mono (by decide)) (by rfl) T.g_l_take T.F_l_take.kp T.b_l_take .nil pass0 (pa_cons (pv 0) (pa_cons pe_int pa_nil))) pe_int) (pa_cons (pv 1) pa_nil)))) (pe_op op_fdiv (pe_call (ok_l_take T) (hr.mono (by decide)) (by rfl) T.g_l_take T.F_l_take.kp T.b_l_take .nil pass0 (pa_cons (pv 0) (pa_cons pe_int pa_nil))) pe_int) (fun _ _ => rfl)) pa_nil)))))
      (pss_cons (ps_if (pt_cmpR op_eq (pe_call (ok_l_take T) (hr.mono (by decide)) (by rfl) T.g_l_take T.F_l_take.kp T.b_l_take .nil pass0 (pa_cons (pv 0) (pa_cons pe_int pa_nil))) pe_int (nomark _))
        (pss_one (ps_set (i := 3) sc_l_values.nd rfl (.inl rfl) (pe_op op_cat (pv 3) (pe_lc (own := [("k", 4)]) (g := gName 4) (by rfl) sc_l_values.nd (pi_range1 (by rfl) T.m_range (pa_cons pe_int pa_nil)) (blkOk_by (own := [("k", 4)]) (N := ["draws", "cell", "many", "found", "k"]) (sc := defScope s_l_values) (by decide +kernel)) (fun _ _ _ _ _ => pg_name (i := 4) sc_l_values.nd rfl (Or.inl rfl)) (fun _ _ _ _ _ => pts_nil) (fun _ _ _ _ _ => (pe_op op_sub (pe_op op_fdiv (pv 4) pe_int) pe_int))))))
        pss_nil)
      (pss_one (ps_ret (pe_callTy call_tuple_of (by rfl) T.m_tuple (by decide +kernel) (pa_cons (pe_callB cr_sorted (by rfl) T.m_sorted (by decide +kernel) (pa_cons (pv 3) pa_nil)) pa_nil)))))))), ?_⟩
    refine ⟨.ref d, rfl, d, _, rfl, hd, by decide, fun H1 u r1 u0 u1 => ⟨small' (n := 6) (by decide), fun p np => ?_⟩⟩
    have npd : p ≠ d := r1.ne np
    have q2 := r1.then (same_new (o := .lst [.int 0, .int 1, .int 2, .int 3, .int u, .int 8]) np)
    refine ⟨.ref d, rfl, d, _, rfl, q2.at_, by decide, fun H3 x r3 x0 x1 => ?_⟩
    have h3 : H3 p = some (.lst [.int 0, .int 1, .int 2, .int 3, .int u, .int 8]) := r3.keep _ _ npd upd_same
    obtain ⟨mv, mm, ma⟩ := pickI (xs := [0, 1, 2, 3, u, 8]) (vs := [.int 0, .int 1, .int 2, .int 3, .int u, .int 8]) (k := x) rfl (by omega) (by show x < 6; omega)
    have mB : 0 ≤ mv ∧ mv ≤ 8 := by
      simp only [List.mem_cons, List.not_mem_nil, or_false] at mm
      omega
    refine ⟨p, _, _, _, rfl, rfl, .inl (.inl h3), ma, small' (n := 0) (by decide), fun F nF => ?_⟩
    have r13 := q2.trans r3
    have nFd : F ≠ d := r13.ne nF
    have nHF : H F = none := r13.free hd nF
    have r4 := r13.then (same_new (o := .lst []) nF)
    refine ⟨.int mv, rfl, mv, rfl, by omega, by omega, ?_⟩
    refine for_range (lo := 0) (n := mv.toNat) (fun i σ H' => ∃ (y4 : Option V) (xs : List Int), σ = [some (.ref d), some (.int c), some (.int mv), some (.ref F), y4] ∧ Dr d H H' ∧ H' F = some (.lst (xs.map V.int)) ∧ xs.length = i)
      ⟨none, [], rfl, r4, upd_same, rfl⟩ (fun i σ H5 hi hp => ?_) (fun σ H5 hp => ?_)
    · obtain ⟨y4, xs, rfl, r5, hF5, l5⟩ := hp
      refine ⟨.ref F, rfl, .inl ⟨rfl, _, .inl (.inl hF5)⟩, .ref d, rfl, d, _, rfl, r5.at_, by decide, fun H6 a r6 a0 a1 => ?_⟩
      refine ⟨.ref d, rfl, d, _, rfl, r6.at_, by decide, fun H7 b r7 b0 b1 => ⟨_, _, rfl, rfl, .int c, rfl, small' (n := 3) (by decide), fun p8 n8 => ?_⟩⟩
      have q57 := (r5.trans r6).trans r7
      have n8d : p8 ≠ d := q57.ne n8
      have hF7 := r7.keep _ _ nFd (r6.keep _ _ nFd hF5)
      have s8 := same_new (o := .lst [.int a, .int (b - 100), .int c]) n8
      have q8 := q57.then s8
      have hF8 := s8 _ _ hF7
      refine ⟨.ref d, rfl, d, _, rfl, q8.at_, by decide, fun H9 y r9 y0 y1 => ?_⟩
      have h9 : H9 p8 = some (.lst [.int a, .int (b - 100), .int c]) := r9.keep _ _ n8d upd_same
      have hF9 := r9.keep _ _ nFd hF8
      obtain ⟨kv, km, ka⟩ := pickI (xs := [a, b - 100, c]) (vs := [.int a, .int (b - 100), .int c]) (k := y / 4) rfl (by omega) (by show y / 4 < 3; omega)
      refine ⟨_, _, rfl, rfl, ⟨by decide, by decide⟩, p8, _, _, _, rfl, rfl, .inl (.inl h9), ka, F, _, _, rfl, rfl, hF9, by rw [List.length_map]; exact small (by omega), _, xs ++ [kv], rfl, (q8.trans r9).keepNew nFd nHF, ?_, by rw [List.length_append, l5]; rfl⟩
      rw [upd_same, List.map_append]
      rfl
    · obtain ⟨y4, xs, rfl, r5, hF5, l5⟩ := hp
      refine ⟨.ref d, rfl, d, _, rfl, r5.at_, by decide, fun H6 z r6 z0 z1 => ⟨rfl, _, rfl, ite2 (fun e => ?c1) (fun e => ?c2)⟩⟩
      case' c1 =>
        have hF6 := r6.keep _ _ nFd hF5
        have q6 := r5.trans r6
        refine ⟨.ref F, rfl, 40, rfl, by decide, by decide, fun C nC => lc_range (lo := 0) (n := 40) (fun i H' => Same H6 H' ∧ ∃ ys : List Int, H' C = some (.lst (ys.map V.int)) ∧ ys.length = i) ⟨same_new nC, [], upd_same, rfl⟩ (fun i H7 hi hp => ?_) (fun H7 hp => ?_)⟩
        · obtain ⟨s7, ys, hC7, ly⟩ := hp
          refine ⟨rfl, .int (0 + (i : Int)), rfl, _, _, rfl, rfl, ⟨by decide, by decide⟩, _, _, rfl, rfl, _, hC7, by rw [List.length_map]; exact small (by omega), same_keep s7 nC, ys ++ [(0 + (i : Int)) / 3 - 5], ?_, by rw [List.length_append, ly]; rfl⟩
          rw [upd_same, List.map_append]
          rfl
        · obtain ⟨s7, ys, hC7, ly⟩ := hp
          have hF7 := s7 _ _ hF6
          refine ⟨F, C, _, _, rfl, rfl, hF7, hC7, ?_, fun G nG => ?_⟩
          · rw [List.length_map, List.length_map]
            exact small' (by omega)
          have s8 := same_new (o := .lst (xs.map V.int ++ ys.map V.int)) nG
          have hG : upd H7 G (.lst (xs.map V.int ++ ys.map V.int)) G = some (.lst ((xs ++ ys).map V.int)) := by rw [upd_same, List.map_append]
          have rG := (q6.then s7).then s8
          have lG : (xs ++ ys).length ≤ 48 := by rw [List.length_append]; omega
          generalize upd H7 G (.lst (xs.map V.int ++ ys.map V.int)) = HX at hG rG
          generalize xs ++ ys = zs at hG lG
          exact ⟨.ref G, rfl, G, zs, rfl, .inl (.inl hG), by omega, fun ws L pm up nL => ⟨L, _, rfl, .inl ⟨.inl (.inl upd_same), fun t nt => q _ t ws ((rG.then (same_new nL)).then (same_new nt)) upd_same (by rw [pm.length_eq]; exact lG) up⟩⟩⟩
      case' c2 =>
        have hF6 := r6.keep _ _ nFd hF5
        have rG := r5.trans r6
        exact ⟨.ref F, rfl, F, xs, rfl, .inl (.inl hF6), by omega, fun ws L pm up nL => ⟨L, _, rfl, .inl ⟨.inl (.inl upd_same), fun t nt => q _ t ws ((rG.then (same_new nL)).then (same_new nt)) upd_same (by rw [pm.length_eq]; omega) up⟩⟩⟩
end
def sp_l_rank (K : PySem.W.Frag) : Sp := fun vs H Q _ => ∃ d : Addr, vs = [.ref d] ∧ DrA H d ∧ ∀ H' t p q, Dr d H H' → AgAt H' t (.rank p q) → 0 ≤ p → p ≤ q → 1 ≤ q → q ≤ 20 → Q (.ref t) H'
section
variable {P : Program} {w : World} {K : PySem.W.Frag} {mg : Str → Option Value} {base : Heap}
theorem ok_l_rank (T : Ctx K mg) : FnOk P w K mg base CX0 2 T.f_l_rank T.fd_l_rank ["draws"] (sp_l_rank K) := by
  refine T.F_l_rank.ok sc_l_rank (fun vs H Q E h => ?_) (fun cdv A outer s H vs Q E hr h => ?_)
  · obtain ⟨d, rfl, _⟩ := h
    rfl
  · obtain ⟨d, rfl, hd, q⟩ := h
    refine ⟨_, (pss_cons (ps_set (i := 1) sc_l_rank.nd rfl (.inl rfl) (pe_ix ix_list (pe_lst (pa_cons pe_int (pa_cons pe_int (pa_cons pe_int (pa_cons pe_int (pa_cons pe_int (pa_cons (pe_op op_add pe_int (pe_call (ok_l_take T) (hr.mono (by decide)) (by rfl) T.g_l_take T.F_l_take.kp T.b_l_take .nil pass0 (pa_cons (pv 0) (pa_cons pe_int pa_nil)))) pa_nil))))))) (pe_call (ok_l_take T) (hr.mono (by decide)) (by rfl) T.g_l_take T.F_l_take.kp T.b_l_take .nil pass0 (pa_cons (pv 0) (pa_cons pe_int pa_nil))) (fun _ _ => rfl)))
      (pss_one (ps_ret (pe_tup (pa_cons pe_str (pa_cons (pe_ix ix_list (pe_lst (pa_cons pe_int (pa_cons (pv 1) (pa_cons (pe_call (ok_l_take T) (hr.mono (by decide)) (by rfl) T.g_l_take T.F_l_take.kp T.b_l_take .nil pass0 (pa_cons (pv 0) (pa_cons (pe_op op_add (pv 1) pe_int) pa_nil))) pa_nil)))) (pe_call (ok_l_take T) (hr.mono (by decide)) (by rfl) T.g_l_take T.F_l_take.kp T.b_l_take .nil pass0 (pa_cons (pv 0) (pa_cons pe_int pa_nil))) (fun _ _ => rfl)) (pa_cons (pv 1) pa_nil))))))), ?_⟩
    refine ⟨.ref d, rfl, d, _, rfl, hd, by decide, fun H1 u r1 u0 u1 => ⟨_, _, rfl, rfl, small' (n := 6) (by decide), fun p np => ?_⟩⟩
    have npd : p ≠ d := r1.ne np
    have q2 := r1.then (same_new (o := .lst [.int 1, .int 2, .int 3, .int 4, .int 10, .int (1 + u)]) np)
    refine ⟨.ref d, rfl, d, _, rfl, q2.at_, by decide, fun H3 x r3 x0 x1 => ?_⟩
    have h3 : H3 p = some (.lst [.int 1, .int 2, .int 3, .int 4, .int 10, .int (1 + u)]) := r3.keep _ _ npd upd_same
    obtain ⟨qv, qm, qa⟩ := pickI (xs := [1, 2, 3, 4, 10, 1 + u]) (vs := [.int 1, .int 2, .int 3, .int 4, .int 10, .int (1 + u)]) (k := x) rfl (by omega) (by show x < 6; omega)
    have qB : 1 ≤ qv ∧ qv ≤ 20 := by
      simp only [List.mem_cons, List.not_mem_nil, or_false] at qm
      omega
    refine ⟨p, _, _, _, rfl, rfl, .inl (.inl h3), qa, ?_⟩
    have r13 := q2.trans r3
    refine ⟨.int qv, rfl, .ref d, rfl, .int qv, rfl, _, _, rfl, rfl, d, _, rfl, r13.at_, by omega, fun H4 y r4 y0 y1 => ⟨small' (n := 3) (by decide), fun p2 n2 => ?_⟩⟩
    have r14 := r13.trans r4
    have n2d : p2 ≠ d := r14.ne n2
    have q5 := r14.then (same_new (o := .lst [.int 0, .int qv, .int y]) n2)
    refine ⟨.ref d, rfl, d, _, rfl, q5.at_, by decide, fun H6 z r6 z0 z1 => ?_⟩
    have h6 : H6 p2 = some (.lst [.int 0, .int qv, .int y]) := r6.keep _ _ n2d upd_same
    obtain ⟨pv, pm, pa⟩ := pickI (xs := [0, qv, y]) (vs := [.int 0, .int qv, .int y]) (k := z) rfl (by omega) (by show z < 3; omega)
    have pB : 0 ≤ pv ∧ pv ≤ qv := by
      simp only [List.mem_cons, List.not_mem_nil, or_false] at pm
      omega
    exact ⟨p2, _, _, _, rfl, rfl, .inl (.inl h6), pa, .int qv, rfl, small' (n := 3) (by decide), fun t nt => q _ t pv qv ((q5.trans r6).then (same_new nt)) upd_same pB.1 pB.2 qB.1 qB.2⟩
end
def sp_l_between (K : PySem.W.Frag) : Sp := fun vs H Q _ => ∃ (a v : Addr) (p qq : Int) (xs : List Int), vs = [.ref a, .ref v] ∧ AgAt H a (.rank p qq) ∧ (Ag.rank p qq).Ok ∧ H v = some (.tup (xs.map V.int)) ∧ xs.length ≤ 1000 ∧ xs ≠ [] ∧ xs.Pairwise (· ≤ ·) ∧ ∀ H', Same H H' → Q (.bl true) H'
section
variable {P : Program} {w : World} {K : PySem.W.Frag} {mg : Str → Option Value} {base : Heap}
theorem ok_l_between (T : Ctx K mg) : FnOk P w K mg base CX0 2 T.f_l_between T.fd_l_between ["rank", "values"] (sp_l_between K) := by
  refine T.F_l_between.ok sc_l_between (fun vs H Q E h => ?_) (fun cdv A outer s H vs Q E hr h => ?_)
  · obtain ⟨a, v, p, qq, xs, rfl, _⟩ := h
    rfl
  · obtain ⟨a, v, p, qq, xs, rfl, ha, ok, hv, few, hn, up, q⟩ := h
    refine ⟨_, (pss_cons (ps_set (i := 2) sc_l_between.nd rfl (.inr rfl) (pe_call (ok_value_of T) (hr.mono (by decide)) (by rfl) T.g_value_of T.F_value_of.kp T.b_value_of .nil pass0 (pa_cons (pv 0) (pa_cons (pv 1) pa_nil))))
      (pss_cons (ps_if (pt_cmpR op_notIn_seq (pv 2) (pv 1) rfl)
        (pss_one (ps_ret pe_bl))
        pss_nil)
      (pss_cons (ps_set (i := 3) sc_l_between.nd rfl (.inl rfl) (pe_op op_fdiv (pe_op op_mul (pe_op op_sub (pe_callB call_len_seq (by rfl) T.m_len (by decide +kernel) (pa_cons (pv 1) pa_nil)) pe_int) (pe_ix ix_tup (pv 0) pe_int (fun _ _ => rfl))) (pe_ix ix_tup (pv 0) pe_int (fun _ _ => rfl))))
      (pss_cons (ps_set (i := 4) sc_l_between.nd rfl (.inl rfl) (pe_callB call_len_seq (by rfl) T.m_len (by decide +kernel) (pa_cons (pe_lc (own := [("value", 5)]) (g := gName 5) (by rfl) sc_l_between.nd (pi_tup (pv 1)) (blkOk_by (own := [("value", 5)]) (N := ["rank", "values", "found", "index", "less", "value"]) (sc := defScope s_l_between) (by decide +kernel)) (fun _ _ _ _ _ => pg_name (i := 5) sc_l_between.nd rfl (Or.inl rfl)) (fun _ _ _ _ _ => (pts_one (pt_cmpR op_lt (pv 5) (pv 2) (nomark _)))) (fun _ _ _ _ _ => (pv 5))) pa_nil)))
      (pss_one (ps_ret (pe_and (pe_cmpR op_le (pv 4) (pv 3) (nomark _)) (pe_one (pe_cmpR op_lt (pv 3) (pe_callB call_len_seq (by rfl) T.m_len (by decide +kernel) (pa_cons (pe_lc (own := [("value", 5)]) (g := gName 5) (by rfl) sc_l_between.nd (pi_tup (pv 1)) (blkOk_by (own := [("value", 5)]) (N := ["rank", "values", "found", "index", "less", "value"]) (sc := defScope s_l_between) (by decide +kernel)) (fun _ _ _ _ _ => pg_name (i := 5) sc_l_between.nd rfl (Or.inl rfl)) (fun _ _ _ _ _ => (pts_one (pt_cmpR op_le (pv 5) (pv 2) (nomark _)))) (fun _ _ _ _ _ => (pv 5))) pa_nil)) (nomark _)))))))))), ?_⟩
    refine ⟨.ref a, rfl, .ref v, rfl, a, v, .rank p qq, xs, rfl, ha, hv, few, ok, fun H1 s1 => ?_⟩
    obtain ⟨o0, o1, o2, o3⟩ := ok
    obtain ⟨i, k, ei, il, hk, ev⟩ := rank_place hn o0 o1 o2
    rw [ev]
    have hv1 := s1 _ _ hv
    have hT1 : SqT K H1 v (xs.map V.int) := .inl (.inl hv1)
    have hA1 : SqT K H1 a [.str "rank", .int p, .int qq] := .inl (.inl (s1 _ _ ha))
    refine ⟨.int k, rfl, .ref v, rfl, v, _, rfl, .inr hT1, rfl, flat_ints _, _, rfl, ?_⟩
    have hin : inV (V.int k) (xs.map V.int) = true := by
      rw [in_ints]
      exact decide_eq_true (List.mem_of_getElem? hk)
    rw [hin]
    refine iteF ⟨.ref v, rfl, v, _, rfl, .inr hT1, _, _, rfl, rfl, .ref a, rfl, a, _, 1, _, rfl, rfl, hA1, atI_nat (j := 1) rfl, _, _, rfl, rfl, .inl ⟨?_, ?_⟩, .ref a, rfl, a, _, 2, _, rfl, rfl, hA1, atI_nat (j := 2) rfl, _, _, rfl, rfl, ⟨by omega, by omega⟩, ?_⟩
    · rw [List.length_map]; omega
    · rw [List.length_map]; omega
    have ex : (((xs.map V.int).length : Int) - 1) * p / qq = (i : Int) := by
      rw [List.length_map]
      exact ei
    dsimp only
    rw [ex]
    refine ⟨.ref v, rfl, v, rfl, ⟨_, hT1⟩, fun C nC => lc_tup (K := K) (a := v) (xs := xs.map V.int) (fun i H' => Same H1 H' ∧ H' C = some (.lst (((xs.take i).filter (ltB k)).map V.int))) ⟨same_new nC, upd_same⟩ (fun i H' _ z => .inl (.inl (z.1 _ _ hv1))) (fun i x H' hx z => ?_) (fun H' z => ?_)⟩
    · obtain ⟨s2, hC⟩ := z
      obtain ⟨y, hy, rfl⟩ := int_at hx
      have il := (List.getElem?_eq_some_iff.mp hy).1
      have fl := filt_snoc (ltB k) hy
      have l1 : ((xs.take i).filter (ltB k)).length ≤ i := Nat.le_trans (List.length_filter_le _ _) (by rw [List.length_take]; omega)
      refine ⟨rfl, .int y, rfl, .int k, rfl, _, _, rfl, rfl, _, rfl, ite2 (fun e1 => ?_) (fun e1 => ?_)⟩
      · have w : ltB k y = true := e1
        rw [if_pos w] at fl
        refine ⟨.int y, rfl, _, hC, by rw [List.length_map]; exact small (by omega), same_keep s2 nC, ?_⟩
        rw [upd_same, fl, List.map_append]
        rfl
      · have w : ¬ ltB k y = true := e1
        rw [if_neg w, List.append_nil] at fl
        exact ⟨s2, by rw [fl]; exact hC⟩
    obtain ⟨s2, hC⟩ := z
    rw [List.length_map, List.take_length] at hC
    have c1 : ¬ i < (xs.filter (ltB k)).length := fun z => by
      have := (at_lt up hk).mpr z
      omega
    have c2 : i < (xs.filter (leB k)).length := (at_le up hk).mp (Int.le_refl _)
    refine ⟨C, _, rfl, .inl (.inl (.inl hC)), .int _, rfl, .int (i : Int), rfl, _, _, rfl, rfl, _, rfl, ?_⟩
    rw [decide_eq_true (by rw [List.length_map]; omega)]
    refine iteT ?_
    have hv2 := s2 _ _ hv1
    have hT2 : SqT K H' v (xs.map V.int) := .inl (.inl hv2)
    refine ⟨.int (i : Int), rfl, .ref v, rfl, v, rfl, ⟨_, hT2⟩, fun D nD => lc_tup (K := K) (a := v) (xs := xs.map V.int) (fun i H3 => Same H' H3 ∧ H3 D = some (.lst (((xs.take i).filter (leB k)).map V.int))) ⟨same_new nD, upd_same⟩ (fun i H3 _ z => .inl (.inl (z.1 _ _ hv2))) (fun i x H3 hx z => ?_) (fun H3 z => ?_)⟩
    · obtain ⟨s3, hD⟩ := z
      obtain ⟨y, hy, rfl⟩ := int_at hx
      have il := (List.getElem?_eq_some_iff.mp hy).1
      have fl := filt_snoc (leB k) hy
      have l1 : ((xs.take i).filter (leB k)).length ≤ i := Nat.le_trans (List.length_filter_le _ _) (by rw [List.length_take]; omega)
      refine ⟨rfl, .int y, rfl, .int k, rfl, _, _, rfl, rfl, _, rfl, ite2 (fun e1 => ?_) (fun e1 => ?_)⟩
      · have w : leB k y = true := e1
        rw [if_pos w] at fl
        refine ⟨.int y, rfl, _, hD, by rw [List.length_map]; exact small (by omega), same_keep s3 nD, ?_⟩
        rw [upd_same, fl, List.map_append]
        rfl
      · have w : ¬ leB k y = true := e1
        rw [if_neg w, List.append_nil] at fl
        exact ⟨s3, by rw [fl]; exact hD⟩
    obtain ⟨s3, hD⟩ := z
    rw [List.length_map, List.take_length] at hD
    refine ⟨D, _, rfl, .inl (.inl (.inl hD)), _, _, rfl, rfl, ?_⟩
    dsimp only
    rw [decide_eq_true (show (i : Int) < (((xs.filter (leB k)).map V.int).length : Nat) by rw [List.length_map]; omega)]
    exact q _ ((s1.trans s2).trans s3)
end
def sp_l_ordered (K : PySem.W.Frag) : Sp := fun vs H Q _ => ∃ (a b v : Addr) (p1 q1 p2 q2 : Int) (xs : List Int), vs = [.ref a, .ref b, .ref v] ∧ AgAt H a (.rank p1 q1) ∧ (Ag.rank p1 q1).Ok ∧ AgAt H b (.rank p2 q2) ∧ (Ag.rank p2 q2).Ok ∧ H v = some (.tup (xs.map V.int)) ∧ xs.length ≤ 1000 ∧ xs ≠ [] ∧ xs.Pairwise (· ≤ ·) ∧ ∀ H', Same H H' → Q (.bl true) H'
section
variable {P : Program} {w : World} {K : PySem.W.Frag} {mg : Str → Option Value} {base : Heap}
theorem ok_l_ordered (T : Ctx K mg) : FnOk P w K mg base CX0 2 T.f_l_ordered T.fd_l_ordered ["one", "two", "values"] (sp_l_ordered K) := by
  refine T.F_l_ordered.ok sc_l_ordered (fun vs H Q E h => ?_) (fun cdv A outer s H vs Q E hr h => ?_)
  · obtain ⟨a, b, v, p1, q1, p2, q2, xs, rfl, _⟩ := h
    rfl
  · obtain ⟨a, b, v, p1, q1, p2, q2, xs, rfl, ha, oka, hb, okb, hv, few, hn, up, q⟩ := h
    refine ⟨_, (pss_cons (ps_set (i := 3) sc_l_ordered.nd rfl (.inl rfl) (pe_call (ok_value_of T) (hr.mono (by decide)) (by rfl) T.g_value_of T.F_value_of.kp T.b_value_of .nil pass0 (pa_cons (pv 0) (pa_cons (pv 2) pa_nil))))
      (pss_cons (ps_set (i := 4) sc_l_ordered.nd rfl (.inl rfl) (pe_call (ok_value_of T) (hr.mono (by decide)) (by rfl) T.g_value_of T.F_value_of.kp T.b_value_of .nil pass0 (pa_cons (pv 1) (pa_cons (pv 2) pa_nil))))
      (pss_cons (ps_if (PW.pt (pw_and (pt_cmpR op_le (pe_op op_mul (pe_ix ix_tup (pv 0) pe_int (fun _ _ => rfl)) (pe_ix ix_tup (pv 1) pe_int (fun _ _ => rfl))) (pe_op op_mul (pe_ix ix_tup (pv 1) pe_int (fun _ _ => rfl)) (pe_ix ix_tup (pv 0) pe_int (fun _ _ => rfl))) (nomark _)) (pw_and1 (pt_cmpR op_gt (pv 3) (pv 4) (nomark _)))))
        (pss_one (ps_ret pe_bl))
        pss_nil)
      (pss_one (ps_ret (pe_or (pe_cmpR op_lt (pe_op op_mul (pe_ix ix_tup (pv 0) pe_int (fun _ _ => rfl)) (pe_ix ix_tup (pv 1) pe_int (fun _ _ => rfl))) (pe_op op_mul (pe_ix ix_tup (pv 1) pe_int (fun _ _ => rfl)) (pe_ix ix_tup (pv 0) pe_int (fun _ _ => rfl))) (nomark _)) (pe_one (pe_cmpR op_ge (pv 3) (pv 4) (nomark _))))))))), ?_⟩
    refine ⟨.ref a, rfl, .ref v, rfl, a, v, .rank p1 q1, xs, rfl, ha, hv, few, oka, fun H1 s1 => ?_⟩
    refine ⟨.ref b, rfl, .ref v, rfl, b, v, .rank p2 q2, xs, rfl, s1 _ _ hb, s1 _ _ hv, few, okb, fun H2 s2 => ?_⟩
    obtain ⟨o0, o1, o2, o3⟩ := oka
    obtain ⟨w0, w1, w2, w3⟩ := okb
    obtain ⟨i, k, ei, il, hk, ev⟩ := rank_place hn o0 o1 o2
    obtain ⟨j, m, ej, jl, hm, ew⟩ := rank_place hn w0 w1 w2
    rw [ev, ew]
    have s12 := s1.trans s2
    have hA : SqT K H2 a [.str "rank", .int p1, .int q1] := .inl (.inl (s12 _ _ ha))
    have hB : SqT K H2 b [.str "rank", .int p2, .int q2] := .inl (.inl (s12 _ _ hb))
    have qq := q _ s12
    have hl : 0 < xs.length := by omega
    refine ⟨.ref a, rfl, a, _, 1, _, rfl, rfl, hA, atI_nat (j := 1) rfl, .ref b, rfl, b, _, 2, _, rfl, rfl, hB, atI_nat (j := 2) rfl, _, _, rfl, rfl, .inl ⟨by omega, by omega⟩, .ref b, rfl, b, _, 1, _, rfl, rfl, hB, atI_nat (j := 1) rfl, .ref a, rfl, a, _, 2, _, rfl, rfl, hA, atI_nat (j := 2) rfl, _, _, rfl, rfl, .inl ⟨by omega, by omega⟩, _, _, rfl, rfl, _, rfl, ?_⟩
    have c1 : p1 * q2 ≤ p2 * q1 → k ≤ m := fun z => by
      have := idx_mono (n := xs.length) hl (by omega : 0 < q1) (by omega : 0 < q2) z
      exact sorted_at up hk hm (by omega)
    have c2 : ¬ p1 * q2 < p2 * q1 → m ≤ k := fun z => by
      have := idx_mono (n := xs.length) hl (by omega : 0 < q2) (by omega : 0 < q1) (Int.not_lt.mp z)
      exact sorted_at up hm hk (by omega)
    have e1 : ¬ decide (p1 * q2 ≤ p2 * q1) = true ∨ decide (p1 * q2 ≤ p2 * q1) = true := (Classical.em _).symm
    rcases e1 with e1 | e1
    case' inl =>
      rw [Bool.eq_false_iff.mpr e1]
      refine iteF (iteF ?_)
    case' inr =>
      rw [e1]
      have le := c1 (of_decide_eq_true e1)
      refine iteT ⟨.int k, rfl, .int m, rfl, _, _, rfl, rfl, _, rfl, ?_⟩
      rw [decide_eq_false (show ¬ k > m by omega)]
      refine iteF ?_
    all_goals (
      refine ⟨.ref a, rfl, a, _, 1, _, rfl, rfl, hA, atI_nat (j := 1) rfl, .ref b, rfl, b, _, 2, _, rfl, rfl, hB, atI_nat (j := 2) rfl, _, _, rfl, rfl, .inl ⟨by omega, by omega⟩, .ref b, rfl, b, _, 1, _, rfl, rfl, hB, atI_nat (j := 1) rfl, .ref a, rfl, a, _, 2, _, rfl, rfl, hA, atI_nat (j := 2) rfl, _, _, rfl, rfl, .inl ⟨by omega, by omega⟩, _, _, rfl, rfl, _, rfl, ite2 (fun _ => qq) (fun e => ?_)⟩
      have ge := c2 fun z => e (decide_eq_true z)
      refine ⟨.int k, rfl, .int m, rfl, _, _, rfl, rfl, ?_⟩
      dsimp only
      rw [decide_eq_true (show k ≥ m by omega)]
      exact qq)
end
def sp_l_moved (K : PySem.W.Frag) : Sp := fun vs H Q _ => ∃ (a v : Addr) (p q m : Int) (xs : List Int), vs = [.ref a, .ref v, .int m] ∧ AgAt H a (.rank p q) ∧ (Ag.rank p q).Ok ∧ H v = some (.tup (xs.map V.int)) ∧ xs.length ≤ 60 ∧ xs ≠ [] ∧ xs.Pairwise (· ≤ ·) ∧ ∀ H', Same H H' → Q (.bl true) H'
section
variable {P : Program} {w : World} {K : PySem.W.Frag} {mg : Str → Option Value} {base : Heap}
theorem ok_l_moved (T : Ctx K mg) : FnOk P w K mg base CX0 2 T.f_l_moved T.fd_l_moved ["rank", "values", "more"] (sp_l_moved K) := by
  refine T.F_l_moved.ok sc_l_moved (fun vs H Q E h => ?_) (fun cdv A outer s H vs Q E hr h => ?_)
  · obtain ⟨a, v, p, q, m, xs, rfl, _⟩ := h
    rfl
  · obtain ⟨a, v, p, q, m, xs, rfl, ha, ok, hv, few, hn, up, qq⟩ := h
    refine ⟨_, (pss_cons (ps_set (i := 3) sc_l_moved.nd rfl (.inl rfl) (pe_callTy call_tuple_of (by rfl) T.m_tuple (by decide +kernel) (pa_cons (pe_callB cr_sorted (by rfl) T.m_sorted (by decide +kernel) (pa_cons (pe_op op_cat (pe_callTy call_list_of (by rfl) T.m_list (by decide +kernel) (pa_cons (pv 1) pa_nil)) (pe_lst (pa_cons (pv 2) pa_nil))) pa_nil)) pa_nil)))
      (pss_cons (ps_if (pt_cmpR op_ne (pe_call (ok_value_of T) (hr.mono (by decide)) (by rfl) T.g_value_of T.F_value_of.kp T.b_value_of .nil pass0 (pa_cons (pe_tup (pa_cons pe_str pa_nil)) (pa_cons (pv 3) pa_nil))) (pe_op op_add (pe_call (ok_value_of T) (hr.mono (by decide)) (by rfl) T.g_value_of T.F_value_of.kp T.b_value_of .nil pass0 (pa_cons (pe_tup (pa_cons pe_str pa_nil)) (pa_cons (pv 1) pa_nil))) pe_int) (nomark _))
        (pss_one (ps_ret pe_bl))
        pss_nil)
      (pss_cons (ps_if (pt_cmpR op_ne (pe_call (ok_value_of T) (hr.mono (by decide)) (by rfl) T.g_value_of T.F_value_of.kp T.b_value_of .nil pass0 (pa_cons (pe_tup (pa_cons pe_str pa_nil)) (pa_cons (pv 3) pa_nil))) (pe_op op_add (pe_call (ok_value_of T) (hr.mono (by decide)) (by rfl) T.g_value_of T.F_value_of.kp T.b_value_of .nil pass0 (pa_cons (pe_tup (pa_cons pe_str pa_nil)) (pa_cons (pv 1) pa_nil))) (pv 2)) (nomark _))
        (pss_one (ps_ret pe_bl))
        pss_nil)
      (pss_cons (ps_set (i := 4) sc_l_moved.nd rfl (.inl rfl) (pe_call (ok_value_of T) (hr.mono (by decide)) (by rfl) T.g_value_of T.F_value_of.kp T.b_value_of .nil pass0 (pa_cons (pv 0) (pa_cons (pv 1) pa_nil))))
      (pss_cons (ps_set (i := 5) sc_l_moved.nd rfl (.inl rfl) (pe_call (ok_value_of T) (hr.mono (by decide)) (by rfl) T.g_value_of T.F_value_of.kp T.b_value_of .nil pass0 (pa_cons (pv 0) (pa_cons (pv 3) pa_nil))))
      (pss_cons (ps_set (i := 6) sc_l_moved.nd rfl (.inl rfl) (pe_op op_fdiv (pe_op op_mul (pe_op op_sub (pe_callB call_len_seq (by rfl) T.m_len (by decide +kernel) (pa_cons (pv 1) pa_nil)) pe_int) (pe_ix ix_tup (pv 0) pe_int (fun _ _ => rfl))) (pe_ix ix_tup (pv 0) pe_int (fun _ _ => rfl))))
      (pss_cons (ps_set (i := 7) sc_l_moved.nd rfl (.inl rfl) (pe_ix ix_tup (pv 1) (pe_callB (call_max2 rfl) (by rfl) T.m_max (by decide +kernel) (pa_cons pe_int (pa_cons (pe_op op_sub (pv 6) pe_int) pa_nil))) (fun _ _ => rfl)))
      (pss_cons (ps_set (i := 8) sc_l_moved.nd rfl (.inl rfl) (pe_ix ix_tup (pv 1) (pe_callB (call_min2 rfl) (by rfl) T.m_min (by decide +kernel) (pa_cons (pe_op op_sub (pe_callB call_len_seq (by rfl) T.m_len (by decide +kernel) (pa_cons (pv 1) pa_nil)) pe_int) (pa_cons (pe_op op_add (pv 6) pe_int) pa_nil))) (fun _ _ => rfl)))
      (pss_cons (ps_if (PW.pt (pw_or (pt_cmpR op_lt (pv 5) (pe_callB (call_min2 rfl) (by rfl) T.m_min (by decide +kernel) (pa_cons (pv 7) (pa_cons (pv 2) pa_nil))) (nomark _)) (pw_or1 (pt_cmpR op_gt (pv 5) (pe_callB (call_max2 rfl) (by rfl) T.m_max (by decide +kernel) (pa_cons (pv 8) (pa_cons (pv 2) pa_nil))) (nomark _)))))
        (pss_one (ps_ret pe_bl))
        pss_nil)
      (pss_cons (ps_if (PW.pt (pw_and (pt_cmpR op_ge (pv 2) (pv 4) (nomark _)) (pw_and1 (pt_cmpR op_lt (pv 5) (pv 4) (nomark _)))))
        (pss_one (ps_ret pe_bl))
        pss_nil)
      (pss_one (ps_ret (pe_or (pe_cmpR op_gt (pv 2) (pv 4) (nomark _)) (pe_one (pe_cmpR op_le (pv 5) (pv 4) (nomark _)))))))))))))))), ?_⟩
    refine ⟨.ref v, rfl, v, _, rfl, .inr (.inl (.inl hv)), fun F nF => ?_⟩
    refine ⟨.int m, rfl, small' (n := 1) (by decide), fun G nG => ?_⟩
    have k1 := (same_new (o := .lst (xs.map V.int)) nF)
    have k2 := same_new (o := .lst [.int m]) nG
    refine ⟨F, G, _, _, rfl, rfl, k2 _ _ upd_same, upd_same, by rw [List.length_map]; exact small' (n := xs.length + 1) (by omega), fun L nL => ?_⟩
    have k3 := same_new (o := .lst (xs.map V.int ++ [.int m])) nL
    have s3 := (k1.trans k2).trans k3
    have hL : upd (upd (upd H F (.lst (xs.map V.int))) G (.lst [.int m])) L (.lst (xs.map V.int ++ [.int m])) L = some (.lst ((xs ++ [m]).map V.int)) := by
      rw [upd_same, List.map_append]
      rfl
    generalize upd (upd (upd H F (.lst (xs.map V.int))) G (.lst [.int m])) L (.lst (xs.map V.int ++ [.int m])) = H3 at s3 hL ⊢
    refine ⟨L, xs ++ [m], rfl, .inl (.inl hL), by rw [List.length_append]; show _ + 1 < 64; omega, fun ys S pm upy nS => ⟨S, _, rfl, .inl ⟨.inl (.inl upd_same), fun t nt => ?_⟩⟩⟩
    have s5 := (s3.trans (same_new (o := .lst (ys.map V.int)) nS)).trans (same_new (o := .tup (ys.map V.int)) nt)
    have ht : upd (upd H3 S (.lst (ys.map V.int))) t (.tup (ys.map V.int)) t = some (.tup (ys.map V.int)) := upd_same
    generalize upd (upd H3 S (.lst (ys.map V.int))) t (.tup (ys.map V.int)) = H5 at s5 ht ⊢
    have yl : ys.length = xs.length + 1 := by rw [pm.length_eq, List.length_append]; rfl
    have yn : ys ≠ [] := fun z => by rw [z] at yl; cases yl
    -- count
    refine ⟨small' (n := 1) (by decide), fun g1 n1 => ?_⟩
    have j1 := same_new (o := .tup [.str "count"]) n1
    refine ⟨.ref t, rfl, g1, t, .count, ys, rfl, upd_same, j1 _ _ ht, by omega, trivial, fun H6 s6 => ⟨small' (n := 1) (by decide), fun g2 n2 => ?_⟩⟩
    have j2 := same_new (o := .tup [.str "count"]) n2
    have s7 := ((s5.trans j1).trans s6).trans j2
    refine ⟨.ref v, rfl, g2, v, .count, xs, rfl, upd_same, s7 _ _ hv, by omega, trivial, fun H8 s8 => ⟨_, _, rfl, rfl, ?_⟩⟩
    have e1 : valOf .count ys = V.int ((xs.length : Int) + 1) := by
      show V.int (ys.length : Int) = _
      rw [yl]
      rfl
    rw [e1]
    refine ⟨rfl, _, rfl, ite2 (fun z => absurd z (by rw [decide_eq_true rfl]; exact Bool.false_ne_true)) (fun _ => ?_)⟩
    have s8' := s7.trans s8
    have ht8 := s8 _ _ (j2 _ _ (s6 _ _ (j1 _ _ ht)))
    -- sum
    refine ⟨small' (n := 1) (by decide), fun g3 n3 => ?_⟩
    have j3 := same_new (o := .tup [.str "sum"]) n3
    refine ⟨.ref t, rfl, g3, t, .sum, ys, rfl, upd_same, j3 _ _ ht8, by omega, trivial, fun H9 s9 => ⟨small' (n := 1) (by decide), fun g4 n4 => ?_⟩⟩
    have j4 := same_new (o := .tup [.str "sum"]) n4
    have s10 := ((s8'.trans j3).trans s9).trans j4
    refine ⟨.ref v, rfl, g4, v, .sum, xs, rfl, upd_same, s10 _ _ hv, by omega, trivial, fun H11 s11 => ⟨.int m, rfl, _, _, rfl, rfl, ?_⟩⟩
    have e2 : valOf .sum ys = V.int (xs.sum + m) := by
      show V.int ys.sum = _
      rw [perm_sum pm, List.sum_append]
      show V.int (xs.sum + ([m] : List Int).sum) = _
      rw [List.sum_cons, List.sum_nil, Int.add_zero]
    rw [e2]
    refine ⟨rfl, _, rfl, ite2 (fun z => absurd z (by rw [decide_eq_true rfl]; exact Bool.false_ne_true)) (fun _ => ?_)⟩
    have s12 := s10.trans s11
    have ht12 := s11 _ _ (j4 _ _ (s9 _ _ (j3 _ _ ht8)))
    -- ranks
    refine ⟨.ref a, rfl, .ref v, rfl, a, v, .rank p q, xs, rfl, s12 _ _ ha, s12 _ _ hv, by omega, ok, fun H13 s13 => ?_⟩
    refine ⟨.ref a, rfl, .ref t, rfl, a, t, .rank p q, ys, rfl, s13 _ _ (s12 _ _ ha), s13 _ _ ht12, by omega, ok, fun H14 s14 => ?_⟩
    obtain ⟨o0, o1, o2, o3⟩ := ok
    obtain ⟨i, old, ei, il, hi, ev⟩ := rank_place hn o0 o1 o2
    obtain ⟨j, new, ej, jl, hj, ew⟩ := rank_place yn o0 o1 o2
    rw [ev, ew]
    have hl : 0 < xs.length := by omega
    obtain ⟨n1', n2'⟩ := idx_next (n := xs.length) hl o0 o1 o2
    rw [yl] at ej
    have s15 := (s12.trans s13).trans s14
    have hT : SqT K H14 v (xs.map V.int) := .inl (.inl (s15 _ _ hv))
    have hA : SqT K H14 a [.str "rank", .int p, .int q] := .inl (.inl (s15 _ _ ha))
    refine ⟨.ref v, rfl, v, _, rfl, .inr hT, _, _, rfl, rfl, .ref a, rfl, a, _, 1, _, rfl, rfl, hA, atI_nat (j := 1) rfl, _, _, rfl, rfl, .inl ⟨?_, ?_⟩, .ref a, rfl, a, _, 2, _, rfl, rfl, hA, atI_nat (j := 2) rfl, _, _, rfl, rfl, ⟨by omega, by omega⟩, ?_⟩
    · rw [List.length_map]; omega
    · rw [List.length_map]; omega
    have ex : (((xs.map V.int).length : Int) - 1) * p / q = (i : Int) := by
      rw [List.length_map]
      exact ei
    dsimp only
    rw [ex]
    -- low, high
    rw [ei, ej] at n1' n2'
    have ij : i ≤ j ∧ j ≤ i + 1 := ⟨by omega, by omega⟩
    have cy : ∀ f : Int → Bool, (ys.filter f).length = (xs.filter f).length + (if f m = true then 1 else 0) := fun f => (perm_cnt pm f).trans (cnt_more f)
    obtain ⟨low, hlow⟩ : ∃ low, xs[i - 1]? = some low := ⟨_, List.getElem?_eq_getElem (by omega)⟩
    obtain ⟨i1, ei1, high, hhigh⟩ : ∃ i1, i1 = min (xs.length - 1) (i + 1) ∧ ∃ high, xs[i1]? = some high := ⟨_, rfl, _, List.getElem?_eq_getElem (by omega)⟩
    have al : atI (xs.map V.int) (if (i : Int) - 1 > 0 then (i : Int) - 1 else 0) = some (.int low) := by
      rw [show (if (i : Int) - 1 > 0 then (i : Int) - 1 else 0) = ((i - 1 : Nat) : Int) by split <;> omega]
      exact atI_nat (by rw [List.getElem?_map, hlow]; rfl)
    have ah : atI (xs.map V.int) (if (i : Int) + 1 < (((xs.map V.int).length : Nat) : Int) - 1 then (i : Int) + 1 else (((xs.map V.int).length : Nat) : Int) - 1) = some (.int high) := by
      rw [List.length_map, show (if (i : Int) + 1 < (xs.length : Int) - 1 then (i : Int) + 1 else (xs.length : Int) - 1) = ((i1 : Nat) : Int) by split <;> omega]
      exact atI_nat (by rw [List.getElem?_map, hhigh]; rfl)
    have fA : ¬ new < (if m < low then m else low) := fun z => by
      have a1 := (at_lt upy hj).mp z
      rw [cy, if_neg (show ¬ ltB (if m < low then m else low) m = true from fun w => by
        have := of_decide_eq_true w
        split at this <;> omega)] at a1
      have a2 : ¬ i - 1 < (xs.filter (ltB (if m < low then m else low))).length := fun w => by
        have := (at_lt up hlow).mpr w
        split at this <;> omega
      omega
    have fB : ¬ new > (if m > high then m else high) := by
      have a0 : high ≤ (if m > high then m else high) := by split <;> omega
      have a1 := (at_le up hhigh).mp a0
      have a2 := cy (leB (if m > high then m else high))
      rw [if_pos (show leB (if m > high then m else high) m = true from decide_eq_true (by split <;> omega))] at a2
      have a3 := (at_le (v := if m > high then m else high) upy hj).mpr (by omega)
      omega
    have fC : m ≥ old → ¬ new < old := fun c z => by
      have a1 := (at_lt upy hj).mp z
      rw [cy, if_neg (show ¬ ltB old m = true from fun w => by
        have := of_decide_eq_true w
        omega)] at a1
      have a2 : ¬ i < (xs.filter (ltB old)).length := fun w => by
        have := (at_lt up hi).mpr w
        omega
      omega
    have fD : ¬ m > old → new ≤ old := fun c => by
      have a1 := (at_le up hi).mp (Int.le_refl _)
      have a2 := cy (leB old)
      rw [if_pos (show leB old m = true from decide_eq_true (by omega))] at a2
      exact (at_le upy hj).mpr (by omega)
    refine ⟨.ref v, rfl, .int (i : Int), rfl, _, _, rfl, rfl, _, _, rfl, v, _, _, .int low, rfl, rfl, hT, al, ?_⟩
    refine ⟨.ref v, rfl, .ref v, rfl, v, _, rfl, .inr hT, _, _, rfl, rfl, .int (i : Int), rfl, _, _, rfl, rfl, _, _, rfl, v, _, _, .int high, rfl, rfl, hT, ah, ?_⟩
    refine ⟨.int new, rfl, .int low, rfl, .int m, rfl, _, _, rfl, _, _, rfl, rfl, _, rfl, ?_⟩
    rw [decide_eq_false fA]
    refine iteF ⟨.int new, rfl, .int high, rfl, .int m, rfl, _, _, rfl, _, _, rfl, rfl, _, rfl, ?_⟩
    rw [decide_eq_false fB]
    refine iteF ?_
    have fin := qq _ s15
    have cases_ : ¬ decide (m ≥ old) = true ∨ decide (m ≥ old) = true := (Classical.em _).symm
    refine ⟨.int m, rfl, .int old, rfl, _, _, rfl, rfl, _, rfl, ?_⟩
    rcases cases_ with e1 | e1
    case' inl =>
      rw [Bool.eq_false_iff.mpr e1]
      refine iteF (iteF ?_)
    case' inr =>
      rw [e1]
      refine iteT ⟨.int new, rfl, .int old, rfl, _, _, rfl, rfl, _, rfl, ?_⟩
      rw [decide_eq_false (fC (of_decide_eq_true e1))]
      refine iteF ?_
    all_goals (
      refine ⟨.int m, rfl, .int old, rfl, _, _, rfl, rfl, _, rfl, ite2 (fun _ => fin) (fun e => ?_)⟩
      have le := fD fun z => e (decide_eq_true z)
      refine ⟨.int new, rfl, .int old, rfl, _, _, rfl, rfl, ?_⟩
      dsimp only
      rw [decide_eq_true le]
      exact fin)
end
def sp_law (K : PySem.W.Frag) : Sp := fun vs H Q _ => ∃ (a : Addr) (ns : List Int), vs = [.ref a] ∧ SqL K H a (ns.map V.int) ∧ ns.length ≤ 63 ∧ ∀ H', Q (.bl true) H'
theorem atM_last {xs : List Int} {k : Int} (h : xs[xs.length - 1]? = some k) (hn : 0 < xs.length) : atI (xs.map V.int) (-1) = some (.int k) := by
  have e : ixN (xs.map V.int).length (-1) = some (xs.length - 1) := by
    unfold ixN
    rw [if_neg (by decide), if_pos (by rw [List.length_map]; omega), List.length_map]
    congr 1
    omega
  unfold atI
  rw [e]
  show (xs.map V.int)[xs.length - 1]? = _
  rw [List.getElem?_map, h]
  rfl
section
variable {P : Program} {w : World} {K : PySem.W.Frag} {mg : Str → Option Value} {base : Heap}
set_option maxHeartbeats 4000000 in
theorem ok_law (T : Ctx K mg) : FnOk P w K mg base CX0 3 T.f_law T.fd_law ["script"] (sp_law K) := by
  refine T.F_law.ok sc_law (fun vs H Q E h => ?_) (fun cdv A outer s H vs Q E hr h => ?_)
  · obtain ⟨a, ns, rfl, _⟩ := h
    rfl
  · obtain ⟨a, ns, rfl, hS, hlen, q⟩ := h
    refine ⟨_, (pss_cons (ps_set (i := 1) sc_law.nd rfl (.inl rfl) (pe_call (ok_l_draws T) (hr.mono (by decide)) (by rfl) T.g_l_draws T.F_l_draws.kp T.b_l_draws .nil pass0 (pa_cons (pv 0) (pa_cons pe_int pa_nil))))
      (pss_cons (ps_set (i := 2) sc_law.nd rfl (.inl rfl) (pe_call (ok_l_cell T) (hr.mono (by decide)) (by rfl) T.g_l_cell T.F_l_cell.kp T.b_l_cell .nil pass0 (pa_cons (pv 0) (pa_cons (pv 1) pa_nil))))
      (pss_cons (ps_set (i := 3) sc_law.nd rfl (.inl rfl) (pe_call (ok_l_values T) (hr.mono (by decide)) (by rfl) T.g_l_values T.F_l_values.kp T.b_l_values .nil pass0 (pa_cons (pv 1) (pa_cons (pv 2) pa_nil))))
      (pss_cons (ps_if (pt_cmpR op_eq (pe_callB call_len_seq (by rfl) T.m_len (by decide +kernel) (pa_cons (pv 3) pa_nil)) pe_int (nomark _))
        (pss_one (ps_set (i := 3) sc_law.nd rfl (.inl rfl) (pe_tup (pa_cons (pv 2) pa_nil))))
        pss_nil)
      (pss_cons (ps_set (i := 4) sc_law.nd rfl (.inl rfl) (pe_call (ok_l_rank T) (hr.mono (by decide)) (by rfl) T.g_l_rank T.F_l_rank.kp T.b_l_rank .nil pass0 (pa_cons (pv 1) pa_nil)))
      (pss_cons (ps_set (i := 5) sc_law.nd rfl (.inl rfl) (pe_call (ok_l_rank T) (hr.mono (by decide)) (by rfl) T.g_l_rank T.F_l_rank.kp T.b_l_rank .nil pass0 (pa_cons (pv 1) pa_nil)))
      (pss_cons (ps_if (pt_cmpR op_eq (pe_call (ok_l_take T) (hr.mono (by decide)) (by rfl) T.g_l_take T.F_l_take.kp T.b_l_take .nil pass0 (pa_cons (pv 1) (pa_cons pe_int pa_nil))) pe_int (nomark _))
        (pss_cons (ps_set (i := 6) sc_law.nd rfl (.inl rfl) (pe_op op_fdiv pe_int (pe_ix ix_tup (pv 4) pe_int (fun _ _ => rfl))))
      (pss_one (ps_set (i := 5) sc_law.nd rfl (.inl rfl) (pe_tup (pa_cons pe_str (pa_cons (pe_op op_mul (pe_ix ix_tup (pv 4) pe_int (fun _ _ => rfl)) (pv 6)) (pa_cons (pe_op op_mul (pe_ix ix_tup (pv 4) pe_int (fun _ _ => rfl)) (pv 6)) pa_nil)))))))
        pss_nil)
      (pss_cons (ps_if (PW.pt (pw_or (pt_not (pt_val (pe_call (ok_l_between T) (hr.mono (by decide)) (by rfl) T.g_l_between T.F_l_between.kp T.b_l_between .nil pass0 (pa_cons (pv 4) (pa_cons (pv 3) pa_nil))))) (pw_or (pt_not (pt_val (pe_call (ok_l_between T) (hr.mono (by decide)) (by rfl) T.g_l_between T.F_l_between.kp T.b_l_between .nil pass0 (pa_cons (pv 5) (pa_cons (pv 3) pa_nil))))) (pw_or1 (pt_not (pt_val (pe_call (ok_l_ordered T) (hr.mono (by decide)) (by rfl) T.g_l_ordered T.F_l_ordered.kp T.b_l_ordered .nil pass0 (pa_cons (pv 4) (pa_cons (pv 5) (pa_cons (pv 3) pa_nil))))))))))
        (pss_one (ps_ret pe_bl))
        pss_nil)
      (pss_cons (ps_set (i := 7) sc_law.nd rfl (.inl rfl) (pe_ix ix_tup (pv 3) (pe_call (ok_l_take T) (hr.mono (by decide)) (by rfl) T.g_l_take T.F_l_take.kp T.b_l_take .nil pass0 (pa_cons (pv 1) (pa_cons (pe_callB call_len_seq (by rfl) T.m_len (by decide +kernel) (pa_cons (pv 3) pa_nil)) pa_nil))) (fun _ _ => rfl)))
      (pss_cons (ps_for PassesOwn.never rfl (pi_list (pe_lst (pa_cons (pv 7) (pa_cons (pe_op op_sub (pv 7) pe_int) (pa_cons (pe_op op_add (pv 7) pe_int) (pa_cons (pv 2) (pa_cons (pe_call (ok_l_take T) (hr.mono (by decide)) (by rfl) T.g_l_take T.F_l_take.kp T.b_l_take .nil pass0 (pa_cons (pv 1) (pa_cons pe_int pa_nil))) pa_nil))))))) (pg_name (i := 8) sc_law.nd rfl (.inl rfl))
        (pss_one (ps_if (pt_not (pt_val (pe_call (ok_l_moved T) (hr.mono (by decide)) (by rfl) T.g_l_moved T.F_l_moved.kp T.b_l_moved .nil pass0 (pa_cons (pv 4) (pa_cons (pv 3) (pa_cons (pv 8) pa_nil))))))
        (pss_one (ps_ret pe_bl))
        pss_nil)))
      (pss_one (ps_ret (pe_and (pe_cmpR op_eq (pe_call (ok_value_of T) (hr.mono (by decide)) (by rfl) T.g_value_of T.F_value_of.kp T.b_value_of .nil pass0 (pa_cons (pe_tup (pa_cons pe_str (pa_cons pe_int (pa_cons (pe_ix ix_tup (pv 4) pe_int (fun _ _ => rfl)) pa_nil)))) (pa_cons (pv 3) pa_nil))) (pe_ix ix_tup (pv 3) pe_int (fun _ _ => rfl)) (nomark _)) (pe_one (pe_cmpR op_eq (pe_call (ok_value_of T) (hr.mono (by decide)) (by rfl) T.g_value_of T.F_value_of.kp T.b_value_of .nil pass0 (pa_cons (pe_tup (pa_cons pe_str (pa_cons (pe_ix ix_tup (pv 4) pe_int (fun _ _ => rfl)) (pa_cons (pe_ix ix_tup (pv 4) pe_int (fun _ _ => rfl)) pa_nil)))) (pa_cons (pv 3) pa_nil))) (pe_ix ix_tup (pv 3) (pe_un un_neg pe_int) (fun _ _ => rfl)) (nomark _)))))))))))))))), ?_⟩
    refine ⟨.ref a, rfl, a, ns, 80, rfl, hS, by omega, by decide, fun H1 d s1 nd hd => ?_⟩
    refine ⟨.ref a, rfl, .ref d, rfl, a, d, ns, rfl, fun H' r => r.script hS nd s1, hd, fun H2 c r2 _ => ?_⟩
    refine ⟨.ref d, rfl, .int c, rfl, d, c, rfl, r2.at_, fun H3 v0 xs0 r3 hv0 lx0 up0 => ?_⟩
    have r13 := r2.trans r3
    refine ⟨.ref v0, rfl, v0, _, rfl, .inr (.inl (.inl hv0)), rfl, _, rfl, ite2 (fun e => ?c1) (fun e => ?c2)⟩
    case' c1 =>
      refine ⟨.int c, rfl, small' (n := 1) (by decide), fun t nt => ?_⟩
      obtain ⟨H4, v, xs, eH, ev, hv, few, hn, up, r4⟩ : ∃ (H4 : Hp) (v : Addr) (xs : List Int), H4 = upd H3 t (.tup [.int c]) ∧ v = t ∧ H4 v = some (.tup (xs.map V.int)) ∧ xs.length ≤ 60 ∧ xs ≠ [] ∧ xs.Pairwise (· ≤ ·) ∧ Dr d H1 H4 := ⟨_, t, [c], rfl, rfl, upd_same, (show 1 ≤ 60 by decide), by simp, List.pairwise_singleton _ _, r13.then (same_new nt)⟩
      rw [← eH, ← ev]
    case' c2 =>
      obtain ⟨H4, v, xs, eH, ev, hv, few, hn, up, r4⟩ : ∃ (H4 : Hp) (v : Addr) (xs : List Int), H4 = H3 ∧ v = v0 ∧ H4 v = some (.tup (xs.map V.int)) ∧ xs.length ≤ 60 ∧ xs ≠ [] ∧ xs.Pairwise (· ≤ ·) ∧ Dr d H1 H4 := ⟨_, v0, xs0, rfl, rfl, hv0, by omega, fun z => by subst z; exact e (decide_eq_true rfl), up0, r13⟩
      rw [← eH, ← ev]
    all_goals (
      clear eH ev
      have hl : 0 < xs.length := List.length_pos_iff.mpr hn
      refine ⟨.ref d, rfl, d, rfl, r4.at_, fun H5 w1 p1 q1 r5 hw1 o10 o11 o12 o13 => ?_⟩
      refine ⟨.ref d, rfl, d, rfl, r5.at_, fun H6 w2 p2 q2 r6 hw2 o20 o21 o22 o23 => ?_⟩
      have hv6 := r6.tupA r5.at_ (r5.tupA r4.at_ hv)
      have hw16 := r6.tupA r5.at_ hw1
      have r16 := (r4.trans r5).trans r6
      refine ⟨.ref d, rfl, d, _, rfl, r16.at_, by decide, fun H7 u r7 u0 u1 => ⟨rfl, _, rfl, ?_⟩⟩
      rcases Classical.em (decide (V.int u = V.int 0) = true) with e | e
      case' inl =>
        rw [e]
        refine iteT ?_
        have hU : SqT K H7 w1 [.str "rank", .int p1, .int q1] := .inl (.inl (r7.tupA r16.at_ hw16))
        refine ⟨.ref w1, rfl, w1, _, 2, _, rfl, rfl, hU, atI_nat (j := 2) rfl, _, _, rfl, rfl, ⟨by omega, by omega⟩, ?_⟩
        have t1 : 20 / q1 * q1 ≤ 20 := (ediv_le_iff (by omega)).mp (Int.le_refl _)
        have t0 : 1 ≤ 20 / q1 := (ediv_le_iff (by omega)).mpr (by omega)
        have t2 : 20 / q1 ≤ 20 := Int.le_trans (Int.ediv_le_self _ (by decide)) (by decide)
        dsimp only
        generalize 20 / q1 = tm at t0 t1 t2
        refine ⟨.ref w1, rfl, w1, _, 1, _, rfl, rfl, hU, atI_nat (j := 1) rfl, .int tm, rfl, _, _, rfl, rfl, .inl ⟨by omega, by omega⟩, .ref w1, rfl, w1, _, 2, _, rfl, rfl, hU, atI_nat (j := 2) rfl, .int tm, rfl, _, _, rfl, rfl, .inl ⟨by omega, by omega⟩, small' (n := 3) (by decide), fun w3 n3 => ?_⟩
        obtain ⟨H8, w, p, qq, yt, eH, ew, hw, c0, c1, c2, c3, hv8, hw8, r8⟩ : ∃ (H8 : Hp) (w : Addr) (p qq : Int) (yt : Option V), H8 = upd H7 w3 (.tup [.str "rank", .int (p1 * tm), .int (q1 * tm)]) ∧ w = w3 ∧ AgAt H8 w (.rank p qq) ∧ 0 ≤ p ∧ p ≤ qq ∧ 1 ≤ qq ∧ qq ≤ 1000 ∧ H8 v = some (.tup (xs.map V.int)) ∧ AgAt H8 w1 (.rank p1 q1) ∧ Dr d H1 H8 := by
          have k := same_new (o := .tup [.str "rank", .int (p1 * tm), .int (q1 * tm)]) n3
          refine ⟨_, w3, p1 * tm, q1 * tm, none, rfl, rfl, upd_same, Int.mul_nonneg o10 (by omega), Int.mul_le_mul_of_nonneg_right o11 (by omega), ?_, ?_, k _ _ (r7.tupA r16.at_ hv6), k _ _ (r7.tupA r16.at_ hw16), (r16.trans r7).then k⟩
          · have := Int.mul_le_mul o12 t0 (by omega) (by omega)
            omega
          · rw [Int.mul_comm]; omega
        rw [← eH, ← ew]
      case' inr =>
        rw [Bool.eq_false_iff.mpr e]
        refine iteF ?_
        obtain ⟨H8, w, p, qq, yt, eH, ew, hw, c0, c1, c2, c3, hv8, hw8, r8⟩ : ∃ (H8 : Hp) (w : Addr) (p qq : Int) (yt : Option V), H8 = H7 ∧ w = w2 ∧ AgAt H8 w (.rank p qq) ∧ 0 ≤ p ∧ p ≤ qq ∧ 1 ≤ qq ∧ qq ≤ 1000 ∧ H8 v = some (.tup (xs.map V.int)) ∧ AgAt H8 w1 (.rank p1 q1) ∧ Dr d H1 H8 :=
          ⟨_, w2, p2, q2, none, rfl, rfl, r7.tupA r16.at_ hw2, o20, o21, o22, by omega, r7.tupA r16.at_ hv6, r7.tupA r16.at_ hw16, r16.trans r7⟩
        rw [← eH, ← ew]
      all_goals (
        clear eH ew
        have ok1 : (Ag.rank p1 q1).Ok := ⟨o10, o11, o12, by omega⟩
        have okw : (Ag.rank p qq).Ok := ⟨c0, c1, c2, c3⟩
        refine ⟨.ref w1, rfl, .ref v, rfl, w1, v, p1, q1, xs, rfl, hw8, ok1, hv8, by omega, hn, up, fun H9 s9 => ⟨true, rfl, iteF ?_⟩⟩
        refine ⟨.ref w, rfl, .ref v, rfl, w, v, p, qq, xs, rfl, s9 _ _ hw, okw, s9 _ _ hv8, by omega, hn, up, fun H10 s10 => ⟨true, rfl, iteF ?_⟩⟩
        have s810 := s9.trans s10
        refine ⟨.ref w1, rfl, .ref w, rfl, .ref v, rfl, w1, w, v, p1, q1, p, qq, xs, rfl, s810 _ _ hw8, ok1, s810 _ _ hw, okw, s810 _ _ hv8, by omega, hn, up, fun H11 s11 => ⟨true, rfl, iteF ?_⟩⟩
        have r11 := r8.then (s810.trans s11)
        have hv11 := (s810.trans s11) _ _ hv8
        have hw11 := (s810.trans s11) _ _ hw8
        have hT11 : SqT K H11 v (xs.map V.int) := .inl (.inl hv11)
        refine ⟨.ref v, rfl, .ref d, rfl, .ref v, rfl, v, _, rfl, .inr hT11, d, _, rfl, r11.at_, by rw [List.length_map]; omega, fun H12 x r12 x0 x1 => ?_⟩
        rw [List.length_map] at x1
        obtain ⟨val, _, va⟩ := pickI (xs := xs) rfl x0 x1
        have hv12 := r12.tupA r11.at_ hv11
        refine ⟨v, _, _, .int val, rfl, rfl, .inl (.inl hv12), va, ?_⟩
        refine ⟨.int val, rfl, .int val, rfl, _, _, rfl, rfl, .int val, rfl, _, _, rfl, rfl, .int c, rfl, .ref d, rfl, d, _, rfl, r12.at_, by decide, fun H13 y r13 y0 y1 => ⟨small' (n := 5) (by decide), fun L nL => ?_⟩⟩
        have kL := same_new (o := .lst [.int val, .int (val - 1), .int (val + 1), .int c, .int y]) nL
        have hL : upd H13 L (.lst [.int val, .int (val - 1), .int (val + 1), .int c, .int y]) L = some (.lst ([val, val - 1, val + 1, c, y].map V.int)) := upd_same
        have hvL := kL _ _ (r13.tupA r12.at_ hv12)
        have hwL := kL _ _ (r13.tupA r12.at_ (r12.tupA r11.at_ hw11))
        generalize upd H13 L (.lst [.int val, .int (val - 1), .int (val + 1), .int c, .int y]) = HL at kL hL hvL hwL
        refine ⟨L, rfl, ⟨_, .inl (.inl hL)⟩, for_list (K := K) (a := L) (xs := [val, val - 1, val + 1, c, y].map V.int) (fun j σ H' => ∃ y6 y8 : Option V, σ = [some (.ref a), some (.ref d), some (.int c), some (.ref v), some (.ref w1), some (.ref w), y6, some (.int val), y8] ∧ Same HL H') ⟨_, _, rfl, Same.refl _⟩ (fun j σ H' _ hp => ?_) (fun j x σ H' hx hp => ?_) (fun σ H' hp => ?_)⟩
        · obtain ⟨_, _, _, s⟩ := hp
          exact .inl (.inl (s _ _ hL))
        · obtain ⟨y6, y8, rfl, s⟩ := hp
          obtain ⟨m, hm, rfl⟩ := int_at hx
          exact ⟨.ref w1, rfl, .ref v, rfl, .int m, rfl, w1, v, p1, q1, m, xs, rfl, s _ _ hwL, ok1, s _ _ hvL, few, hn, up, fun H3 s3 => ⟨true, rfl, iteF ⟨_, _, rfl, s.trans s3⟩⟩⟩
        obtain ⟨y6, y8, rfl, s⟩ := hp
        have hvE := s _ _ hvL
        have hWE : SqT K H' w1 [.str "rank", .int p1, .int q1] := .inl (.inl (s _ _ hwL))
        refine ⟨.ref w1, rfl, w1, _, 2, _, rfl, rfl, hWE, atI_nat (j := 2) rfl, small' (n := 3) (by decide), fun t nt => ?_⟩
        have kt := same_new (o := .tup [.str "rank", .int 0, .int q1]) nt
        refine ⟨.ref v, rfl, t, v, .rank 0 q1, xs, rfl, upd_same, kt _ _ hvE, by omega, ⟨Int.le_refl 0, by omega, o12, by omega⟩, fun HF sF => ?_⟩
        obtain ⟨i, k, ei, il, hk, ev⟩ := rank_place (p := 0) (q := q1) hn (Int.le_refl 0) (by omega) o12
        rw [idx_zero] at ei
        rw [ev]
        have hvF := sF _ _ (kt _ _ hvE)
        have hTF : SqT K HF v (xs.map V.int) := .inl (.inl hvF)
        have e0 : i = 0 := by omega
        subst e0
        refine ⟨.ref v, rfl, v, _, 0, _, rfl, rfl, hTF, atI_nat (j := 0) (by rw [List.getElem?_map, hk]; rfl), rfl, _, rfl, ?_⟩
        rw [decide_eq_true rfl]
        have hWF : SqT K HF w1 [.str "rank", .int p1, .int q1] := .inl (.inl (sF _ _ (kt _ _ (s _ _ hwL))))
        refine iteT ⟨.ref w1, rfl, w1, _, 2, _, rfl, rfl, hWF, atI_nat (j := 2) rfl, .ref w1, rfl, w1, _, 2, _, rfl, rfl, hWF, atI_nat (j := 2) rfl, small' (n := 3) (by decide), fun t' nt' => ?_⟩
        have kt' := same_new (o := .tup [.str "rank", .int q1, .int q1]) nt'
        refine ⟨.ref v, rfl, t', v, .rank q1 q1, xs, rfl, upd_same, kt' _ _ hvF, by omega, ⟨by omega, Int.le_refl _, o12, by omega⟩, fun HG sG => ?_⟩
        obtain ⟨i, k, ei, il, hk, ev⟩ := rank_place (p := q1) (q := q1) hn (by omega) (Int.le_refl _) o12
        rw [idx_all o12] at ei
        rw [ev]
        have ei' : i = xs.length - 1 := by omega
        subst ei'
        refine ⟨.ref v, rfl, _, rfl, v, _, _, _, rfl, rfl, .inl (.inl (sG _ _ (kt' _ _ hvF))), atM_last hk hl, rfl, ?_⟩
        rw [decide_eq_true rfl]
        exact q _))
end
theorem all_mk {l : PySem.W.OpenLaw} {w : World} {K : PySem.W.Frag} {h : Heap} {mg : Str → Option Value} {fa : Addr} (X : K.In h) (G : h.Ns mainGlobals mg) (hfa : mg "law" = some (.ref fa)) 
    {f1 : Addr} {od1 an1 : Option Addr} {sl1 : Array (Option Value)} {oc1 kV1 dc1 pm1 cd1 ct1 : Value}
    {f2 : Addr} {od2 an2 : Option Addr} {sl2 : Array (Option Value)} {oc2 kV2 dc2 pm2 cd2 ct2 : Value}
    {f3 : Addr} {od3 an3 : Option Addr} {sl3 : Array (Option Value)} {oc3 kV3 dc3 pm3 cd3 ct3 : Value}
    {f4 : Addr} {od4 an4 : Option Addr} {sl4 : Array (Option Value)} {oc4 kV4 dc4 pm4 cd4 ct4 : Value}
    {f5 : Addr} {od5 an5 : Option Addr} {sl5 : Array (Option Value)} {oc5 kV5 dc5 pm5 cd5 ct5 : Value}
    {f6 : Addr} {od6 an6 : Option Addr} {sl6 : Array (Option Value)} {oc6 kV6 dc6 pm6 cd6 ct6 : Value}
    {f7 : Addr} {od7 an7 : Option Addr} {sl7 : Array (Option Value)} {oc7 kV7 dc7 pm7 cd7 ct7 : Value}
    {f8 : Addr} {od8 an8 : Option Addr} {sl8 : Array (Option Value)} {oc8 kV8 dc8 pm8 cd8 ct8 : Value}
    {f9 : Addr} {od9 an9 : Option Addr} {sl9 : Array (Option Value)} {oc9 kV9 dc9 pm9 cd9 ct9 : Value}
    {f10 : Addr} {od10 an10 : Option Addr} {sl10 : Array (Option Value)} {oc10 kV10 dc10 pm10 cd10 ct10 : Value}
    (a1 : PySem.W.nsIn K mainGlobals "value_of" = some (some (.ref f1))) (l1 : K.lookup f1 = some ⟨oc1, od1, .func (PySem.W.fnOf "value_of" "value_of" (defArgs s_value_of) (defBody s_value_of) (defScope s_value_of) .none kV1 dc1 pm1 an1 cd1 ct1), sl1⟩) (c1 : PySem.W.codeIn K cd1 "value_of" = true) (k1 : PySem.W.keepIn K (.ref f1) = true)
    (a2 : PySem.W.nsIn K mainGlobals "_law_draws" = some (some (.ref f2))) (l2 : K.lookup f2 = some ⟨oc2, od2, .func (PySem.W.fnOf "_law_draws" "_law_draws" (defArgs s_l_draws) (defBody s_l_draws) (defScope s_l_draws) .none kV2 dc2 pm2 an2 cd2 ct2), sl2⟩) (c2 : PySem.W.codeIn K cd2 "_law_draws" = true) (k2 : PySem.W.keepIn K (.ref f2) = true)
    (a3 : PySem.W.nsIn K mainGlobals "_law_take" = some (some (.ref f3))) (l3 : K.lookup f3 = some ⟨oc3, od3, .func (PySem.W.fnOf "_law_take" "_law_take" (defArgs s_l_take) (defBody s_l_take) (defScope s_l_take) .none kV3 dc3 pm3 an3 cd3 ct3), sl3⟩) (c3 : PySem.W.codeIn K cd3 "_law_take" = true) (k3 : PySem.W.keepIn K (.ref f3) = true)
    (a4 : PySem.W.nsIn K mainGlobals "_law_cell" = some (some (.ref f4))) (l4 : K.lookup f4 = some ⟨oc4, od4, .func (PySem.W.fnOf "_law_cell" "_law_cell" (defArgs s_l_cell) (defBody s_l_cell) (defScope s_l_cell) .none kV4 dc4 pm4 an4 cd4 ct4), sl4⟩) (c4 : PySem.W.codeIn K cd4 "_law_cell" = true) (k4 : PySem.W.keepIn K (.ref f4) = true)
    (a5 : PySem.W.nsIn K mainGlobals "_law_values" = some (some (.ref f5))) (l5 : K.lookup f5 = some ⟨oc5, od5, .func (PySem.W.fnOf "_law_values" "_law_values" (defArgs s_l_values) (defBody s_l_values) (defScope s_l_values) .none kV5 dc5 pm5 an5 cd5 ct5), sl5⟩) (c5 : PySem.W.codeIn K cd5 "_law_values" = true) (k5 : PySem.W.keepIn K (.ref f5) = true)
    (a6 : PySem.W.nsIn K mainGlobals "_law_rank" = some (some (.ref f6))) (l6 : K.lookup f6 = some ⟨oc6, od6, .func (PySem.W.fnOf "_law_rank" "_law_rank" (defArgs s_l_rank) (defBody s_l_rank) (defScope s_l_rank) .none kV6 dc6 pm6 an6 cd6 ct6), sl6⟩) (c6 : PySem.W.codeIn K cd6 "_law_rank" = true) (k6 : PySem.W.keepIn K (.ref f6) = true)
    (a7 : PySem.W.nsIn K mainGlobals "_law_between" = some (some (.ref f7))) (l7 : K.lookup f7 = some ⟨oc7, od7, .func (PySem.W.fnOf "_law_between" "_law_between" (defArgs s_l_between) (defBody s_l_between) (defScope s_l_between) .none kV7 dc7 pm7 an7 cd7 ct7), sl7⟩) (c7 : PySem.W.codeIn K cd7 "_law_between" = true) (k7 : PySem.W.keepIn K (.ref f7) = true)
    (a8 : PySem.W.nsIn K mainGlobals "_law_ordered" = some (some (.ref f8))) (l8 : K.lookup f8 = some ⟨oc8, od8, .func (PySem.W.fnOf "_law_ordered" "_law_ordered" (defArgs s_l_ordered) (defBody s_l_ordered) (defScope s_l_ordered) .none kV8 dc8 pm8 an8 cd8 ct8), sl8⟩) (c8 : PySem.W.codeIn K cd8 "_law_ordered" = true) (k8 : PySem.W.keepIn K (.ref f8) = true)
    (a9 : PySem.W.nsIn K mainGlobals "_law_moved" = some (some (.ref f9))) (l9 : K.lookup f9 = some ⟨oc9, od9, .func (PySem.W.fnOf "_law_moved" "_law_moved" (defArgs s_l_moved) (defBody s_l_moved) (defScope s_l_moved) .none kV9 dc9 pm9 an9 cd9 ct9), sl9⟩) (c9 : PySem.W.codeIn K cd9 "_law_moved" = true) (k9 : PySem.W.keepIn K (.ref f9) = true)
    (a10 : PySem.W.nsIn K mainGlobals "law" = some (some (.ref f10))) (l10 : K.lookup f10 = some ⟨oc10, od10, .func (PySem.W.fnOf "law" "law" (defArgs s_law) (defBody s_law) (defScope s_law) .none kV10 dc10 pm10 an10 cd10 ct10), sl10⟩) (c10 : PySem.W.codeIn K cd10 "law" = true) (k10 : PySem.W.keepIn K (.ref f10) = true)
    (z11 : PySem.W.nsIn K mainGlobals "int" = some none)
    (z12 : PySem.W.nsIn K mainGlobals "len" = some none)
    (z13 : PySem.W.nsIn K mainGlobals "list" = some none)
    (z14 : PySem.W.nsIn K mainGlobals "max" = some none)
    (z15 : PySem.W.nsIn K mainGlobals "min" = some none)
    (z16 : PySem.W.nsIn K mainGlobals "range" = some none)
    (z17 : PySem.W.nsIn K mainGlobals "sorted" = some none)
    (z18 : PySem.W.nsIn K mainGlobals "sum" = some none)
    (z19 : PySem.W.nsIn K mainGlobals "tuple" = some none) :
    ∃ fd : FuncData, (∀ (s : Shared) (v : Value), BindsTo s fd ⟨[v], []⟩ [("script", v)]) ∧ ∀ base : Heap, K.In base → base.Ns mainGlobals mg →  FnOk l.prog w K mg base CX0 3 fa fd ["script"] (sp_law K) := by
  have e := hfa.symm.trans (PySem.W.mg_of X G a10)
  cases e
  have F1 := fun_mk (st := s_value_of) l1 c1 k1
  have B1 := F1.binds (ps := ["aggregate", "values"]) (fun _ _ _ _ _ _ us hl => match us, hl with | [_, _], _ => rfl)
  have F2 := fun_mk (st := s_l_draws) l2 c2 k2
  have B2 := F2.binds (ps := ["script", "many"]) (fun _ _ _ _ _ _ us hl => match us, hl with | [_, _], _ => rfl)
  have F3 := fun_mk (st := s_l_take) l3 c3 k3
  have B3 := F3.binds (ps := ["draws", "many"]) (fun _ _ _ _ _ _ us hl => match us, hl with | [_, _], _ => rfl)
  have F4 := fun_mk (st := s_l_cell) l4 c4 k4
  have B4 := F4.binds (ps := ["script", "draws"]) (fun _ _ _ _ _ _ us hl => match us, hl with | [_, _], _ => rfl)
  have F5 := fun_mk (st := s_l_values) l5 c5 k5
  have B5 := F5.binds (ps := ["draws", "cell"]) (fun _ _ _ _ _ _ us hl => match us, hl with | [_, _], _ => rfl)
  have F6 := fun_mk (st := s_l_rank) l6 c6 k6
  have B6 := F6.binds (ps := ["draws"]) (fun _ _ _ _ _ _ us hl => match us, hl with | [_], _ => rfl)
  have F7 := fun_mk (st := s_l_between) l7 c7 k7
  have B7 := F7.binds (ps := ["rank", "values"]) (fun _ _ _ _ _ _ us hl => match us, hl with | [_, _], _ => rfl)
  have F8 := fun_mk (st := s_l_ordered) l8 c8 k8
  have B8 := F8.binds (ps := ["one", "two", "values"]) (fun _ _ _ _ _ _ us hl => match us, hl with | [_, _, _], _ => rfl)
  have F9 := fun_mk (st := s_l_moved) l9 c9 k9
  have B9 := F9.binds (ps := ["rank", "values", "more"]) (fun _ _ _ _ _ _ us hl => match us, hl with | [_, _, _], _ => rfl)
  have F10 := fun_mk (st := s_law) l10 c10 k10
  have B10 := F10.binds (ps := ["script"]) (fun _ _ _ _ _ _ us hl => match us, hl with | [_], _ => rfl)
  let T : Ctx K mg := { f_value_of := f1, fd_value_of := _, F_value_of := F1, b_value_of := B1, g_value_of := PySem.W.mg_of X G a1, f_l_draws := f2, fd_l_draws := _, F_l_draws := F2, b_l_draws := B2, g_l_draws := PySem.W.mg_of X G a2, f_l_take := f3, fd_l_take := _, F_l_take := F3, b_l_take := B3, g_l_take := PySem.W.mg_of X G a3, f_l_cell := f4, fd_l_cell := _, F_l_cell := F4, b_l_cell := B4, g_l_cell := PySem.W.mg_of X G a4, f_l_values := f5, fd_l_values := _, F_l_values := F5, b_l_values := B5, g_l_values := PySem.W.mg_of X G a5, f_l_rank := f6, fd_l_rank := _, F_l_rank := F6, b_l_rank := B6, g_l_rank := PySem.W.mg_of X G a6, f_l_between := f7, fd_l_between := _, F_l_between := F7, b_l_between := B7, g_l_between := PySem.W.mg_of X G a7, f_l_ordered := f8, fd_l_ordered := _, F_l_ordered := F8, b_l_ordered := B8, g_l_ordered := PySem.W.mg_of X G a8, f_l_moved := f9, fd_l_moved := _, F_l_moved := F9, b_l_moved := B9, g_l_moved := PySem.W.mg_of X G a9, f_law := fa, fd_law := _, F_law := F10, b_law := B10, g_law := PySem.W.mg_of X G a10, m_int := PySem.W.mg_none_of X G z11, m_len := PySem.W.mg_none_of X G z12, m_list := PySem.W.mg_none_of X G z13, m_max := PySem.W.mg_none_of X G z14, m_min := PySem.W.mg_none_of X G z15, m_range := PySem.W.mg_none_of X G z16, m_sorted := PySem.W.mg_none_of X G z17, m_sum := PySem.W.mg_none_of X G z18, m_tuple := PySem.W.mg_none_of X G z19 }
  exact ⟨PySem.W.fnOf "law" "law" (defArgs s_law) (defBody s_law) (defScope s_law) .none kV10 dc10 pm10 an10 cd10 ct10, fun s v => .of_eq rfl, fun base _ _  => ok_law T ⟩
end Tw
open PySem PySem.W PyProof.Rows
set_option maxHeartbeats 0 in
theorem PySem.Challenge.cw_toldwhensure_k19_ranks_between_the_ends_holds : PySem.Challenge.rw_toldwhensure_k19_ranks_between_the_ends.Holds := by
  w_on; o_law; k_head; (case hw => w_witness2)
  k_fill
  refine L2.walk_of (l := PySem.Challenge.rw_toldwhensure_k19_ranks_between_the_ends) (n := 63) (k := 3) (x := "script") (CX := fun _ => L2.CX0) (sp := fun w => Tw.sp_law _) rfl (by decide) rfl ⟨rfl, by decide, by decide⟩ (fun w h Y => PySem.W.kIn_of Y) ?F
    (fun _ _ a ns hl _ hS => ⟨a, ns, rfl, hS, hl, fun _ => rfl⟩) (fun _ _ _ _ _ h => h)
  case F =>
    intro w mg fa h KX G hmg
    refine' Tw.all_mk KX G hmg  ?a1 ?l1 ?c1 ?k1 ?a2 ?l2 ?c2 ?k2 ?a3 ?l3 ?c3 ?k3 ?a4 ?l4 ?c4 ?k4 ?a5 ?l5 ?c5 ?k5 ?a6 ?l6 ?c6 ?k6 ?a7 ?l7 ?c7 ?k7 ?a8 ?l8 ?c8 ?k8 ?a9 ?l9 ?c9 ?k9 ?a10 ?l10 ?c10 ?k10 ?z11 ?z12 ?z13 ?z14 ?z15 ?z16 ?z17 ?z18 ?z19
    (case a1 => k_is); (case l1 => k_is); (case c1 => k_is); (case k1 => k_is); (case a2 => k_is); (case l2 => k_is); (case c2 => k_is); (case k2 => k_is); (case a3 => k_is); (case l3 => k_is); (case c3 => k_is); (case k3 => k_is); (case a4 => k_is); (case l4 => k_is); (case c4 => k_is); (case k4 => k_is); (case a5 => k_is); (case l5 => k_is); (case c5 => k_is); (case k5 => k_is); (case a6 => k_is); (case l6 => k_is); (case c6 => k_is); (case k6 => k_is); (case a7 => k_is); (case l7 => k_is); (case c7 => k_is); (case k7 => k_is); (case a8 => k_is); (case l8 => k_is); (case c8 => k_is); (case k8 => k_is); (case a9 => k_is); (case l9 => k_is); (case c9 => k_is); (case k9 => k_is); (case a10 => k_is); (case l10 => k_is); (case c10 => k_is); (case k10 => k_is); (case z11 => k_is); (case z12 => k_is); (case z13 => k_is); (case z14 => k_is); (case z15 => k_is); (case z16 => k_is); (case z17 => k_is); (case z18 => k_is); (case z19 => k_is)
