import PyProof.Rows.All
import Wide.All
import OpenK.AllK
import Wide.FinOn
import PyProof.Rows.ReprOcc
import HandS.ForMost
import HandS.Wide
import HandS.WideBits
import HandS.TupAny
import HandS.IsInst
import HandS.SetFor
import HandS.SetTxt0
import HandS.Strs
import HandS.More
import HandS.EndBits
import HandS.Zip
import HandS.FStr
import PySem.Challenge.RW_toldwhensure_k39_final_answers
set_option Elab.async false
set_option linter.all false
set_option maxRecDepth 100000

namespace Tw
open PySem PySem.Spec PyProof.Rows L2
/-! what the laws' helpers do to the heap: the draws at d shrink, all else stands -/
def DrA (H : Hp) (d : Addr) : Prop := ∃ ns : List Int, H d = some (.lst (ns.map V.int))
structure Dr (d : Addr) (H H' : Hp) : Prop where
  keep : ∀ b o, b ≠ d → H b = some o → H' b = some o
  at_ : DrA H' d
theorem Dr.refl {d : Addr} {H : Hp} (h : DrA H d) : Dr d H H := ⟨fun _ _ _ e => e, h⟩
theorem Dr.trans {d : Addr} {H H1 H2 : Hp} (a : Dr d H H1) (b : Dr d H1 H2) : Dr d H H2 := ⟨fun c o n e => b.keep c o n (a.keep c o n e), b.at_⟩
theorem Dr.then {d : Addr} {H H1 H2 : Hp} (a : Dr d H H1) (b : Same H1 H2) : Dr d H H2 := ⟨fun c o n e => b c o (a.keep c o n e), let ⟨ns, q⟩ := a.at_; ⟨ns, b d _ q⟩⟩
theorem Dr.of {d : Addr} {H H1 : Hp} (h : DrA H d) (b : Same H H1) : Dr d H H1 := (Dr.refl h).then b
theorem Dr.free {d : Addr} {H H' : Hp} (a : Dr d H H') (h : DrA H d) {l : Addr} (n : H' l = none) : H l = none := by
  cases q : H l with
  | none => rfl
  | some o =>
    by_cases e : l = d
    · obtain ⟨_, z⟩ := a.at_
      rw [e, z] at n
      cases n
    · rw [a.keep l o e q] at n
      cases n
theorem Dr.ne {d : Addr} {H H' : Hp} (a : Dr d H H') {l : Addr} (n : H' l = none) : l ≠ d := fun e => by
  obtain ⟨_, z⟩ := a.at_
  rw [e, z] at n
  cases n
theorem Dr.seq {K : PySem.W.Frag} {d a : Addr} {H H' : Hp} {xs : List V} (r : Dr d H H') (ne : a ≠ d) (h : SqL K H a xs) : SqL K H' a xs := by
  rcases h with (h | ⟨o, h⟩) | h
  · exact .inl (.inl (r.keep _ _ ne h))
  · exact .inl (.inr ⟨o, r.keep _ _ ne h⟩)
  · exact .inr h
theorem same_new {H : Hp} {p : Addr} {o : HO} (h : H p = none) : Same H (upd H p o) := fun b x e => by
  rw [upd_ne (ne_of_none e h)]
  exact e
theorem drA_upd {H : Hp} {d : Addr} (ns : List Int) : DrA (upd H d (.lst (ns.map V.int))) d := ⟨ns, upd_same⟩
theorem dr_upd {H : Hp} {d : Addr} (ns : List Int) : Dr d H (upd H d (.lst (ns.map V.int))) := ⟨fun b o n e => by rw [upd_ne n]; exact e, drA_upd ns⟩
theorem at_last {α : Type} {xs : List α} (h : xs ≠ []) : xs[xs.length - 1]? = some (xs.getLast h) := by
  rw [← List.getLast?_eq_getElem?, List.getLast?_eq_getLast h]
theorem map_at {ns : List Int} {i : Nat} (h : i < ns.length) : (ns.map V.int)[i]? = some (.int ns[i]) := by
  rw [List.getElem?_map, List.getElem?_eq_getElem h]
  rfl
theorem sline : (2000 : Nat) < sizeLine := by decide
theorem small {n : Nat} (h : n ≤ 2000) : n < sizeLine := Nat.lt_of_le_of_lt h sline
theorem small' {n : Nat} (h : n ≤ 2000) : n ≤ sizeLine := Nat.le_of_lt (small h)
theorem atI_z {α : Type} {xs : List α} {z : Int} {j : Nat} {v : α} (e : z = (j : Int)) (h : xs[j]? = some v) : atI xs z = some v := by
  rw [e]
  exact atI_nat h
theorem atI_pos {α : Type} {xs : List α} {z : Int} (h0 : 0 ≤ z) (h1 : z < xs.length) : atI xs z = some (xs[z.toNat]'(by omega)) :=
  atI_z (j := z.toNat) (by omega) (List.getElem?_eq_getElem (by omega))
theorem atM_pos {ns : List Int} {z : Int} (h0 : 0 ≤ z) (h1 : z < ns.length) : atI (ns.map V.int) z = some (.int (ns[z.toNat]'(by omega))) :=
  atI_z (j := z.toNat) (by omega) (map_at (by omega))
/-- an address that was not there at the beginning may be written -/
theorem Dr.keepNew {d p : Addr} {H H' : Hp} {o : HO} (r : Dr d H H') (ne : p ≠ d) (n : H p = none) : Dr d H (upd H' p o) :=
  ⟨fun b x nb e => by rw [upd_ne (ne_of_none e n)]; exact r.keep b x nb e, let ⟨ns, z⟩ := r.at_; ⟨ns, by rw [upd_ne ne.symm]; exact z⟩⟩
/-- the script is read behind every draw -/
theorem Dr.script {K : PySem.W.Frag} {d a : Addr} {H H1 H' : Hp} {xs : List V} (h : SqL K H a xs) (n : H d = none) (s : Same H H1) (r : Dr d H1 H') : SqL K H' a xs := by
  rcases h with (h | ⟨o, h⟩) | h
  · exact .inl (.inl (r.keep _ _ (ne_of_none h n) (s _ _ h)))
  · exact .inl (.inr ⟨o, r.keep _ _ (ne_of_none h n) (s _ _ h)⟩)
  · exact .inr h
theorem same_keep {H H' : Hp} {p : Addr} {o : HO} (s : Same H H') (n : H p = none) : Same H (upd H' p o) := fun b x e => by
  rw [upd_ne (ne_of_none e n)]
  exact s b x e

def topS (i : Nat) : Stmt := PySem.Challenge.pw_toldwhensure_k39_final_answers.main.body.getD i (.Pass ⟨0, 0, 0, 0⟩)
abbrev s_is_final : Stmt := topS 1
theorem sc_is_final : FnScope ["aggregate", "answer", "low", "high", "empty"] ["aggregate", "answer"] (defScope s_is_final) := ⟨rfl, rfl, rfl, by decide +kernel, rfl, by decide +kernel, by decide +kernel⟩
abbrev s_l_draws : Stmt := topS 3
theorem sc_l_draws : FnScope ["script", "many", "cells", "rest", "draws", "k", "at", "once", "cell"] ["script", "many"] (defScope s_l_draws) := ⟨rfl, rfl, rfl, by decide +kernel, rfl, by decide +kernel, by decide +kernel⟩
abbrev s_l_take : Stmt := topS 4
theorem sc_l_take : FnScope ["draws", "many"] ["draws", "many"] (defScope s_l_take) := ⟨rfl, rfl, rfl, by decide +kernel, rfl, by decide +kernel, by decide +kernel⟩
abbrev s_l_same : Stmt := topS 5
theorem sc_l_same : FnScope ["actual", "due", "k"] ["actual", "due"] (defScope s_l_same) := ⟨rfl, rfl, rfl, by decide +kernel, rfl, by decide +kernel, by decide +kernel⟩
abbrev s_l_cell : Stmt := topS 6
theorem sc_l_cell : FnScope ["script", "draws"] ["script", "draws"] (defScope s_l_cell) := ⟨rfl, rfl, rfl, by decide +kernel, rfl, by decide +kernel, by decide +kernel⟩
abbrev s_l_answer : Stmt := topS 7
theorem sc_l_answer : FnScope ["draws", "script", "aggregate", "low", "high", "kind"] ["draws", "script", "aggregate"] (defScope s_l_answer) := ⟨rfl, rfl, rfl, by decide +kernel, rfl, by decide +kernel, by decide +kernel⟩
abbrev s_l_is_one : Stmt := topS 8
theorem sc_l_is_one : FnScope ["aggregate", "answer"] ["aggregate", "answer"] (defScope s_l_is_one) := ⟨rfl, rfl, rfl, by decide +kernel, rfl, by decide +kernel, by decide +kernel⟩
abbrev s_law : Stmt := topS 9
theorem sc_law : FnScope ["script", "draws", "k", "q", "rank", "aggregate", "answer"] ["script"] (defScope s_law) := ⟨rfl, rfl, rfl, by decide +kernel, rfl, by decide +kernel, by decide +kernel⟩
/-- what the top has left: where each def stands; the built-ins' names are not taken -/
structure Ctx (K : PySem.W.Frag) (mg : Str → Option Value) where
  f_is_final : Addr
  fd_is_final : FuncData
  F_is_final : Fun K "is_final" "is_final" s_is_final f_is_final fd_is_final
  b_is_final : Binds K fd_is_final ["aggregate", "answer"] []
  g_is_final : mg "is_final" = some (.ref f_is_final)
  f_l_draws : Addr
  fd_l_draws : FuncData
  F_l_draws : Fun K "_law_draws" "_law_draws" s_l_draws f_l_draws fd_l_draws
  b_l_draws : Binds K fd_l_draws ["script", "many"] []
  g_l_draws : mg "_law_draws" = some (.ref f_l_draws)
  f_l_take : Addr
  fd_l_take : FuncData
  F_l_take : Fun K "_law_take" "_law_take" s_l_take f_l_take fd_l_take
  b_l_take : Binds K fd_l_take ["draws", "many"] []
  g_l_take : mg "_law_take" = some (.ref f_l_take)
  f_l_same : Addr
  fd_l_same : FuncData
  F_l_same : Fun K "_law_same" "_law_same" s_l_same f_l_same fd_l_same
  b_l_same : Binds K fd_l_same ["actual", "due"] []
  g_l_same : mg "_law_same" = some (.ref f_l_same)
  f_l_cell : Addr
  fd_l_cell : FuncData
  F_l_cell : Fun K "_law_cell" "_law_cell" s_l_cell f_l_cell fd_l_cell
  b_l_cell : Binds K fd_l_cell ["script", "draws"] []
  g_l_cell : mg "_law_cell" = some (.ref f_l_cell)
  f_l_answer : Addr
  fd_l_answer : FuncData
  F_l_answer : Fun K "_law_answer" "_law_answer" s_l_answer f_l_answer fd_l_answer
  b_l_answer : Binds K fd_l_answer ["draws", "script", "aggregate"] []
  g_l_answer : mg "_law_answer" = some (.ref f_l_answer)
  f_l_is_one : Addr
  fd_l_is_one : FuncData
  F_l_is_one : Fun K "_law_is_one" "_law_is_one" s_l_is_one f_l_is_one fd_l_is_one
  b_l_is_one : Binds K fd_l_is_one ["aggregate", "answer"] []
  g_l_is_one : mg "_law_is_one" = some (.ref f_l_is_one)
  f_law : Addr
  fd_law : FuncData
  F_law : Fun K "law" "law" s_law f_law fd_law
  b_law : Binds K fd_law ["script"] []
  g_law : mg "law" = some (.ref f_law)
  m_abs : mg "abs" = none
  m_bool : mg "bool" = none
  m_int : mg "int" = none
  m_isinstance : mg "isinstance" = none
  m_len : mg "len" = none
  m_list : mg "list" = none
  m_range : mg "range" = none
  m_str : mg "str" = none
  m_tuple : mg "tuple" = none
/-- None or an integer -/
def IN (v : V) : Prop := v = .non ∨ ∃ i, v = .int i
/-- only one value is left: of a rank, of any other -/
def oneR (e : Bool) (l h : V) : Bool := decide (l = .non) || (!e && decide (l = h))
def oneP (l h : V) : Bool := !decide (l = .non) && decide (l = h)
/-- an aggregate at a, an answer at t, and whether it is one value -/
def AnsAt (H : Hp) (a t : Addr) (b : Bool) : Prop :=
  (∃ r, H a = some (.tup (.str "rank" :: r)) ∧ ∃ e l h, H t = some (.tup [.bl e, l, h]) ∧ IN l ∧ IN h ∧ b = oneR e l h) ∨
  (∃ k r, H a = some (.tup (.str k :: r)) ∧ k ≠ "rank" ∧ ∃ l h, H t = some (.tup [l, h]) ∧ IN l ∧ IN h ∧ b = oneP l h)
def sp_is_final (K : PySem.W.Frag) : Sp := fun vs H Q _ => ∃ (a t : Addr) (b : Bool), vs = [.ref a, .ref t] ∧ AnsAt H a t b ∧ Q (.bl b) H
section
variable {P : Program} {w : World} {K : PySem.W.Frag} {mg : Str → Option Value} {base : Heap}
theorem ok_is_final (T : Ctx K mg) : FnOk P w K mg base CX0 1 T.f_is_final T.fd_is_final ["aggregate", "answer"] (sp_is_final K) := by
  refine T.F_is_final.ok sc_is_final (fun vs H Q E h => ?_) (fun cdv A outer s H vs Q E hr h => ?_)
  · obtain ⟨a, t, b, rfl, _⟩ := h
    rfl
  · obtain ⟨a, t, b, rfl, hA, q⟩ := h
    refine ⟨_, (pss_cons (ps_if (pt_cmpR op_ne (pe_ix ix_tup (pv 0) pe_int (fun _ _ => rfl)) pe_str (nomark _))
        (pss_cons (ps_asg (pv 1) (pg_tup (by rfl) (pgs_cons (pg_name (i := 2) sc_is_final.nd rfl (Or.inl rfl)) (pgs_cons (pg_name (i := 3) sc_is_final.nd rfl (Or.inl rfl)) pgs_nil))))
      (pss_one (ps_ret (pe_and (pe_cmpR op_notN (pv 2) pe_non (nomark _)) (pe_one (pe_cmpR op_eq (pv 2) (pv 3) (nomark _)))))))
        pss_nil)
      (pss_cons (ps_asg (pv 1) (pg_tup (by rfl) (pgs_cons (pg_name (i := 4) sc_is_final.nd rfl (Or.inl rfl)) (pgs_cons (pg_name (i := 2) sc_is_final.nd rfl (Or.inl rfl)) (pgs_cons (pg_name (i := 3) sc_is_final.nd rfl (Or.inl rfl)) pgs_nil)))))
      (pss_one (ps_ret (pe_or (pe_cmpR op_isN (pv 2) pe_non (nomark _)) (pe_one (pe_and (pe_not (pv 4)) (pe_one (pe_cmpR op_eq (pv 2) (pv 3) (nomark _)))))))))), ?_⟩
    rcases hA with ⟨r, ha, e, l, h, ht, hl, hh, rfl⟩ | ⟨k, r, ha, hk, l, h, ht, hl, hh, rfl⟩
    · have hT : SqT K H t [.bl e, l, h] := .inl (.inl ht)
      refine ⟨.ref a, rfl, a, _, 0, _, rfl, rfl, .inl (.inl ha), atI_nat (j := 0) rfl, rfl, _, rfl, ite2 (fun z => absurd z (by decide +kernel)) (fun _ => ?_)⟩
      refine ⟨.ref t, rfl, t, _, rfl, hT, rfl, _, _, rfl, _, _, rfl, _, _, rfl, rfl, l, rfl, rfl, ?_⟩
      rcases hl with rfl | ⟨i, rfl⟩
      · exact ⟨_, rfl, iteT q⟩
      · refine ⟨_, rfl, iteF ⟨.bl e, rfl, _, rfl, _, rfl, ?_⟩⟩
        cases e with
        | true => exact iteF q
        | false =>
          refine iteT ⟨.int i, rfl, h, rfl, ?_⟩
          rcases hh with rfl | ⟨j, rfl⟩ <;> exact ⟨rfl, q⟩
    · have hT : SqT K H t [l, h] := .inl (.inl ht)
      have nk : decide (V.str k = V.str "rank") = false := decide_eq_false fun z => hk (V.str.inj z)
      refine ⟨.ref a, rfl, a, _, 0, _, rfl, rfl, .inl (.inl ha), atI_nat (j := 0) rfl, rfl, _, rfl, ite2 (fun _ => ?_) (fun z => absurd (by rw [nk]; rfl) z)⟩
      refine ⟨.ref t, rfl, t, _, rfl, hT, rfl, _, _, rfl, _, _, rfl, rfl, l, rfl, rfl, ?_⟩
      rcases hl with rfl | ⟨i, rfl⟩
      · exact ⟨_, rfl, iteF q⟩
      · refine ⟨_, rfl, iteT ⟨.int i, rfl, h, rfl, ?_⟩⟩
        rcases hh with rfl | ⟨j, rfl⟩ <;> exact ⟨rfl, q⟩
end
def sp_l_draws (K : PySem.W.Frag) : Sp := fun vs H Q _ => ∃ (a : Addr) (ns : List Int) (m : Nat), vs = [.ref a, .int (m : Int)] ∧ SqL K H a (ns.map V.int) ∧ ns.length ≤ 1000 ∧ m ≤ 1000 ∧
  ∀ H' d, Same H H' → H d = none → DrA H' d → Q (.ref d) H'
section
variable {P : Program} {w : World} {K : PySem.W.Frag} {mg : Str → Option Value} {base : Heap}
theorem ok_l_draws (T : Ctx K mg) : FnOk P w K mg base CX0 1 T.f_l_draws T.fd_l_draws ["script", "many"] (sp_l_draws K) := by
  refine T.F_l_draws.ok sc_l_draws (fun vs H Q E h => ?_) (fun cdv A outer s H vs Q E hr h => ?_)
  · obtain ⟨a, ns, m, rfl, _⟩ := h
    rfl
  · obtain ⟨a, ns, m, rfl, hS, hlen, hm, q⟩ := h
    refine ⟨_, (pss_cons (ps_setLc (i := 2) (own := [("cell", 8)]) (g := gName 8) (by rfl) sc_l_draws.nd rfl rfl (sw_true rfl rfl rfl (by decide +kernel)) (pi_list (pv 0)) (blkOk_by (own := [("cell", 8)]) (N := ["script", "many", "cells", "rest", "draws", "k", "at", "once", "cell"]) (sc := defScope s_l_draws) (by decide +kernel)) (fun _ _ _ _ _ => pg_name (i := 8) sc_l_draws.nd rfl (Or.inl rfl)) (fun _ _ _ _ _ => pts_nil) (fun _ _ _ _ _ => (pe_callTy call_int1 (by rfl) T.m_int (by decide +kernel) (pa_cons (pv 8) pa_nil))))
      (pss_cons (ps_if (pt_cmpR op_eq (pe_callB call_len_seq (by rfl) T.m_len (by decide +kernel) (pa_cons (pv 2) pa_nil)) pe_int (nomark _))
        (pss_one (ps_expr (pe_bm PySem.F.plainAttrs_list PySem.F.slot_list_append PySem.F.type_list_append mt_append (pv 2) (pa_cons pe_int pa_nil))))
        pss_nil)
      (pss_cons (ps_set (i := 3) sc_l_draws.nd rfl (.inl rfl) (pe_callTy call_list_of (by rfl) T.m_list (by decide +kernel) (pa_cons (pv 2) pa_nil)))
      (pss_cons (ps_set (i := 4) sc_l_draws.nd rfl (.inl rfl) (pe_lst pa_nil))
      (pss_cons (ps_for PassesOwn.never rfl (pi_range1 (by rfl) T.m_range (pa_cons (pv 1) pa_nil)) (pg_name (i := 5) sc_l_draws.nd rfl (.inl rfl))
        (pss_cons (ps_set (i := 6) sc_l_draws.nd rfl (.inl rfl) (pe_op op_mod (pv 5) (pe_callB call_len_seq (by rfl) T.m_len (by decide +kernel) (pa_cons (pv 2) pa_nil))))
      (pss_one (ps_if (pt_cmpR op_ge (pe_ix ix_list (pv 2) (pv 6) (fun _ _ => rfl)) (pe_op op_pow pe_int pe_int) (nomark _))
        (pss_cons (ps_expr (pe_bm PySem.F.plainAttrs_list PySem.F.slot_list_append PySem.F.type_list_append mt_append (pv 4) (pa_cons (pe_op op_mod (pe_callTy call_int1 (by rfl) T.m_int (by decide +kernel) (pa_cons (pe_ix ix_list (pv 3) (pv 6) (fun _ _ => rfl)) pa_nil)) pe_int) pa_nil)))
      (pss_one (ps_asg (pe_op op_fdiv (pe_ix ix_list (pv 3) (pv 6) (fun _ _ => rfl)) pe_int) (pg_sub (pv 3) (pv 6) set_list))))
        (pss_cons (ps_set (i := 7) sc_l_draws.nd rfl (.inl rfl) (pe_op op_mod (pe_callTy call_int1 (by rfl) T.m_int (by decide +kernel) (pa_cons (pe_op op_add (pe_op op_add (pe_op op_mul (pe_ix ix_list (pv 2) (pv 6) (fun _ _ => rfl)) pe_int) (pe_op op_mul (pv 5) pe_int)) pe_int) pa_nil)) pe_int))
      (pss_one (ps_expr (pe_bm PySem.F.plainAttrs_list PySem.F.slot_list_append PySem.F.type_list_append mt_append (pv 4) (pa_cons (pe_op op_mod (pe_callTy call_int1 (by rfl) T.m_int (by decide +kernel) (pa_cons (pe_op op_add (pe_op op_add (pe_op op_mul (pv 7) (pv 7)) (pe_op op_mul pe_int (pv 7))) (pv 5)) pa_nil)) pe_int) pa_nil)))))))))
      (pss_cons (ps_expr (pe_bm0 PySem.F.plainAttrs_list PySem.F.slot_list_reverse PySem.F.type_list_reverse mt_reverse (pv 4)))
      (pss_one (ps_ret (pv 4))))))))), ?_⟩
    -- cells = [int(cell) for cell in script]
    refine ⟨.ref a, rfl, a, rfl, ⟨_, hS⟩, fun C hC => lc_list (K := K) (a := a) (xs := ns.map V.int) (fun i H1 => Same H H1 ∧ H1 C = some (.lst ((ns.take i).map V.int))) ⟨same_new hC, upd_same⟩ (fun i H1 _ p => p.1.seq hS) (fun i x H1 hx p => ?_) (fun H1 p => ?_)⟩
    · obtain ⟨hlt, hx'⟩ := List.getElem?_eq_some_iff.mp hx
      rw [List.length_map] at hlt
      have ex : x = .int ns[i] := by
        rw [← hx', List.getElem_map]
      subst ex
      refine ⟨rfl, _, rfl, .inl ⟨_, rfl, _, p.2, ?_, ?_, ?_⟩⟩
      · rw [List.length_map, List.length_take]
        exact small (by omega)
      · exact fun b o e => by
          rw [upd_ne (ne_of_none e hC)]
          exact p.1 b o e
      · rw [upd_same, List.take_add_one, List.getElem?_eq_getElem hlt, List.map_append]
        rfl
    · rw [List.length_map, List.take_length] at p
      obtain ⟨s1, hc⟩ := p
      refine ⟨.ref C, rfl, C, _, rfl, .inl (.inl (.inl hc)), rfl, _, rfl, ite2 (fun e => ?c1) (fun e => ?c2)⟩
      case' c1 =>
        have e0 : ns = [] := by
          have z : ((ns.map V.int).length : Int) = 0 := V.int.inj (of_decide_eq_true e)
          rw [List.length_map] at z
          exact List.length_eq_zero_iff.mp (by omega)
        subst e0
        refine ⟨.ref C, rfl, .inl ⟨rfl, _, .inl (.inl hc)⟩, C, _, _, rfl, rfl, hc, small (by decide), ?_⟩
        obtain ⟨H2, cs, hH, hcs, hcl, s2, hc2⟩ : ∃ (H2 : Hp) (cs : List Int), H2 = upd H1 C (.lst (List.map V.int [] ++ [.int 0])) ∧ cs ≠ [] ∧ cs.length ≤ 1000 ∧ Same H H2 ∧ H2 C = some (.lst (cs.map V.int)) :=
          ⟨_, [0], rfl, by simp, by decide, fun b o e => by rw [upd_ne (ne_of_none e hC)]; exact s1 b o e, upd_same⟩
        rw [← hH]
      case' c2 =>
        obtain ⟨H2, cs, hH, hcs, hcl, s2, hc2⟩ : ∃ (H2 : Hp) (cs : List Int), H2 = H1 ∧ cs ≠ [] ∧ cs.length ≤ 1000 ∧ Same H H2 ∧ H2 C = some (.lst (cs.map V.int)) :=
          ⟨H1, ns, rfl, fun z => by subst z; exact e (decide_eq_true rfl), hlen, s1, hc⟩
        rw [← hH]
      all_goals (
        have hcl0 : 0 < cs.length := by cases cs with | nil => exact absurd rfl hcs | cons x r => exact Nat.succ_pos _
        refine ⟨.ref C, rfl, C, _, rfl, .inl (.inl (.inl hc2)), fun r nr => ⟨Nat.zero_le _, fun D nD => ⟨.int m, rfl, m, rfl, by omega, by omega, ?_⟩⟩⟩
        have nrC : C ≠ r := ne_of_none hc2 nr
        have nDr : D ≠ r := fun e => by rw [e, upd_same] at nD; cases nD
        have nDC : C ≠ D := fun e => by rw [← e, upd_ne nrC, hc2] at nD; cases nD
        have nHD : H D = none := s2.free (by rw [upd_ne nDr] at nD; exact nD)
        have nHr : H r = none := s2.free nr
        refine for_range (lo := 0) (n := m) (fun i σ H3 => ∃ (y5 y6 y7 y8 : Option V) (rs ds : List Int), σ = [some (.ref a), some (.int m), some (.ref C), some (.ref r), some (.ref D), y5, y6, y7, y8] ∧
          Same H H3 ∧ H3 C = some (.lst (cs.map V.int)) ∧ H3 r = some (.lst (rs.map V.int)) ∧ rs.length = cs.length ∧ H3 D = some (.lst (ds.map V.int)) ∧ ds.length = i) ?_ (fun i σ H3 hi hp => ?_) (fun σ H3 hp => ?_)
        · refine ⟨none, none, none, none, cs, [], rfl, (s2.trans (same_new nr)).trans (same_new nD), ?_, ?_, rfl, upd_same, rfl⟩
          · rw [upd_ne nDC, upd_ne nrC]; exact hc2
          · rw [upd_ne nDr.symm, upd_same]
        · obtain ⟨y5, y6, y7, y8, rs, ds, rfl, s3, hC3, hr3, hrl, hD3, hdl⟩ := hp
          have e0 : (0 : Int) + (i : Int) = (i : Int) := by omega
          have hk0 : 0 ≤ ((0 : Int) + (i : Int)) % (cs.length : Int) := Int.emod_nonneg _ (by omega)
          have hk1 : ((0 : Int) + (i : Int)) % (cs.length : Int) < (cs.length : Int) := Int.emod_lt_of_pos _ (by omega)
          have hlenC : ((cs.map V.int).length : Int) = (cs.length : Int) := by rw [List.length_map]
          have hSC : SqL K H3 C (cs.map V.int) := .inl (.inl hC3)
          have hSr : SqL K H3 r (rs.map V.int) := .inl (.inl hr3)
          have more : ∀ (z : Int) (H4 : Hp), (∀ b o, H3 b = some o → b ≠ D → b ≠ r → H4 b = some o) → ∀ rs' : List Int, rs'.length = cs.length → H4 r = some (.lst (rs'.map V.int)) → H4 D = some (.lst (ds.map V.int ++ [.int z])) → ∀ y6 y7 : Option V,
              ∃ (z5 z6 z7 z8 : Option V) (rs ds : List Int), [some (.ref a), some (.int m), some (.ref C), some (.ref r), some (.ref D), some (.int ((0 : Int) + (i : Int))), y6, y7, y8] = [some (.ref a), some (.int m), some (.ref C), some (.ref r), some (.ref D), z5, z6, z7, z8] ∧
              Same H H4 ∧ H4 C = some (.lst (cs.map V.int)) ∧ H4 r = some (.lst (rs.map V.int)) ∧ rs.length = cs.length ∧ H4 D = some (.lst (ds.map V.int)) ∧ ds.length = i + 1 := fun z H4 k rs' hl' hr' hd' y6 y7 => by
            refine ⟨_, _, _, _, rs', ds ++ [z], rfl, fun b o e => k b o (s3 b o e) (ne_of_none e nHD) (ne_of_none e nHr), k C _ hC3 nDC nrC, hr', hl', ?_, ?_⟩
            · rw [hd', List.map_append]; rfl
            · rw [List.length_append, hdl]; rfl
          refine ⟨.int (0 + (i : Int)), rfl, .ref C, rfl, C, _, rfl, .inl hSC, _, _, rfl, rfl, by rw [hlenC]; omega, ?_⟩
          rw [hlenC]
          dsimp only
          generalize hkk : ((0 : Int) + (i : Int)) % (cs.length : Int) = kk at hk0 hk1 ⊢
          have hat : atI (cs.map V.int) kk = some (.int (cs[kk.toNat]'(by omega))) := atM_pos hk0 hk1
          have har : atI (rs.map V.int) kk = some (.int (rs[kk.toNat]'(by omega))) := atM_pos hk0 (by omega)
          generalize cs[kk.toNat]'(by omega) = cv at hat
          generalize rs[kk.toNat]'(by omega) = rv at har
          refine ⟨.ref C, rfl, .int kk, rfl, C, _, kk, _, rfl, rfl, hSC, hat, 10, 18, rfl, rfl, ⟨by decide, by decide, by decide⟩, _, _, rfl, rfl, _, rfl, ite2 (fun e => ?_) (fun e => ?_)⟩
          · have hge : (10 : Int) ^ (18 : Int).toNat ≤ cv := of_decide_eq_true e
            refine ⟨.ref D, rfl, .inl ⟨rfl, _, .inl (.inl hD3)⟩, .ref r, rfl, .int kk, rfl, r, _, kk, _, rfl, rfl, hSr, har, .inl ⟨_, rfl, _, _, rfl, rfl, (show (0 : Int) < 1000 by decide), D, _, _, rfl, rfl, hD3, ?_, ?_⟩⟩
            · rw [List.length_map]; exact small (by omega)
            · have nrD : r ≠ D := nDr.symm
              have hr4 : upd H3 D (.lst (ds.map V.int ++ [.int (rv % 1000)])) r = some (.lst (rs.map V.int)) := by rw [upd_ne nrD]; exact hr3
              have hj : ixN (rs.map V.int).length kk = some kk.toNat := by
                unfold ixN
                rw [if_pos hk0, if_pos (by rw [List.length_map]; omega)]
              refine ⟨.ref r, rfl, .int kk, rfl, r, _, kk, _, rfl, rfl, .inl (.inl hr4), har, _, _, rfl, rfl, ⟨by decide, by decide⟩, .ref r, rfl, .int kk, rfl, r, _, kk, _, rfl, rfl, hr4, hj, ?_⟩
              refine more (rv % 1000) _ (fun b o e n1 n2 => ?_) (rs.set kk.toNat (rv / 1000)) (by rw [List.length_set]; exact hrl) ?_ ?_ _ _
              · rw [upd_ne n2, upd_ne n1]; exact e
              · rw [upd_same, List.map_set]
              · rw [upd_ne nDr, upd_same]
          · refine ⟨.ref C, rfl, .int kk, rfl, C, _, kk, _, rfl, rfl, hSC, hat, _, _, rfl, rfl, .inr ⟨by decide, by decide⟩, .int (0 + (i : Int)), rfl, _, _, rfl, rfl, .inr ⟨by decide, by decide⟩, _, _, rfl, rfl, _, _, rfl, rfl, .inl ⟨_, rfl, _, _, rfl, rfl, (show (0 : Int) < 2147483647 by decide), ?_⟩⟩
            have o0 : 0 ≤ (cv * 48271 + (0 + (i : Int)) * 69621 + 11) % 2147483647 := Int.emod_nonneg _ (by decide)
            have o1 : (cv * 48271 + (0 + (i : Int)) * 69621 + 11) % 2147483647 < 2147483647 := Int.emod_lt_of_pos _ (by decide)
            dsimp only
            generalize (cv * 48271 + (0 + (i : Int)) * 69621 + 11) % 2147483647 = on at o0 o1 ⊢
            refine ⟨.ref D, rfl, .inl ⟨rfl, _, .inl (.inl hD3)⟩, .int on, rfl, .int on, rfl, _, _, rfl, rfl, .inl ⟨by omega, by omega⟩, .int on, rfl, _, _, rfl, rfl, .inl ⟨by decide, by decide⟩, _, _, rfl, rfl, .int (0 + (i : Int)), rfl, _, _, rfl, rfl, .inl ⟨_, rfl, _, _, rfl, rfl, (show (0 : Int) < 1000003 by decide), D, _, _, rfl, rfl, hD3, ?_, ?_⟩⟩
            · rw [List.length_map]; exact small (by omega)
            · exact more _ _ (fun b o e n1 n2 => by rw [upd_ne n1]; exact e) rs hrl (by rw [upd_ne nDr.symm]; exact hr3) upd_same _ _
        · obtain ⟨y5, y6, y7, y8, rs, ds, rfl, s3, hC3, hr3, hrl, hD3, hdl⟩ := hp
          refine ⟨.ref D, rfl, .inl ⟨rfl, _, .inl (.inl hD3)⟩, D, _, rfl, rfl, hD3, .ref D, rfl, ?_⟩
          refine q _ D (fun b o e => ?_) nHD ⟨ds.reverse, ?_⟩
          · rw [upd_ne (ne_of_none e nHD)]; exact s3 b o e
          · rw [upd_same, List.map_reverse])
end
def sp_l_take (K : PySem.W.Frag) : Sp := fun vs H Q _ => ∃ (d : Addr) (m : Int), vs = [.ref d, .int m] ∧ DrA H d ∧ 0 < m ∧ ∀ H' r, Dr d H H' → 0 ≤ r → r < m → Q (.int r) H'
section
variable {P : Program} {w : World} {K : PySem.W.Frag} {mg : Str → Option Value} {base : Heap}
theorem ok_l_take (T : Ctx K mg) : FnOk P w K mg base CX0 1 T.f_l_take T.fd_l_take ["draws", "many"] (sp_l_take K) := by
  refine T.F_l_take.ok sc_l_take (fun vs H Q E h => ?_) (fun cdv A outer s H vs Q E hr h => ?_)
  · obtain ⟨d, m, rfl, _⟩ := h
    rfl
  · obtain ⟨d, m, rfl, ⟨ns, hd⟩, hm, q⟩ := h
    refine ⟨_, (pss_cons (ps_if (pt_cmpR op_eq (pe_callB call_len_seq (by rfl) T.m_len (by decide +kernel) (pa_cons (pv 0) pa_nil)) pe_int (nomark _))
        (pss_one (ps_ret pe_int))
        pss_nil)
      (pss_one (ps_ret (pe_op op_mod (pe_callTy call_int1 (by rfl) T.m_int (by decide +kernel) (pa_cons (pe_bm0 PySem.F.plainAttrs_list PySem.F.slot_list_pop PySem.F.type_list_pop mt_pop (pv 0)) pa_nil)) (pv 1))))), ?_⟩
    have hS : SqL K H d (ns.map V.int) := .inl (.inl hd)
    refine ⟨.ref d, rfl, d, _, rfl, .inl hS, rfl, _, rfl, ite2 (fun e => ?_) (fun e => ?_)⟩
    · exact q H 0 ⟨fun _ _ _ h => h, ns, hd⟩ (Int.le_refl 0) hm
    · have hne : ns ≠ [] := fun z => by
        subst z
        exact e (decide_eq_true rfl)
      have hl : (ns.map V.int)[(ns.map V.int).length - 1]? = some (.int (ns.getLast hne)) := by
        rw [List.getElem?_map, List.length_map, at_last hne]
        rfl
      refine ⟨.ref d, rfl, .inl ⟨rfl, _, hS⟩, d, _, _, rfl, rfl, hd, hl, .inl ⟨_, rfl, .int m, rfl, _, _, rfl, rfl, hm, ?_⟩⟩
      rw [← List.map_dropLast]
      exact q _ _ (dr_upd _) (Int.emod_nonneg _ (by omega)) (Int.emod_lt_of_pos _ hm)
end
def sp_l_same (K : PySem.W.Frag) : Sp := fun vs H Q _ => ∃ x y : Bool, vs = [.bl x, .bl y] ∧ Q (.bl (decide (V.bl x = V.bl y))) H
def sp_l_sameB (K : PySem.W.Frag) : Sp := fun _ _ _ _ => False
section
variable {P : Program} {w : World} {K : PySem.W.Frag} {mg : Str → Option Value} {base : Heap}
theorem ok_l_same (T : Ctx K mg) : FnOk P w K mg base CX0 1 T.f_l_same T.fd_l_same ["actual", "due"] (sp_l_same K) := by
  have FR : FnOk P w K mg base CX0 0 T.f_l_same T.fd_l_same ["actual", "due"] (sp_l_sameB K) := ⟨fun _ _ _ _ h => h.elim, fun _ _ _ _ _ _ _ _ _ _ _ _ _ h => h.elim⟩
  refine T.F_l_same.ok sc_l_same (fun vs H Q E h => ?_) (fun cdv A outer s H vs Q E hr h => ?_)
  · obtain ⟨x, y, rfl, _⟩ := h
    rfl
  · obtain ⟨x, y, rfl, q⟩ := h
    refine ⟨_, (pss_cons (ps_if (pt_val (pe_callB call_isi (by rfl) T.m_isinstance (by decide +kernel) (pa_cons (pv 1) (pa_cons (pe_bltn (v := .ty "bool") (by rfl) T.m_bool (by decide +kernel) rfl) pa_nil))))
        (pss_one (ps_ret (pe_and (pe_callB call_isi (by rfl) T.m_isinstance (by decide +kernel) (pa_cons (pv 0) (pa_cons (pe_bltn (v := .ty "bool") (by rfl) T.m_bool (by decide +kernel) rfl) pa_nil))) (pe_one (pe_cmpR op_eq (pv 0) (pv 1) (nomark _))))))
        pss_nil)
      (pss_cons (ps_if (pt_val (pe_callB call_isi (by rfl) T.m_isinstance (by decide +kernel) (pa_cons (pv 1) (pa_cons (pe_bltn (v := .ty "int") (by rfl) T.m_int (by decide +kernel) rfl) pa_nil))))
        (pss_one (ps_ret (pe_and (pe_callB call_isi (by rfl) T.m_isinstance (by decide +kernel) (pa_cons (pv 0) (pa_cons (pe_bltn (v := .ty "int") (by rfl) T.m_int (by decide +kernel) rfl) pa_nil))) (pe_and (pe_not (pe_callB call_isi (by rfl) T.m_isinstance (by decide +kernel) (pa_cons (pv 0) (pa_cons (pe_bltn (v := .ty "bool") (by rfl) T.m_bool (by decide +kernel) rfl) pa_nil)))) (pe_one (pe_cmpR op_eq (pv 0) (pv 1) (nomark _)))))))
        pss_nil)
      (pss_cons (ps_if (pt_val (pe_callB call_isi (by rfl) T.m_isinstance (by decide +kernel) (pa_cons (pv 1) (pa_cons (pe_bltn (v := .ty "str") (by rfl) T.m_str (by decide +kernel) rfl) pa_nil))))
        (pss_one (ps_ret (pe_and (pe_callB call_isi (by rfl) T.m_isinstance (by decide +kernel) (pa_cons (pv 0) (pa_cons (pe_bltn (v := .ty "str") (by rfl) T.m_str (by decide +kernel) rfl) pa_nil))) (pe_one (pe_cmpR op_eq (pv 0) (pv 1) (nomark _))))))
        pss_nil)
      (pss_cons (ps_if (pt_cmpR op_isN (pv 1) pe_non (nomark _))
        (pss_one (ps_ret (pe_cmpR op_isN (pv 0) pe_non (nomark _))))
        pss_nil)
      (pss_cons (ps_if (PW.pt (pw_and (pt_val (pe_callB call_isi (by rfl) T.m_isinstance (by decide +kernel) (pa_cons (pv 1) (pa_cons (pe_bltn (v := .ty "tuple") (by rfl) T.m_tuple (by decide +kernel) rfl) pa_nil)))) (pw_and1 (pt_not (pt_val (pe_callB call_isi (by rfl) T.m_isinstance (by decide +kernel) (pa_cons (pv 0) (pa_cons (pe_bltn (v := .ty "tuple") (by rfl) T.m_tuple (by decide +kernel) rfl) pa_nil))))))))
        (pss_one (ps_ret pe_bl))
        pss_nil)
      (pss_cons (ps_if (PW.pt (pw_and (pt_val (pe_callB call_isi (by rfl) T.m_isinstance (by decide +kernel) (pa_cons (pv 1) (pa_cons (pe_bltn (v := .ty "list") (by rfl) T.m_list (by decide +kernel) rfl) pa_nil)))) (pw_and1 (pt_not (pt_val (pe_callB call_isi (by rfl) T.m_isinstance (by decide +kernel) (pa_cons (pv 0) (pa_cons (pe_bltn (v := .ty "list") (by rfl) T.m_list (by decide +kernel) rfl) pa_nil))))))))
        (pss_one (ps_ret pe_bl))
        pss_nil)
      (pss_cons (ps_if (pt_cmpR op_ne (pe_callB call_len_seq (by rfl) T.m_len (by decide +kernel) (pa_cons (pv 0) pa_nil)) (pe_callB call_len_seq (by rfl) T.m_len (by decide +kernel) (pa_cons (pv 1) pa_nil)) (nomark _))
        (pss_one (ps_ret pe_bl))
        pss_nil)
      (pss_cons (ps_for PassesOwn.never rfl (pi_range1 (by rfl) T.m_range (pa_cons (pe_callB call_len_seq (by rfl) T.m_len (by decide +kernel) (pa_cons (pv 1) pa_nil)) pa_nil)) (pg_name (i := 2) sc_l_same.nd rfl (.inl rfl))
        (pss_one (ps_if (pt_not (pt_val (pe_call FR (hr.mono (Nat.le_refl _)) (by rfl) T.g_l_same T.F_l_same.kp T.b_l_same .nil pass0 (pa_cons (pe_ix ix_tup (pv 0) (pv 2) (fun _ _ => rfl)) (pa_cons (pe_ix ix_tup (pv 1) (pv 2) (fun _ _ => rfl)) pa_nil)))))
        (pss_one (ps_ret pe_bl))
        pss_nil)))
      (pss_one (ps_ret pe_bl)))))))))), ?_⟩
    refine ⟨.bl y, rfl, .bl y, .ty "bool", .type "bool", .type "bool", true, rfl, .ty _, .base (.bl _), kit_ty (by decide +kernel), true, rfl, iteT ?_⟩
    refine ⟨.bl x, rfl, .bl x, .ty "bool", .type "bool", .type "bool", true, rfl, .ty _, .base (.bl _), kit_ty (by decide +kernel), true, rfl, iteT ?_⟩
    exact ⟨.bl x, rfl, .bl y, rfl, rfl, q⟩
end
def sp_l_cell (K : PySem.W.Frag) : Sp := fun vs H Q _ => ∃ (a d : Addr) (ns : List Int), vs = [.ref a, .ref d] ∧ (∀ H', Dr d H H' → SqL K H' a (ns.map V.int)) ∧ DrA H d ∧
  ∀ H' c, Dr d H H' → (c = 0 ∨ c ∈ ns) → Q (.int c) H'
section
variable {P : Program} {w : World} {K : PySem.W.Frag} {mg : Str → Option Value} {base : Heap}
theorem ok_l_cell (T : Ctx K mg) : FnOk P w K mg base CX0 2 T.f_l_cell T.fd_l_cell ["script", "draws"] (sp_l_cell K) := by
  refine T.F_l_cell.ok sc_l_cell (fun vs H Q E h => ?_) (fun cdv A outer s H vs Q E hr h => ?_)
  · obtain ⟨a, d, ns, rfl, _⟩ := h
    rfl
  · obtain ⟨a, d, ns, rfl, hK, hd, q⟩ := h
    have hS := hK H (Dr.refl hd)
    refine ⟨_, (pss_cons (ps_if (pt_cmpR op_eq (pe_callB call_len_seq (by rfl) T.m_len (by decide +kernel) (pa_cons (pv 0) pa_nil)) pe_int (nomark _))
        (pss_one (ps_ret pe_int))
        pss_nil)
      (pss_one (ps_ret (pe_callTy call_int1 (by rfl) T.m_int (by decide +kernel) (pa_cons (pe_ix ix_list (pv 0) (pe_call (ok_l_take T) (hr.mono (by decide)) (by rfl) T.g_l_take T.F_l_take.kp T.b_l_take .nil pass0 (pa_cons (pv 1) (pa_cons (pe_callB call_len_seq (by rfl) T.m_len (by decide +kernel) (pa_cons (pv 0) pa_nil)) pa_nil))) (fun _ _ => rfl)) pa_nil))))), ?_⟩
    refine ⟨.ref a, rfl, a, _, rfl, .inl hS, rfl, _, rfl, ite2 (fun e => ?_) (fun e => ?_)⟩
    · exact q H 0 (Dr.refl hd) (.inl rfl)
    · have hne : ns ≠ [] := fun z => by
        subst z
        exact e (decide_eq_true rfl)
      have hl : 0 < ns.length := by cases ns with | nil => exact absurd rfl hne | cons x r => exact Nat.succ_pos _
      refine ⟨.ref a, rfl, .ref d, rfl, .ref a, rfl, a, _, rfl, .inl hS, d, _, rfl, hd, by rw [List.length_map]; omega, fun H1 r r1 h0 h1 => ?_⟩
      rw [List.length_map] at h1
      have hS1 : SqL K H1 a (ns.map V.int) := hK H1 r1
      exact ⟨a, _, r, _, rfl, rfl, hS1, atM_pos h0 h1, .inl ⟨_, rfl, q H1 _ r1 (.inr (List.getElem_mem _))⟩⟩
end
/-- an aggregate's tuple, and what may be told of it -/
def AggAt (H : Hp) (a : Addr) (k : Str) : Prop := ∃ r, H a = some (.tup (.str k :: r))
def ToldAt (H : Hp) (t : Addr) (k : Str) : Prop := (k = "rank" ∧ ∃ e l h, H t = some (.tup [.bl e, l, h]) ∧ IN l ∧ IN h) ∨ (k ≠ "rank" ∧ ∃ l h, H t = some (.tup [l, h]) ∧ IN l ∧ IN h)
def sp_l_answer (K : PySem.W.Frag) : Sp := fun vs H Q _ => ∃ (d s a : Addr) (ns : List Int) (k : Str), vs = [.ref d, .ref s, .ref a] ∧ (∀ H', Dr d H H' → SqL K H' s (ns.map V.int)) ∧ DrA H d ∧ AggAt H a k ∧ k ∈ (["count", "sum", "among", "rank"] : List Str) ∧ ∀ H' t, Dr d H H' → ToldAt H' t k → Q (.ref t) H'
theorem pickT {xs : List V} {k : Int} (h0 : 0 ≤ k) (h1 : k < xs.length) : ∃ v, v ∈ xs ∧ atI xs k = some v :=
  ⟨_, List.getElem_mem _, atI_pos h0 h1⟩
theorem agg_kept {d a : Addr} {k : Str} {H H' : Hp} (r : Dr d H H') (hd : DrA H d) (h : AggAt H a k) : AggAt H' a k := by
  obtain ⟨x, e⟩ := h
  refine ⟨x, r.keep _ _ (fun z => ?_) e⟩
  obtain ⟨ns, hn⟩ := hd
  rw [z, hn] at e
  cases e
section
variable {P : Program} {w : World} {K : PySem.W.Frag} {mg : Str → Option Value} {base : Heap}
theorem ok_l_answer (T : Ctx K mg) : FnOk P w K mg base CX0 3 T.f_l_answer T.fd_l_answer ["draws", "script", "aggregate"] (sp_l_answer K) := by
  refine T.F_l_answer.ok sc_l_answer (fun vs H Q E h => ?_) (fun cdv A outer s H vs Q E hr h => ?_)
  · obtain ⟨d, s, a, ns, k, rfl, _⟩ := h
    rfl
  · obtain ⟨d, s, a, ns, k, rfl, hK, hd, hA, hk, q⟩ := h
    refine ⟨_, (pss_cons (ps_set (i := 3) sc_l_answer.nd rfl (.inl rfl) (pe_op op_sub (pe_op op_add (pe_call (ok_l_cell T) (hr.mono (by decide)) (by rfl) T.g_l_cell T.F_l_cell.kp T.b_l_cell .nil pass0 (pa_cons (pv 1) (pa_cons (pv 0) pa_nil))) (pe_call (ok_l_take T) (hr.mono (by decide)) (by rfl) T.g_l_take T.F_l_take.kp T.b_l_take .nil pass0 (pa_cons (pv 0) (pa_cons pe_int pa_nil)))) pe_int))
      (pss_cons (ps_if (PW.pt (pw_or (pt_cmpR op_eq (pe_ix ix_tup (pv 2) pe_int (fun _ _ => rfl)) pe_str (nomark _)) (pw_or1 (pt_cmpR op_eq (pe_ix ix_tup (pv 2) pe_int (fun _ _ => rfl)) pe_str (nomark _)))))
        (pss_one (ps_set (i := 3) sc_l_answer.nd rfl (.inl rfl) (pe_op op_mod (pe_callTy call_int1 (by rfl) T.m_int (by decide +kernel) (pa_cons (pe_callB call_abs (by rfl) T.m_abs (by decide +kernel) (pa_cons (pv 3) pa_nil)) pa_nil)) pe_int)))
        pss_nil)
      (pss_cons (ps_set (i := 4) sc_l_answer.nd rfl (.inl rfl) (pe_op op_add (pv 3) (pe_ix ix_list (pe_lst (pa_cons pe_int (pa_cons pe_int (pa_cons pe_int (pa_cons (pe_op op_mod (pe_callTy call_int1 (by rfl) T.m_int (by decide +kernel) (pa_cons (pe_callB call_abs (by rfl) T.m_abs (by decide +kernel) (pa_cons (pe_call (ok_l_cell T) (hr.mono (by decide)) (by rfl) T.g_l_cell T.F_l_cell.kp T.b_l_cell .nil pass0 (pa_cons (pv 1) (pa_cons (pv 0) pa_nil))) pa_nil)) pa_nil)) pe_int) pa_nil))))) (pe_call (ok_l_take T) (hr.mono (by decide)) (by rfl) T.g_l_take T.F_l_take.kp T.b_l_take .nil pass0 (pa_cons (pv 0) (pa_cons pe_int pa_nil))) (fun _ _ => rfl))))
      (pss_cons (ps_set (i := 5) sc_l_answer.nd rfl (.inl rfl) (pe_call (ok_l_take T) (hr.mono (by decide)) (by rfl) T.g_l_take T.F_l_take.kp T.b_l_take .nil pass0 (pa_cons (pv 0) (pa_cons pe_int pa_nil))))
      (pss_cons (ps_if (pt_cmpR op_eq (pe_ix ix_tup (pv 2) pe_int (fun _ _ => rfl)) pe_str (nomark _))
        (pss_cons (ps_if (pt_cmpR op_eq (pv 5) pe_int (nomark _))
        (pss_one (ps_ret (pe_tup (pa_cons pe_bl (pa_cons pe_non (pa_cons pe_non pa_nil))))))
        pss_nil)
      (pss_one (ps_ret (pe_tup (pa_cons (pe_cmpR op_eq (pe_call (ok_l_take T) (hr.mono (by decide)) (by rfl) T.g_l_take T.F_l_take.kp T.b_l_take .nil pass0 (pa_cons (pv 0) (pa_cons pe_int pa_nil))) pe_int (nomark _)) (pa_cons (pv 3) (pa_cons (pv 4) pa_nil)))))))
        pss_nil)
      (pss_cons (ps_if (PW.pt (pw_and (pt_cmpR op_eq (pe_ix ix_tup (pv 2) pe_int (fun _ _ => rfl)) pe_str (nomark _)) (pw_and1 (pt_cmpR op_lt (pv 5) pe_int (nomark _)))))
        (pss_one (ps_ret (pe_ix ix_list (pe_lst (pa_cons (pe_tup (pa_cons pe_non (pa_cons pe_non pa_nil))) (pa_cons (pe_tup (pa_cons pe_non (pa_cons (pv 4) pa_nil))) (pa_cons (pe_tup (pa_cons (pv 3) (pa_cons pe_non pa_nil))) pa_nil)))) (pv 5) (fun _ _ => rfl))))
        pss_nil)
      (pss_one (ps_ret (pe_ix ix_list (pe_lst (pa_cons (pe_tup (pa_cons (pv 3) (pa_cons pe_non pa_nil))) (pa_cons (pe_tup (pa_cons pe_int (pa_cons pe_int pa_nil))) (pa_cons (pe_tup (pa_cons pe_int (pa_cons pe_int pa_nil))) (pa_cons (pe_tup (pa_cons (pv 3) (pa_cons (pv 4) pa_nil))) (pa_cons (pe_tup (pa_cons (pv 3) (pa_cons (pv 4) pa_nil))) (pa_cons (pe_tup (pa_cons pe_int (pa_cons pe_non pa_nil))) pa_nil))))))) (pv 5) (fun _ _ => rfl)))))))))), ?_⟩
    refine ⟨.ref s, rfl, .ref d, rfl, s, d, ns, rfl, hK, hd, fun H1 c r1 _ => ?_⟩
    refine ⟨.ref d, rfl, d, _, rfl, r1.at_, by decide, fun H2 u r2 u0 u1 => ⟨_, _, rfl, rfl, _, _, rfl, rfl, ?_⟩⟩
    have r12 := r1.trans r2
    obtain ⟨rest, hA2⟩ := agg_kept r12 hd hA
    have hT2 : SqT K H2 a (.str k :: rest) := .inl (.inl hA2)
    dsimp only
    generalize c + u - 1 = low
    have hks : k = "count" ∨ k = "among" ∨ (k = "sum" ∨ k = "rank") := by
      simp only [List.mem_cons, List.not_mem_nil, or_false] at hk
      rcases hk with z | z | z | z
      · exact .inl z
      · exact .inr (.inr (.inl z))
      · exact .inr (.inl z)
      · exact .inr (.inr (.inr z))
    rcases hks with e | e | e
    case' inl =>
      refine ⟨.ref a, rfl, a, _, 0, _, rfl, rfl, hT2, atI_nat (j := 0) rfl, rfl, _, rfl, ?_⟩
      rw [show decide (V.str k = V.str "count") = true by rw [e]; rfl]
      refine iteT (iteT ⟨.int low, rfl, _, rfl, .inl ⟨_, rfl, _, _, rfl, rfl, (show (0 : Int) < 4000 by decide), ?_⟩⟩)
      dsimp only
      generalize (if low < 0 then -low else low) % 4000 = low
    case' inr.inl =>
      refine ⟨.ref a, rfl, a, _, 0, _, rfl, rfl, hT2, atI_nat (j := 0) rfl, rfl, _, rfl, ?_⟩
      rw [show decide (V.str k = V.str "count") = false by rw [e]; decide +kernel]
      refine iteF ⟨.ref a, rfl, a, _, 0, _, rfl, rfl, hT2, atI_nat (j := 0) rfl, rfl, _, rfl, ?_⟩
      rw [show decide (V.str k = V.str "among") = true by rw [e]; rfl]
      refine iteT ⟨.int low, rfl, _, rfl, .inl ⟨_, rfl, _, _, rfl, rfl, (show (0 : Int) < 4000 by decide), ?_⟩⟩
      dsimp only
      generalize (if low < 0 then -low else low) % 4000 = low
    case' inr.inr =>
      refine ⟨.ref a, rfl, a, _, 0, _, rfl, rfl, hT2, atI_nat (j := 0) rfl, rfl, _, rfl, ?_⟩
      rw [show decide (V.str k = V.str "count") = false by rcases e with e | e <;> rw [e] <;> decide +kernel]
      refine iteF ⟨.ref a, rfl, a, _, 0, _, rfl, rfl, hT2, atI_nat (j := 0) rfl, rfl, _, rfl, ?_⟩
      rw [show decide (V.str k = V.str "among") = false by rcases e with e | e <;> rw [e] <;> decide +kernel]
      refine iteF ?_
    all_goals (
      clear e
      refine ⟨.int low, rfl, .ref s, rfl, .ref d, rfl, s, d, ns, rfl, fun H' r => hK H' (r12.trans r), r2.at_, fun H3 c3 r3 _ => ?_⟩
      refine ⟨_, rfl, .inl ⟨_, rfl, _, _, rfl, rfl, (show (0 : Int) < 4000 by decide), small' (n := 4) (by decide), fun p np => ?_⟩⟩
      dsimp only
      generalize (if c3 < 0 then -c3 else c3) % 4000 = far
      have r13 := r12.trans r3
      have npd : p ≠ d := r13.ne np
      have r4 := r13.then (same_new (o := .lst [.int 0, .int 0, .int 1, .int far]) np)
      refine ⟨.ref d, rfl, d, _, rfl, r4.at_, by decide, fun H5 x r5 x0 x1 => ?_⟩
      have h5 : H5 p = some (.lst [.int 0, .int 0, .int 1, .int far]) := r5.keep _ _ npd upd_same
      obtain ⟨lv, lva⟩ : ∃ lv : Int, atI [V.int 0, .int 0, .int 1, .int far] x = some (.int lv) := by
        obtain ⟨v, hv, ha⟩ := pickT (xs := [V.int 0, .int 0, .int 1, .int far]) x0 x1
        simp only [List.mem_cons, List.not_mem_nil, or_false] at hv
        rcases hv with rfl | rfl | rfl | rfl <;> exact ⟨_, ha⟩
      refine ⟨p, _, _, _, rfl, rfl, .inl (.inl h5), lva, _, _, rfl, rfl, ?_⟩
      dsimp only
      generalize low + lv = high
      have r15 := r4.trans r5
      refine ⟨.ref d, rfl, d, _, rfl, r15.at_, by decide, fun H6 kd r6 k0 k1 => ?_⟩
      have r16 := r15.trans r6
      obtain ⟨rest6, hA6⟩ := agg_kept r16 hd hA
      have hT6 : SqT K H6 a (.str k :: rest6) := .inl (.inl hA6)
      refine ⟨.ref a, rfl, a, _, 0, _, rfl, rfl, hT6, atI_nat (j := 0) rfl, rfl, _, rfl, ite2 (fun e => ?_) (fun e => ?_)⟩
      · have ek : k = "rank" := V.str.inj (of_decide_eq_true e)
        refine ⟨.int kd, rfl, rfl, _, rfl, ite2 (fun _ => ?_) (fun _ => ?_)⟩
        · exact ⟨small' (n := 3) (by decide), fun t nt => q _ t (r16.then (same_new nt)) (.inl ⟨ek, true, .non, .non, upd_same, .inl rfl, .inl rfl⟩)⟩
        · refine ⟨.ref d, rfl, d, _, rfl, r16.at_, by decide, fun H7 z r7 z0 z1 => ⟨rfl, .int low, rfl, .int high, rfl, small' (n := 3) (by decide), fun t nt => q _ t ((r16.trans r7).then (same_new nt)) (.inl ⟨ek, _, _, _, upd_same, .inr ⟨_, rfl⟩, .inr ⟨_, rfl⟩⟩)⟩⟩
      · have nk : k ≠ "rank" := fun z => e (decide_eq_true (congrArg V.str z))
        refine ⟨.ref a, rfl, a, _, 0, _, rfl, rfl, hT6, atI_nat (j := 0) rfl, rfl, _, rfl, ite2 (fun _ => ?_) (fun _ => ?_)⟩
        · refine ⟨.int kd, rfl, _, _, rfl, rfl, _, rfl, ite2 (fun e3 => ?_) (fun _ => ?_)⟩
          · have k3 : kd < 3 := of_decide_eq_true e3
            obtain ⟨HX, eHX⟩ : ∃ HX, HX = H6 := ⟨_, rfl⟩
            refine ⟨small' (n := 2) (by decide), fun t0 n0 => ?_⟩
            have k20 := same_new (o := .tup [.non, .non]) n0
            have h20 : upd H6 t0 (.tup [.non, .non]) t0 = some (.tup [.non, .non]) := upd_same
            generalize upd H6 t0 (.tup [.non, .non]) = G0 at k20 h20 ⊢
            refine ⟨.int high, rfl, small' (n := 2) (by decide), fun t1 n1 => ?_⟩
            have k21 := same_new (o := .tup [.non, .int high]) n1
            have h21 : upd G0 t1 (.tup [.non, .int high]) t1 = some (.tup [.non, .int high]) := upd_same
            generalize upd G0 t1 (.tup [.non, .int high]) = G1 at k21 h21 ⊢
            refine ⟨.int low, rfl, small' (n := 2) (by decide), fun t2 n2 => ?_⟩
            have k22 := same_new (o := .tup [.int low, .non]) n2
            have h22 : upd G1 t2 (.tup [.int low, .non]) t2 = some (.tup [.int low, .non]) := upd_same
            generalize upd G1 t2 (.tup [.int low, .non]) = G2 at k22 h22 ⊢
            refine ⟨small' (n := 3) (by decide), fun L nL => ?_⟩
            have kL := same_new (o := .lst [.ref t0, .ref t1, .ref t2]) nL
            have kA := ((k20.trans k21).trans k22).trans kL
            have hL : upd G2 L (.lst [.ref t0, .ref t1, .ref t2]) L = some (.lst [.ref t0, .ref t1, .ref t2]) := upd_same
            have a0 : ToldAt (upd G2 L (.lst [.ref t0, .ref t1, .ref t2])) t0 k := .inr ⟨nk, _, _, kL _ _ (k22 _ _ (k21 _ _ h20)), .inl rfl, .inl rfl⟩
            have a1 : ToldAt (upd G2 L (.lst [.ref t0, .ref t1, .ref t2])) t1 k := .inr ⟨nk, _, _, kL _ _ (k22 _ _ h21), .inl rfl, .inr ⟨_, rfl⟩⟩
            have a2 : ToldAt (upd G2 L (.lst [.ref t0, .ref t1, .ref t2])) t2 k := .inr ⟨nk, _, _, kL _ _ h22, .inr ⟨_, rfl⟩, .inl rfl⟩
            generalize upd G2 L (.lst [.ref t0, .ref t1, .ref t2]) = GL at kA hL a0 a1 a2
            obtain ⟨tk, ta, tt⟩ : ∃ tk : Addr, atI [V.ref t0, V.ref t1, V.ref t2] kd = some (.ref tk) ∧ ToldAt GL tk k := by
              obtain ⟨v, hv, ha⟩ := pickT (xs := [V.ref t0, V.ref t1, V.ref t2]) (k := kd) k0 (by show kd < 3; omega)
              simp only [List.mem_cons, List.not_mem_nil, or_false] at hv
              rcases hv with rfl | rfl | rfl
              · exact ⟨_, ha, a0⟩
              · exact ⟨_, ha, a1⟩
              · exact ⟨_, ha, a2⟩
            exact ⟨.int kd, rfl, L, _, _, _, rfl, rfl, .inl (.inl hL), ta, q _ _ (r16.then kA) tt⟩
          · obtain ⟨HX, eHX⟩ : ∃ HX, HX = H6 := ⟨_, rfl⟩
            refine ⟨.int low, rfl, small' (n := 2) (by decide), fun t0 n0 => ?_⟩
            have k20 := same_new (o := .tup [.int low, .non]) n0
            have h20 : upd H6 t0 (.tup [.int low, .non]) t0 = some (.tup [.int low, .non]) := upd_same
            generalize upd H6 t0 (.tup [.int low, .non]) = G0 at k20 h20 ⊢
            refine ⟨small' (n := 2) (by decide), fun t1 n1 => ?_⟩
            have k21 := same_new (o := .tup [.int 0, .int 0]) n1
            have h21 : upd G0 t1 (.tup [.int 0, .int 0]) t1 = some (.tup [.int 0, .int 0]) := upd_same
            generalize upd G0 t1 (.tup [.int 0, .int 0]) = G1 at k21 h21 ⊢
            refine ⟨small' (n := 2) (by decide), fun t2 n2 => ?_⟩
            have k22 := same_new (o := .tup [.int 0, .int 1]) n2
            have h22 : upd G1 t2 (.tup [.int 0, .int 1]) t2 = some (.tup [.int 0, .int 1]) := upd_same
            generalize upd G1 t2 (.tup [.int 0, .int 1]) = G2 at k22 h22 ⊢
            refine ⟨.int low, rfl, .int high, rfl, small' (n := 2) (by decide), fun t3 n3 => ?_⟩
            have k23 := same_new (o := .tup [.int low, .int high]) n3
            have h23 : upd G2 t3 (.tup [.int low, .int high]) t3 = some (.tup [.int low, .int high]) := upd_same
            generalize upd G2 t3 (.tup [.int low, .int high]) = G3 at k23 h23 ⊢
            refine ⟨.int low, rfl, .int high, rfl, small' (n := 2) (by decide), fun t4 n4 => ?_⟩
            have k24 := same_new (o := .tup [.int low, .int high]) n4
            have h24 : upd G3 t4 (.tup [.int low, .int high]) t4 = some (.tup [.int low, .int high]) := upd_same
            generalize upd G3 t4 (.tup [.int low, .int high]) = G4 at k24 h24 ⊢
            refine ⟨small' (n := 2) (by decide), fun t5 n5 => ?_⟩
            have k25 := same_new (o := .tup [.int 0, .non]) n5
            have h25 : upd G4 t5 (.tup [.int 0, .non]) t5 = some (.tup [.int 0, .non]) := upd_same
            generalize upd G4 t5 (.tup [.int 0, .non]) = G5 at k25 h25 ⊢
            refine ⟨small' (n := 6) (by decide), fun L nL => ?_⟩
            have kL := same_new (o := .lst [.ref t0, .ref t1, .ref t2, .ref t3, .ref t4, .ref t5]) nL
            have kA := (((((k20.trans k21).trans k22).trans k23).trans k24).trans k25).trans kL
            have hL : upd G5 L (.lst [.ref t0, .ref t1, .ref t2, .ref t3, .ref t4, .ref t5]) L = some (.lst [.ref t0, .ref t1, .ref t2, .ref t3, .ref t4, .ref t5]) := upd_same
            have a0 : ToldAt (upd G5 L (.lst [.ref t0, .ref t1, .ref t2, .ref t3, .ref t4, .ref t5])) t0 k := .inr ⟨nk, _, _, kL _ _ (k25 _ _ (k24 _ _ (k23 _ _ (k22 _ _ (k21 _ _ h20))))), .inr ⟨_, rfl⟩, .inl rfl⟩
            have a1 : ToldAt (upd G5 L (.lst [.ref t0, .ref t1, .ref t2, .ref t3, .ref t4, .ref t5])) t1 k := .inr ⟨nk, _, _, kL _ _ (k25 _ _ (k24 _ _ (k23 _ _ (k22 _ _ h21)))), .inr ⟨_, rfl⟩, .inr ⟨_, rfl⟩⟩
            have a2 : ToldAt (upd G5 L (.lst [.ref t0, .ref t1, .ref t2, .ref t3, .ref t4, .ref t5])) t2 k := .inr ⟨nk, _, _, kL _ _ (k25 _ _ (k24 _ _ (k23 _ _ h22))), .inr ⟨_, rfl⟩, .inr ⟨_, rfl⟩⟩
            have a3 : ToldAt (upd G5 L (.lst [.ref t0, .ref t1, .ref t2, .ref t3, .ref t4, .ref t5])) t3 k := .inr ⟨nk, _, _, kL _ _ (k25 _ _ (k24 _ _ h23)), .inr ⟨_, rfl⟩, .inr ⟨_, rfl⟩⟩
            have a4 : ToldAt (upd G5 L (.lst [.ref t0, .ref t1, .ref t2, .ref t3, .ref t4, .ref t5])) t4 k := .inr ⟨nk, _, _, kL _ _ (k25 _ _ h24), .inr ⟨_, rfl⟩, .inr ⟨_, rfl⟩⟩
            have a5 : ToldAt (upd G5 L (.lst [.ref t0, .ref t1, .ref t2, .ref t3, .ref t4, .ref t5])) t5 k := .inr ⟨nk, _, _, kL _ _ h25, .inr ⟨_, rfl⟩, .inl rfl⟩
            generalize upd G5 L (.lst [.ref t0, .ref t1, .ref t2, .ref t3, .ref t4, .ref t5]) = GL at kA hL a0 a1 a2 a3 a4 a5
            obtain ⟨tk, ta, tt⟩ : ∃ tk : Addr, atI [V.ref t0, V.ref t1, V.ref t2, V.ref t3, V.ref t4, V.ref t5] kd = some (.ref tk) ∧ ToldAt GL tk k := by
              obtain ⟨v, hv, ha⟩ := pickT (xs := [V.ref t0, V.ref t1, V.ref t2, V.ref t3, V.ref t4, V.ref t5]) (k := kd) k0 (by show kd < 6; omega)
              simp only [List.mem_cons, List.not_mem_nil, or_false] at hv
              rcases hv with rfl | rfl | rfl | rfl | rfl | rfl
              · exact ⟨_, ha, a0⟩
              · exact ⟨_, ha, a1⟩
              · exact ⟨_, ha, a2⟩
              · exact ⟨_, ha, a3⟩
              · exact ⟨_, ha, a4⟩
              · exact ⟨_, ha, a5⟩
            exact ⟨.int kd, rfl, L, _, _, _, rfl, rfl, .inl (.inl hL), ta, q _ _ (r16.then kA) tt⟩
        · obtain ⟨HX, eHX⟩ : ∃ HX, HX = H6 := ⟨_, rfl⟩
          refine ⟨.int low, rfl, small' (n := 2) (by decide), fun t0 n0 => ?_⟩
          have k20 := same_new (o := .tup [.int low, .non]) n0
          have h20 : upd H6 t0 (.tup [.int low, .non]) t0 = some (.tup [.int low, .non]) := upd_same
          generalize upd H6 t0 (.tup [.int low, .non]) = G0 at k20 h20 ⊢
          refine ⟨small' (n := 2) (by decide), fun t1 n1 => ?_⟩
          have k21 := same_new (o := .tup [.int 0, .int 0]) n1
          have h21 : upd G0 t1 (.tup [.int 0, .int 0]) t1 = some (.tup [.int 0, .int 0]) := upd_same
          generalize upd G0 t1 (.tup [.int 0, .int 0]) = G1 at k21 h21 ⊢
          refine ⟨small' (n := 2) (by decide), fun t2 n2 => ?_⟩
          have k22 := same_new (o := .tup [.int 0, .int 1]) n2
          have h22 : upd G1 t2 (.tup [.int 0, .int 1]) t2 = some (.tup [.int 0, .int 1]) := upd_same
          generalize upd G1 t2 (.tup [.int 0, .int 1]) = G2 at k22 h22 ⊢
          refine ⟨.int low, rfl, .int high, rfl, small' (n := 2) (by decide), fun t3 n3 => ?_⟩
          have k23 := same_new (o := .tup [.int low, .int high]) n3
          have h23 : upd G2 t3 (.tup [.int low, .int high]) t3 = some (.tup [.int low, .int high]) := upd_same
          generalize upd G2 t3 (.tup [.int low, .int high]) = G3 at k23 h23 ⊢
          refine ⟨.int low, rfl, .int high, rfl, small' (n := 2) (by decide), fun t4 n4 => ?_⟩
          have k24 := same_new (o := .tup [.int low, .int high]) n4
          have h24 : upd G3 t4 (.tup [.int low, .int high]) t4 = some (.tup [.int low, .int high]) := upd_same
          generalize upd G3 t4 (.tup [.int low, .int high]) = G4 at k24 h24 ⊢
          refine ⟨small' (n := 2) (by decide), fun t5 n5 => ?_⟩
          have k25 := same_new (o := .tup [.int 0, .non]) n5
          have h25 : upd G4 t5 (.tup [.int 0, .non]) t5 = some (.tup [.int 0, .non]) := upd_same
          generalize upd G4 t5 (.tup [.int 0, .non]) = G5 at k25 h25 ⊢
          refine ⟨small' (n := 6) (by decide), fun L nL => ?_⟩
          have kL := same_new (o := .lst [.ref t0, .ref t1, .ref t2, .ref t3, .ref t4, .ref t5]) nL
          have kA := (((((k20.trans k21).trans k22).trans k23).trans k24).trans k25).trans kL
          have hL : upd G5 L (.lst [.ref t0, .ref t1, .ref t2, .ref t3, .ref t4, .ref t5]) L = some (.lst [.ref t0, .ref t1, .ref t2, .ref t3, .ref t4, .ref t5]) := upd_same
          have a0 : ToldAt (upd G5 L (.lst [.ref t0, .ref t1, .ref t2, .ref t3, .ref t4, .ref t5])) t0 k := .inr ⟨nk, _, _, kL _ _ (k25 _ _ (k24 _ _ (k23 _ _ (k22 _ _ (k21 _ _ h20))))), .inr ⟨_, rfl⟩, .inl rfl⟩
          have a1 : ToldAt (upd G5 L (.lst [.ref t0, .ref t1, .ref t2, .ref t3, .ref t4, .ref t5])) t1 k := .inr ⟨nk, _, _, kL _ _ (k25 _ _ (k24 _ _ (k23 _ _ (k22 _ _ h21)))), .inr ⟨_, rfl⟩, .inr ⟨_, rfl⟩⟩
          have a2 : ToldAt (upd G5 L (.lst [.ref t0, .ref t1, .ref t2, .ref t3, .ref t4, .ref t5])) t2 k := .inr ⟨nk, _, _, kL _ _ (k25 _ _ (k24 _ _ (k23 _ _ h22))), .inr ⟨_, rfl⟩, .inr ⟨_, rfl⟩⟩
          have a3 : ToldAt (upd G5 L (.lst [.ref t0, .ref t1, .ref t2, .ref t3, .ref t4, .ref t5])) t3 k := .inr ⟨nk, _, _, kL _ _ (k25 _ _ (k24 _ _ h23)), .inr ⟨_, rfl⟩, .inr ⟨_, rfl⟩⟩
          have a4 : ToldAt (upd G5 L (.lst [.ref t0, .ref t1, .ref t2, .ref t3, .ref t4, .ref t5])) t4 k := .inr ⟨nk, _, _, kL _ _ (k25 _ _ h24), .inr ⟨_, rfl⟩, .inr ⟨_, rfl⟩⟩
          have a5 : ToldAt (upd G5 L (.lst [.ref t0, .ref t1, .ref t2, .ref t3, .ref t4, .ref t5])) t5 k := .inr ⟨nk, _, _, kL _ _ h25, .inr ⟨_, rfl⟩, .inl rfl⟩
          generalize upd G5 L (.lst [.ref t0, .ref t1, .ref t2, .ref t3, .ref t4, .ref t5]) = GL at kA hL a0 a1 a2 a3 a4 a5
          obtain ⟨tk, ta, tt⟩ : ∃ tk : Addr, atI [V.ref t0, V.ref t1, V.ref t2, V.ref t3, V.ref t4, V.ref t5] kd = some (.ref tk) ∧ ToldAt GL tk k := by
            obtain ⟨v, hv, ha⟩ := pickT (xs := [V.ref t0, V.ref t1, V.ref t2, V.ref t3, V.ref t4, V.ref t5]) (k := kd) k0 (by show kd < 6; omega)
            simp only [List.mem_cons, List.not_mem_nil, or_false] at hv
            rcases hv with rfl | rfl | rfl | rfl | rfl | rfl
            · exact ⟨_, ha, a0⟩
            · exact ⟨_, ha, a1⟩
            · exact ⟨_, ha, a2⟩
            · exact ⟨_, ha, a3⟩
            · exact ⟨_, ha, a4⟩
            · exact ⟨_, ha, a5⟩
          exact ⟨.int kd, rfl, L, _, _, _, rfl, rfl, .inl (.inl hL), ta, q _ _ (r16.then kA) tt⟩)
end
def sp_l_is_one (K : PySem.W.Frag) : Sp := fun vs H Q _ => ∃ (a t : Addr) (b : Bool), vs = [.ref a, .ref t] ∧ AnsAt H a t b ∧ Q (.bl b) H
section
variable {P : Program} {w : World} {K : PySem.W.Frag} {mg : Str → Option Value} {base : Heap}
theorem ok_l_is_one (T : Ctx K mg) : FnOk P w K mg base CX0 1 T.f_l_is_one T.fd_l_is_one ["aggregate", "answer"] (sp_l_is_one K) := by
  refine T.F_l_is_one.ok sc_l_is_one (fun vs H Q E h => ?_) (fun cdv A outer s H vs Q E hr h => ?_)
  · obtain ⟨a, t, b, rfl, _⟩ := h
    rfl
  · obtain ⟨a, t, b, rfl, hA, q⟩ := h
    refine ⟨_, (pss_cons (ps_if (pt_cmpR op_eq (pe_ix ix_tup (pv 0) pe_int (fun _ _ => rfl)) pe_str (nomark _))
        (pss_one (ps_ret (pe_or (pe_cmpR op_isN (pe_ix ix_tup (pv 1) pe_int (fun _ _ => rfl)) pe_non (nomark _)) (pe_one (pe_and (pe_cmpR op_eq (pe_ix ix_tup (pv 1) pe_int (fun _ _ => rfl)) (pe_ix ix_tup (pv 1) pe_int (fun _ _ => rfl)) (nomark _)) (pe_one (pe_not (pe_ix ix_tup (pv 1) pe_int (fun _ _ => rfl)))))))))
        pss_nil)
      (pss_one (ps_ret (pe_and (pe_cmpR op_notN (pe_ix ix_tup (pv 1) pe_int (fun _ _ => rfl)) pe_non (nomark _)) (pe_one (pe_cmpR op_eq (pe_ix ix_tup (pv 1) pe_int (fun _ _ => rfl)) (pe_ix ix_tup (pv 1) pe_int (fun _ _ => rfl)) (nomark _))))))), ?_⟩
    rcases hA with ⟨r, ha, e, l, h, ht, hl, hh, rfl⟩ | ⟨k, r, ha, hk, l, h, ht, hl, hh, rfl⟩
    · have hT : SqT K H t [.bl e, l, h] := .inl (.inl ht)
      refine ⟨.ref a, rfl, a, _, 0, _, rfl, rfl, .inl (.inl ha), atI_nat (j := 0) rfl, rfl, _, rfl, ite2 (fun _ => ?_) (fun z => absurd (by decide +kernel) z)⟩
      refine ⟨.ref t, rfl, t, _, 1, _, rfl, rfl, hT, atI_nat (j := 1) rfl, rfl, _, rfl, ?_⟩
      rcases hl with rfl | ⟨i, rfl⟩
      · exact iteT q
      · refine iteF ⟨.ref t, rfl, t, _, 1, _, rfl, rfl, hT, atI_nat (j := 1) rfl, .ref t, rfl, t, _, 2, _, rfl, rfl, hT, atI_nat (j := 2) rfl, ?_⟩
        rcases hh with rfl | ⟨j, rfl⟩
        · refine ⟨rfl, _, rfl, iteF ?_⟩
          have ef : oneR e (.int i) .non = false := by cases e <;> rfl
          rw [ef] at q
          exact q
        · refine ⟨rfl, _, rfl, ite2 (fun z => ?_) (fun z => ?_)⟩
          · have ei : oneR e (.int i) (.int j) = !e := by
              show (false || (!e && decide (V.int i = V.int j))) = !e
              rw [z]
              cases e <;> rfl
            rw [ei] at q
            exact ⟨.ref t, rfl, t, _, 0, _, rfl, rfl, hT, atI_nat (j := 0) rfl, _, rfl, q⟩
          · have ei : oneR e (.int i) (.int j) = false := by
              show (false || (!e && decide (V.int i = V.int j))) = false
              rw [Bool.eq_false_iff.mpr z]
              cases e <;> rfl
            rw [ei] at q
            exact q
    · have hT : SqT K H t [l, h] := .inl (.inl ht)
      have nk : decide (V.str k = V.str "rank") = false := decide_eq_false fun z => hk (V.str.inj z)
      refine ⟨.ref a, rfl, a, _, 0, _, rfl, rfl, .inl (.inl ha), atI_nat (j := 0) rfl, rfl, _, rfl, ite2 (fun z => absurd (nk.symm.trans z) Bool.false_ne_true) (fun _ => ?_)⟩
      refine ⟨.ref t, rfl, t, _, 0, _, rfl, rfl, hT, atI_nat (j := 0) rfl, rfl, _, rfl, ?_⟩
      rcases hl with rfl | ⟨i, rfl⟩
      · exact iteF q
      · refine iteT ⟨.ref t, rfl, t, _, 0, _, rfl, rfl, hT, atI_nat (j := 0) rfl, .ref t, rfl, t, _, 1, _, rfl, rfl, hT, atI_nat (j := 1) rfl, ?_⟩
        rcases hh with rfl | ⟨j, rfl⟩ <;> exact ⟨rfl, q⟩
end
def sp_law (K : PySem.W.Frag) : Sp := fun vs H Q _ => ∃ (a : Addr) (ns : List Int), vs = [.ref a] ∧ SqL K H a (ns.map V.int) ∧ ns.length ≤ 63 ∧ ∀ H', Q (.bl true) H'
theorem told_ans {H : Hp} {a t : Addr} {k : Str} (ha : AggAt H a k) (ht : ToldAt H t k) : ∃ b, AnsAt H a t b := by
  obtain ⟨r, ha⟩ := ha
  rcases ht with ⟨rfl, e, l, h, ht, hl, hh⟩ | ⟨nk, l, h, ht, hl, hh⟩
  · exact ⟨_, .inl ⟨r, ha, e, l, h, ht, hl, hh, rfl⟩⟩
  · exact ⟨_, .inr ⟨k, r, ha, nk, l, h, ht, hl, hh, rfl⟩⟩
section
variable {P : Program} {w : World} {K : PySem.W.Frag} {mg : Str → Option Value} {base : Heap}
theorem ok_law (T : Ctx K mg) : FnOk P w K mg base CX0 4 T.f_law T.fd_law ["script"] (sp_law K) := by
  refine T.F_law.ok sc_law (fun vs H Q E h => ?_) (fun cdv A outer s H vs Q E hr h => ?_)
  · obtain ⟨a, ns, rfl, _⟩ := h
    rfl
  · obtain ⟨a, ns, rfl, hS, hlen, q⟩ := h
    refine ⟨_, (pss_cons (ps_set (i := 1) sc_law.nd rfl (.inl rfl) (pe_call (ok_l_draws T) (hr.mono (by decide)) (by rfl) T.g_l_draws T.F_l_draws.kp T.b_l_draws .nil pass0 (pa_cons (pv 0) (pa_cons pe_int pa_nil))))
      (pss_cons (ps_for PassesOwn.never rfl (pi_range1 (by rfl) T.m_range (pa_cons pe_int pa_nil)) (pg_name (i := 2) sc_law.nd rfl (.inl rfl))
        (pss_cons (ps_set (i := 3) sc_law.nd rfl (.inl rfl) (pe_op op_add pe_int (pe_call (ok_l_take T) (hr.mono (by decide)) (by rfl) T.g_l_take T.F_l_take.kp T.b_l_take .nil pass0 (pa_cons (pv 1) (pa_cons pe_int pa_nil)))))
      (pss_cons (ps_set (i := 4) sc_law.nd rfl (.inl rfl) (pe_tup (pa_cons pe_str (pa_cons (pe_call (ok_l_take T) (hr.mono (by decide)) (by rfl) T.g_l_take T.F_l_take.kp T.b_l_take .nil pass0 (pa_cons (pv 1) (pa_cons (pe_op op_add (pv 3) pe_int) pa_nil))) (pa_cons (pv 3) pa_nil)))))
      (pss_cons (ps_set (i := 5) sc_law.nd rfl (.inl rfl) (pe_ix ix_list (pe_lst (pa_cons (pe_tup (pa_cons pe_str pa_nil)) (pa_cons (pe_tup (pa_cons pe_str pa_nil)) (pa_cons (pe_tup (pa_cons pe_str (pa_cons (pe_un un_neg (pv 3)) (pa_cons (pv 3) pa_nil)))) (pa_cons (pv 4) (pa_cons (pv 4) pa_nil)))))) (pe_call (ok_l_take T) (hr.mono (by decide)) (by rfl) T.g_l_take T.F_l_take.kp T.b_l_take .nil pass0 (pa_cons (pv 1) (pa_cons pe_int pa_nil))) (fun _ _ => rfl)))
      (pss_cons (ps_set (i := 6) sc_law.nd rfl (.inl rfl) (pe_call (ok_l_answer T) (hr.mono (by decide)) (by rfl) T.g_l_answer T.F_l_answer.kp T.b_l_answer .nil pass0 (pa_cons (pv 1) (pa_cons (pv 0) (pa_cons (pv 5) pa_nil)))))
      (pss_one (ps_if (pt_not (pt_val (pe_call (ok_l_same T) (hr.mono (by decide)) (by rfl) T.g_l_same T.F_l_same.kp T.b_l_same .nil pass0 (pa_cons (pe_call (ok_is_final T) (hr.mono (by decide)) (by rfl) T.g_is_final T.F_is_final.kp T.b_is_final .nil pass0 (pa_cons (pv 5) (pa_cons (pv 6) pa_nil))) (pa_cons (pe_call (ok_l_is_one T) (hr.mono (by decide)) (by rfl) T.g_l_is_one T.F_l_is_one.kp T.b_l_is_one .nil pass0 (pa_cons (pv 5) (pa_cons (pv 6) pa_nil))) pa_nil)))))
        (pss_one (ps_ret pe_bl))
        pss_nil)))))))
      (pss_one (ps_ret pe_bl)))), ?_⟩
    refine ⟨.ref a, rfl, a, ns, 50, rfl, hS, by omega, by decide, fun H1 d s1 nd hd => ?_⟩
    refine ⟨4, rfl, by decide, by decide, for_range (lo := 0) (n := 4) (fun i σ H' => ∃ y2 y3 y4 y5 y6 : Option V, σ = [some (.ref a), some (.ref d), y2, y3, y4, y5, y6] ∧ Dr d H1 H') ⟨none, none, none, none, none, rfl, Dr.refl hd⟩ (fun i σ H2 hi hp => ?_) (fun σ H2 hp => ?_)⟩
    · obtain ⟨y2, y3, y4, y5, y6, rfl, r2⟩ := hp
      refine ⟨.ref d, rfl, d, _, rfl, r2.at_, by decide, fun H3 u r3 u0 u1 => ⟨_, _, rfl, rfl, ?_⟩⟩
      dsimp only
      generalize eq0 : 1 + u = qq
      refine ⟨.ref d, rfl, .int qq, rfl, _, _, rfl, rfl, d, _, rfl, r3.at_, by omega, fun H4 v r4 v0 v1 => ⟨.int qq, rfl, small' (n := 3) (by decide), fun rk nrk => ?_⟩⟩
      have r24 := (r2.trans r3).trans r4
      have r5 := r24.then (same_new (o := .tup [.str "rank", .int v, .int qq]) nrk)
      have hrk : upd H4 rk (.tup [.str "rank", .int v, .int qq]) rk = some (.tup [.str "rank", .int v, .int qq]) := upd_same
      generalize upd H4 rk (.tup [.str "rank", .int v, .int qq]) = H5 at r5 hrk
      refine ⟨small' (n := 1) (by decide), fun t1 n1 => ⟨small' (n := 1) (by decide), fun t2 n2 => ?_⟩⟩
      have k1 := same_new (o := .tup [.str "count"]) n1
      have h1 : upd H5 t1 (.tup [.str "count"]) t1 = some (.tup [.str "count"]) := upd_same
      generalize upd H5 t1 (.tup [.str "count"]) = H6 at k1 h1 n2
      have k2 := same_new (o := .tup [.str "sum"]) n2
      have h2 : upd H6 t2 (.tup [.str "sum"]) t2 = some (.tup [.str "sum"]) := upd_same
      generalize upd H6 t2 (.tup [.str "sum"]) = H7 at k2 h2
      refine ⟨.int qq, rfl, _, rfl, .int qq, rfl, small' (n := 3) (by decide), fun t3 n3 => ?_⟩
      have k3 := same_new (o := .tup [.str "among", .int (-qq), .int qq]) n3
      have h3 : upd H7 t3 (.tup [.str "among", .int (-qq), .int qq]) t3 = some (.tup [.str "among", .int (-qq), .int qq]) := upd_same
      generalize upd H7 t3 (.tup [.str "among", .int (-qq), .int qq]) = H8 at k3 h3
      refine ⟨.ref rk, rfl, .ref rk, rfl, small' (n := 5) (by decide), fun L nL => ?_⟩
      have k4 := same_new (o := .lst [.ref t1, .ref t2, .ref t3, .ref rk, .ref rk]) nL
      have kk := ((k1.trans k2).trans k3).trans k4
      have r9 := r5.then kk
      have nLd : L ≠ d := (r5.then ((k1.trans k2).trans k3)).ne nL
      have hL : upd H8 L (.lst [.ref t1, .ref t2, .ref t3, .ref rk, .ref rk]) L = some (.lst [.ref t1, .ref t2, .ref t3, .ref rk, .ref rk]) := upd_same
      have e1 : AggAt (upd H8 L (.lst [.ref t1, .ref t2, .ref t3, .ref rk, .ref rk])) t1 "count" := ⟨_, k4 _ _ (k3 _ _ (k2 _ _ h1))⟩
      have e2 : AggAt (upd H8 L (.lst [.ref t1, .ref t2, .ref t3, .ref rk, .ref rk])) t2 "sum" := ⟨_, k4 _ _ (k3 _ _ h2)⟩
      have e3 : AggAt (upd H8 L (.lst [.ref t1, .ref t2, .ref t3, .ref rk, .ref rk])) t3 "among" := ⟨_, k4 _ _ h3⟩
      have e4 : AggAt (upd H8 L (.lst [.ref t1, .ref t2, .ref t3, .ref rk, .ref rk])) rk "rank" := ⟨_, kk _ _ hrk⟩
      generalize upd H8 L (.lst [.ref t1, .ref t2, .ref t3, .ref rk, .ref rk]) = H9 at r9 hL e1 e2 e3 e4
      refine ⟨.ref d, rfl, d, _, rfl, r9.at_, by decide, fun HA z rA z0 z1 => ?_⟩
      have hLA := rA.keep _ _ nLd hL
      obtain ⟨ag, k, aga, hk, hag⟩ : ∃ (ag : Addr) (k : Str), atI [V.ref t1, .ref t2, .ref t3, .ref rk, .ref rk] z = some (.ref ag) ∧ k ∈ (["count", "sum", "among", "rank"] : List Str) ∧ AggAt H9 ag k := by
        obtain ⟨w, hw, ha⟩ := pickT (xs := [V.ref t1, .ref t2, .ref t3, .ref rk, .ref rk]) z0 z1
        simp only [List.mem_cons, List.not_mem_nil, or_false] at hw
        rcases hw with rfl | rfl | rfl | rfl | rfl
        · exact ⟨_, "count", ha, by simp, e1⟩
        · exact ⟨_, "sum", ha, by simp, e2⟩
        · exact ⟨_, "among", ha, by simp, e3⟩
        · exact ⟨_, "rank", ha, by simp, e4⟩
        · exact ⟨_, "rank", ha, by simp, e4⟩
      have hagA := agg_kept rA r9.at_ hag
      refine ⟨L, _, _, _, rfl, rfl, .inl (.inl hLA), aga, ?_⟩
      have rAll := r9.trans rA
      refine ⟨.ref d, rfl, .ref a, rfl, .ref ag, rfl, d, a, ag, ns, k, rfl, fun H' r => (rAll.trans r).script hS nd s1, rAll.at_, hagA, hk, fun HB t rB ht => ?_⟩
      obtain ⟨b, hb⟩ := told_ans (agg_kept rB rAll.at_ hagA) ht
      refine ⟨.ref ag, rfl, .ref t, rfl, ag, t, b, rfl, hb, .ref ag, rfl, .ref t, rfl, ag, t, b, rfl, hb, b, b, rfl, _, rfl, ?_⟩
      rw [decide_eq_true rfl]
      exact iteF ⟨_, _, _, _, _, rfl, rAll.trans rB⟩
    · exact q _
end
theorem all_mk {l : PySem.W.OpenLaw} {w : World} {K : PySem.W.Frag} {h : Heap} {mg : Str → Option Value} {fa : Addr} (X : K.In h) (G : h.Ns mainGlobals mg) (hfa : mg "law" = some (.ref fa)) 
    {f1 : Addr} {od1 an1 : Option Addr} {sl1 : Array (Option Value)} {oc1 kV1 dc1 pm1 cd1 ct1 : Value}
    {f2 : Addr} {od2 an2 : Option Addr} {sl2 : Array (Option Value)} {oc2 kV2 dc2 pm2 cd2 ct2 : Value}
    {f3 : Addr} {od3 an3 : Option Addr} {sl3 : Array (Option Value)} {oc3 kV3 dc3 pm3 cd3 ct3 : Value}
    {f4 : Addr} {od4 an4 : Option Addr} {sl4 : Array (Option Value)} {oc4 kV4 dc4 pm4 cd4 ct4 : Value}
    {f5 : Addr} {od5 an5 : Option Addr} {sl5 : Array (Option Value)} {oc5 kV5 dc5 pm5 cd5 ct5 : Value}
    {f6 : Addr} {od6 an6 : Option Addr} {sl6 : Array (Option Value)} {oc6 kV6 dc6 pm6 cd6 ct6 : Value}
    {f7 : Addr} {od7 an7 : Option Addr} {sl7 : Array (Option Value)} {oc7 kV7 dc7 pm7 cd7 ct7 : Value}
    {f8 : Addr} {od8 an8 : Option Addr} {sl8 : Array (Option Value)} {oc8 kV8 dc8 pm8 cd8 ct8 : Value}
    (a1 : PySem.W.nsIn K mainGlobals "is_final" = some (some (.ref f1))) (l1 : K.lookup f1 = some ⟨oc1, od1, .func (PySem.W.fnOf "is_final" "is_final" (defArgs s_is_final) (defBody s_is_final) (defScope s_is_final) .none kV1 dc1 pm1 an1 cd1 ct1), sl1⟩) (c1 : PySem.W.codeIn K cd1 "is_final" = true) (k1 : PySem.W.keepIn K (.ref f1) = true)
    (a2 : PySem.W.nsIn K mainGlobals "_law_draws" = some (some (.ref f2))) (l2 : K.lookup f2 = some ⟨oc2, od2, .func (PySem.W.fnOf "_law_draws" "_law_draws" (defArgs s_l_draws) (defBody s_l_draws) (defScope s_l_draws) .none kV2 dc2 pm2 an2 cd2 ct2), sl2⟩) (c2 : PySem.W.codeIn K cd2 "_law_draws" = true) (k2 : PySem.W.keepIn K (.ref f2) = true)
    (a3 : PySem.W.nsIn K mainGlobals "_law_take" = some (some (.ref f3))) (l3 : K.lookup f3 = some ⟨oc3, od3, .func (PySem.W.fnOf "_law_take" "_law_take" (defArgs s_l_take) (defBody s_l_take) (defScope s_l_take) .none kV3 dc3 pm3 an3 cd3 ct3), sl3⟩) (c3 : PySem.W.codeIn K cd3 "_law_take" = true) (k3 : PySem.W.keepIn K (.ref f3) = true)
    (a4 : PySem.W.nsIn K mainGlobals "_law_same" = some (some (.ref f4))) (l4 : K.lookup f4 = some ⟨oc4, od4, .func (PySem.W.fnOf "_law_same" "_law_same" (defArgs s_l_same) (defBody s_l_same) (defScope s_l_same) .none kV4 dc4 pm4 an4 cd4 ct4), sl4⟩) (c4 : PySem.W.codeIn K cd4 "_law_same" = true) (k4 : PySem.W.keepIn K (.ref f4) = true)
    (a5 : PySem.W.nsIn K mainGlobals "_law_cell" = some (some (.ref f5))) (l5 : K.lookup f5 = some ⟨oc5, od5, .func (PySem.W.fnOf "_law_cell" "_law_cell" (defArgs s_l_cell) (defBody s_l_cell) (defScope s_l_cell) .none kV5 dc5 pm5 an5 cd5 ct5), sl5⟩) (c5 : PySem.W.codeIn K cd5 "_law_cell" = true) (k5 : PySem.W.keepIn K (.ref f5) = true)
    (a6 : PySem.W.nsIn K mainGlobals "_law_answer" = some (some (.ref f6))) (l6 : K.lookup f6 = some ⟨oc6, od6, .func (PySem.W.fnOf "_law_answer" "_law_answer" (defArgs s_l_answer) (defBody s_l_answer) (defScope s_l_answer) .none kV6 dc6 pm6 an6 cd6 ct6), sl6⟩) (c6 : PySem.W.codeIn K cd6 "_law_answer" = true) (k6 : PySem.W.keepIn K (.ref f6) = true)
    (a7 : PySem.W.nsIn K mainGlobals "_law_is_one" = some (some (.ref f7))) (l7 : K.lookup f7 = some ⟨oc7, od7, .func (PySem.W.fnOf "_law_is_one" "_law_is_one" (defArgs s_l_is_one) (defBody s_l_is_one) (defScope s_l_is_one) .none kV7 dc7 pm7 an7 cd7 ct7), sl7⟩) (c7 : PySem.W.codeIn K cd7 "_law_is_one" = true) (k7 : PySem.W.keepIn K (.ref f7) = true)
    (a8 : PySem.W.nsIn K mainGlobals "law" = some (some (.ref f8))) (l8 : K.lookup f8 = some ⟨oc8, od8, .func (PySem.W.fnOf "law" "law" (defArgs s_law) (defBody s_law) (defScope s_law) .none kV8 dc8 pm8 an8 cd8 ct8), sl8⟩) (c8 : PySem.W.codeIn K cd8 "law" = true) (k8 : PySem.W.keepIn K (.ref f8) = true)
    (z9 : PySem.W.nsIn K mainGlobals "abs" = some none)
    (z10 : PySem.W.nsIn K mainGlobals "bool" = some none)
    (z11 : PySem.W.nsIn K mainGlobals "int" = some none)
    (z12 : PySem.W.nsIn K mainGlobals "isinstance" = some none)
    (z13 : PySem.W.nsIn K mainGlobals "len" = some none)
    (z14 : PySem.W.nsIn K mainGlobals "list" = some none)
    (z15 : PySem.W.nsIn K mainGlobals "range" = some none)
    (z16 : PySem.W.nsIn K mainGlobals "str" = some none)
    (z17 : PySem.W.nsIn K mainGlobals "tuple" = some none) :
    ∃ fd : FuncData, (∀ (s : Shared) (v : Value), BindsTo s fd ⟨[v], []⟩ [("script", v)]) ∧ ∀ base : Heap, K.In base → base.Ns mainGlobals mg →  FnOk l.prog w K mg base CX0 4 fa fd ["script"] (sp_law K) := by
  have e := hfa.symm.trans (PySem.W.mg_of X G a8)
  cases e
  have F1 := fun_mk (st := s_is_final) l1 c1 k1
  have B1 := F1.binds (ps := ["aggregate", "answer"]) (fun _ _ _ _ _ _ us hl => match us, hl with | [_, _], _ => rfl)
  have F2 := fun_mk (st := s_l_draws) l2 c2 k2
  have B2 := F2.binds (ps := ["script", "many"]) (fun _ _ _ _ _ _ us hl => match us, hl with | [_, _], _ => rfl)
  have F3 := fun_mk (st := s_l_take) l3 c3 k3
  have B3 := F3.binds (ps := ["draws", "many"]) (fun _ _ _ _ _ _ us hl => match us, hl with | [_, _], _ => rfl)
  have F4 := fun_mk (st := s_l_same) l4 c4 k4
  have B4 := F4.binds (ps := ["actual", "due"]) (fun _ _ _ _ _ _ us hl => match us, hl with | [_, _], _ => rfl)
  have F5 := fun_mk (st := s_l_cell) l5 c5 k5
  have B5 := F5.binds (ps := ["script", "draws"]) (fun _ _ _ _ _ _ us hl => match us, hl with | [_, _], _ => rfl)
  have F6 := fun_mk (st := s_l_answer) l6 c6 k6
  have B6 := F6.binds (ps := ["draws", "script", "aggregate"]) (fun _ _ _ _ _ _ us hl => match us, hl with | [_, _, _], _ => rfl)
  have F7 := fun_mk (st := s_l_is_one) l7 c7 k7
  have B7 := F7.binds (ps := ["aggregate", "answer"]) (fun _ _ _ _ _ _ us hl => match us, hl with | [_, _], _ => rfl)
  have F8 := fun_mk (st := s_law) l8 c8 k8
  have B8 := F8.binds (ps := ["script"]) (fun _ _ _ _ _ _ us hl => match us, hl with | [_], _ => rfl)
  let T : Ctx K mg := { f_is_final := f1, fd_is_final := _, F_is_final := F1, b_is_final := B1, g_is_final := PySem.W.mg_of X G a1, f_l_draws := f2, fd_l_draws := _, F_l_draws := F2, b_l_draws := B2, g_l_draws := PySem.W.mg_of X G a2, f_l_take := f3, fd_l_take := _, F_l_take := F3, b_l_take := B3, g_l_take := PySem.W.mg_of X G a3, f_l_same := f4, fd_l_same := _, F_l_same := F4, b_l_same := B4, g_l_same := PySem.W.mg_of X G a4, f_l_cell := f5, fd_l_cell := _, F_l_cell := F5, b_l_cell := B5, g_l_cell := PySem.W.mg_of X G a5, f_l_answer := f6, fd_l_answer := _, F_l_answer := F6, b_l_answer := B6, g_l_answer := PySem.W.mg_of X G a6, f_l_is_one := f7, fd_l_is_one := _, F_l_is_one := F7, b_l_is_one := B7, g_l_is_one := PySem.W.mg_of X G a7, f_law := fa, fd_law := _, F_law := F8, b_law := B8, g_law := PySem.W.mg_of X G a8, m_abs := PySem.W.mg_none_of X G z9, m_bool := PySem.W.mg_none_of X G z10, m_int := PySem.W.mg_none_of X G z11, m_isinstance := PySem.W.mg_none_of X G z12, m_len := PySem.W.mg_none_of X G z13, m_list := PySem.W.mg_none_of X G z14, m_range := PySem.W.mg_none_of X G z15, m_str := PySem.W.mg_none_of X G z16, m_tuple := PySem.W.mg_none_of X G z17 }
  exact ⟨PySem.W.fnOf "law" "law" (defArgs s_law) (defBody s_law) (defScope s_law) .none kV8 dc8 pm8 an8 cd8 ct8, fun s v => .of_eq rfl, fun base _ _  => ok_law T ⟩
end Tw
open PySem PySem.W PyProof.Rows
set_option maxHeartbeats 0 in
theorem PySem.Challenge.cw_toldwhensure_k39_final_answers_holds : PySem.Challenge.rw_toldwhensure_k39_final_answers.Holds := by
  w_on; o_law; k_head; (case hw => w_witness2)
  k_fill
  refine L2.walk_of (l := PySem.Challenge.rw_toldwhensure_k39_final_answers) (n := 63) (k := 4) (x := "script") (CX := fun _ => L2.CX0) (sp := fun w => Tw.sp_law _) rfl (by decide) rfl ⟨rfl, by decide, by decide⟩ (fun w h Y => PySem.W.kIn_of Y) ?F
    (fun _ _ a ns hl _ hS => ⟨a, ns, rfl, hS, hl, fun _ => rfl⟩) (fun _ _ _ _ _ h => h)
  case F =>
    intro w mg fa h KX G hmg
    refine' Tw.all_mk KX G hmg  ?a1 ?l1 ?c1 ?k1 ?a2 ?l2 ?c2 ?k2 ?a3 ?l3 ?c3 ?k3 ?a4 ?l4 ?c4 ?k4 ?a5 ?l5 ?c5 ?k5 ?a6 ?l6 ?c6 ?k6 ?a7 ?l7 ?c7 ?k7 ?a8 ?l8 ?c8 ?k8 ?z9 ?z10 ?z11 ?z12 ?z13 ?z14 ?z15 ?z16 ?z17
    (case a1 => k_is); (case l1 => k_is); (case c1 => k_is); (case k1 => k_is); (case a2 => k_is); (case l2 => k_is); (case c2 => k_is); (case k2 => k_is); (case a3 => k_is); (case l3 => k_is); (case c3 => k_is); (case k3 => k_is); (case a4 => k_is); (case l4 => k_is); (case c4 => k_is); (case k4 => k_is); (case a5 => k_is); (case l5 => k_is); (case c5 => k_is); (case k5 => k_is); (case a6 => k_is); (case l6 => k_is); (case c6 => k_is); (case k6 => k_is); (case a7 => k_is); (case l7 => k_is); (case c7 => k_is); (case k7 => k_is); (case a8 => k_is); (case l8 => k_is); (case c8 => k_is); (case k8 => k_is); (case z9 => k_is); (case z10 => k_is); (case z11 => k_is); (case z12 => k_is); (case z13 => k_is); (case z14 => k_is); (case z15 => k_is); (case z16 => k_is); (case z17 => k_is)
