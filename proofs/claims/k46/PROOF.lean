import PyProof.Rows.All
import Wide.All
import OpenK.AllK
import Wide.FinOn
import HandS.ForMost
import HandS.Wide
import HandS.WideBits
import HandS.MakeKwOnly
import HandS.Defaults
import HandS.StrMore
import HandS.IsInst
import HandS.TupAny
import HandS.Flow
import KE.GoesMore
import KE.GoesEnum
import HandS.Conv
import HandS.Evl
import KE.KIntText
import HandS.Text
import HandS.Style
import HandS.ReplaceList
import HandS.ReplaceLit
import HandS.ReplaceDef
import KE.GoesZip
import KE.DataMinMax
import HandS.SortKw
import HandS.Ends
import PyProof.StrLawsRepr
import HandS.RaiseMore
import HandS.Zip
import HandS.TryOnly
import HandS.Deep
import HandS.ExcInit
import HandS.ExcField
import HandS.WordsExc
import HandS.TryMany
import HandS.ExcIs
import HandS.Lambda
import HandS.EndTab
import KE.KNestM
import KE.IntTextText
import HandS.TupMul
import HandS.Dict
import HandS.FromBytesMap
import HandS.FStr
import HandS.CallLocal
import PySem.Challenge.RW_shortfigures_k46_changes_refused
set_option Elab.async false
set_option linter.all false
set_option maxRecDepth 100000
set_option maxHeartbeats 4000000
namespace My
open PySem PySem.Spec PyProof.Rows L2

/-! ### the text by places -/
def top (i : Nat) : Stmt := PySem.Challenge.pw_shortfigures_k46_changes_refused.main.body.getD i (.Pass ⟨0, 0, 0, 0⟩)
abbrev sSpring : Stmt := top 58
abbrev sGulp : Stmt := top 59
abbrev sSome : Stmt := top 60
theorem scGulp : FnScope ["_law_spring_here", "_law_many", "_law_digit"] ["_law_spring_here", "_law_many"] (defScope sGulp) := ⟨rfl, rfl, rfl, by decide +kernel, rfl, by decide +kernel, by decide +kernel⟩
theorem scSome : FnScope ["_law_spring_here", "_law_things"] ["_law_spring_here", "_law_things"] (defScope sSome) := ⟨rfl, rfl, rfl, by decide +kernel, rfl, by decide +kernel, by decide +kernel⟩
theorem scSpring : FnScope ["_law_script", "_law_k", "_law_own", "_law_mixed", "_law_entry"] ["_law_script", "_law_k"] (defScope sSpring) := ⟨rfl, rfl, rfl, by decide +kernel, rfl, by decide +kernel, by decide +kernel⟩

/-! ### heaps -/
/-- all that was tracked stands, but a -/
def But (a : Addr) (H H' : Hp) : Prop := ∀ b o, H b = some o → b ≠ a → H' b = some o
theorem But.refl (a : Addr) (H : Hp) : But a H H := fun _ _ e _ => e
theorem But.trans {a : Addr} {H H1 H2 : Hp} (x : But a H H1) (y : But a H1 H2) : But a H H2 := fun b o e n => y b o (x b o e n) n
theorem Same.but {a : Addr} {H H1 : Hp} (x : Same H H1) : But a H H1 := fun b o e _ => x b o e
theorem But.upd (a : Addr) (H : Hp) (o : HO) : But a H (upd H a o) := fun b _ e n => by rw [upd_ne n]; exact e
theorem same_upd {H : Hp} {p : Addr} {o : HO} (h : H p = none) : Same H (upd H p o) := fun b x e => by
  rw [upd_ne (ne_of_none e h)]
  exact e
theorem Same.refl (H : Hp) : Same H H := fun _ _ e => e
/-- a spring: a list of three ints -/
def Spr (H : Hp) (a : Addr) : Prop := ∃ x y z : Int, H a = some (.lst [.int x, .int y, .int z])
theorem Spr.same {H H1 : Hp} {a : Addr} (s : Spr H a) (k : Same H H1) : Spr H1 a := by
  obtain ⟨x, y, z, e⟩ := s
  exact ⟨x, y, z, k _ _ e⟩
theorem But.new {a p : Addr} {H H1 : Hp} {o : HO} (x : But a H H1) (h : H1 p = none) : But a H (L2.upd H1 p o) := x.trans (Same.but (same_upd h))
/-! ### promises -/
def spGulp : Sp := fun vs H Q _ => ∃ (a : Addr) (m : Int), vs = [.ref a, .int m] ∧ Spr H a ∧ 0 < m ∧ m.natAbs < 2 ^ 64 ∧
  ∀ (r : Int) (H' : Hp), 0 ≤ r → r < m → Spr H' a → But a H H' → Q (.int r) H'
def spSome (K : PySem.W.Frag) : Sp := fun vs H Q _ => ∃ (a t : Addr) (xs : List V), vs = [.ref a, .ref t] ∧ Spr H a ∧ (SqL K H t xs ∨ SqT K H t xs) ∧ t ≠ a ∧ xs ≠ [] ∧ xs.length < 1000 ∧
  ∀ (v : V) (H' : Hp), v ∈ xs → Spr H' a → But a H H' → Q v H'
theorem divp_small (i : Int) {j : Int} (h : 0 < j) (hj : j.natAbs < 2 ^ 64) : CDivP i j := ⟨h, PyProof.noPylong_of_log2 (Nat.lt_of_lt_of_le (PySem.Flt.log2_lt_of (by decide) hj) (by decide))⟩
theorem but_sql {K : PySem.W.Frag} {a t : Addr} {xs : List V} {H H' : Hp} (b : But a H H') (n : t ≠ a) (h : SqL K H t xs) : SqL K H' t xs := by
  rcases h with (h | ⟨o, h⟩) | h
  · exact .inl (.inl (b _ _ h n))
  · exact .inl (.inr ⟨o, b _ _ h n⟩)
  · exact .inr h
theorem but_sqt {K : PySem.W.Frag} {a t : Addr} {xs : List V} {H H' : Hp} (b : But a H H') (n : t ≠ a) (h : SqT K H t xs) : SqT K H' t xs := by
  rcases h with (h | ⟨o, h⟩) | h
  · exact .inl (.inl (b _ _ h n))
  · exact .inl (.inr ⟨o, b _ _ h n⟩)
  · exact .inr h
/-- what the walk asks of built-ins -/
structure Bt (mg : Str → Option Value) : Prop where
  len : mg "len" = none
  int : mg "int" = none
  divmod : mg "divmod" = none
  abs : mg "abs" = none
  all : mg "all" = none
  range : mg "range" = none
  max : mg "max" = none
  min : mg "min" = none
  str : mg "str" = none
  tuple : mg "tuple" = none
  isinstance : mg "isinstance" = none
  enumerate : mg "enumerate" = none
  bool : mg "bool" = none
section
variable {P : Program} {w : World} {K : PySem.W.Frag} {mg : Str → Option Value} {base : Heap}
theorem ok_gulp {f : Addr} {fd : FuncData} (F : Fun K "_law_gulp" "_law_gulp" sGulp f fd) (B : Bt mg) : FnOk P w K mg base CX0 2 f fd ["_law_spring_here", "_law_many"] spGulp := by
  refine F.ok scGulp (fun vs H Q E h => ?_) (fun cdv A outer s H vs Q E hr h => ?_)
  · obtain ⟨a, m, rfl, _⟩ := h
    rfl
  · obtain ⟨a, m, rfl, ⟨x, y, z, ha⟩, hm, hm2, k⟩ := h
    refine ⟨_, pss_cons (ps_asg (pe_op op_add (pe_ix ix_list (pv 0) pe_int (fun _ _ => rfl)) pe_int) (pg_sub (pv 0) pe_int set_list))
      (pss_cons (ps_if (pt_cmpR op_gt (pe_ix ix_list (pv 0) pe_int (fun _ _ => rfl)) pe_int (nomark _))
        (pss_cons (ps_asg (pe_callB call_divmodW (by rfl) B.divmod (by decide +kernel) (pa_cons (pe_callTy call_int1 (by rfl) B.int (by decide +kernel) (pa_cons (pe_ix ix_list (pv 0) pe_int (fun _ _ => rfl)) pa_nil)) (pa_cons (pv 1) pa_nil)))
            (pg_tup rfl (pgs_cons (pg_sub (pv 0) pe_int set_list) (pgs_cons (pg_name (i := 2) scGulp.nd rfl (.inl rfl)) pgs_nil))))
          (pss_one (ps_ret (pv 2)))) pss_nil)
      (pss_cons (ps_asg (pe_op op_mod (pe_callTy call_int1 (by rfl) B.int (by decide +kernel) (pa_cons
          (pe_op op_add (pe_op op_add (pe_op op_mul (pe_ix ix_list (pv 0) pe_int (fun _ _ => rfl)) pe_int) (pe_op op_mul (pe_ix ix_list (pv 0) pe_int (fun _ _ => rfl)) pe_int))
            (pe_op op_mul (pe_op op_fdiv (pe_ix ix_list (pv 0) pe_int (fun _ _ => rfl)) pe_int) pe_int)) pa_nil)) pe_int) (pg_sub (pv 0) pe_int set_list))
      (pss_one (ps_ret (pe_op op_mod (pe_callTy call_int1 (by rfl) B.int (by decide +kernel) (pa_cons (pe_op op_fdiv (pe_ix ix_list (pv 0) pe_int (fun _ _ => rfl)) pe_int) pa_nil)) (pv 1)))))), ?_⟩
    have hA : SqL K H a [.int x, .int y, .int z] := SqL.of ha
    -- sp[0] = sp[0] + 5
    refine ⟨.ref a, rfl, a, _, 0, .int x, rfl, rfl, hA, rfl, x, 5, rfl, rfl, .ref a, rfl, a, _, 0, 0, rfl, rfl, ha, rfl, ?_⟩
    have h1 : (upd H a (.lst [.int (x + 5), .int y, .int z])) a = some (.lst [.int (x + 5), .int y, .int z]) := upd_same
    have b1 : But a H (upd H a (.lst [.int (x + 5), .int y, .int z])) := But.upd _ _ _
    have hA1 : SqL K (upd H a (.lst [.int (x + 5), .int y, .int z])) a [.int (x + 5), .int y, .int z] := SqL.of h1
    refine ⟨.ref a, rfl, a, _, 1, .int y, rfl, rfl, hA1, rfl, y, 0, rfl, rfl, _, rfl, ite2 (fun _ => ?_) (fun _ => ?_)⟩
    · refine ⟨.ref a, rfl, a, _, 1, .int y, rfl, rfl, hA1, rfl, .inl ⟨y, rfl, .int m, rfl, y, m, rfl, divp_small _ hm hm2, fun p hp => ?_⟩⟩
      have npa : a ≠ p := ne_of_none h1 hp
      refine ⟨p, _, rfl, SqT.of upd_same, rfl, .int (y / m), [.int (y % m)], rfl, .ref a, rfl, a, _, 1, 1, rfl, rfl, (by rw [upd_ne npa]; exact h1), rfl, .int (y % m), [], rfl, rfl, _, rfl, ?_⟩
      refine k (y % m) _ (Int.emod_nonneg _ (by omega)) (Int.emod_lt_of_pos _ hm) ⟨_, _, _, upd_same⟩ ?_
      exact (b1.new hp).trans (But.upd _ _ _)
    · refine ⟨.ref a, rfl, a, _, 2, .int z, rfl, rfl, hA1, rfl, z, 46021, rfl, rfl, .inr ⟨by decide, by decide⟩, .ref a, rfl, a, _, 0, .int (x + 5), rfl, rfl, hA1, rfl, _, 80021, rfl, rfl, .inr ⟨by decide, by decide⟩, _, _, rfl, rfl,
        .ref a, rfl, a, _, 2, .int z, rfl, rfl, hA1, rfl, z, 3001, rfl, rfl, ⟨by decide, by decide⟩, _, 31, rfl, rfl, .inr ⟨by decide, by decide⟩, _, _, rfl, rfl, .inl ⟨_, rfl, _, 1999999859, rfl, rfl, (by show (0 : Int) < 1999999859; decide), .ref a, rfl, a, _, 2, 2, rfl, rfl, h1, rfl, ?_⟩⟩
      refine ⟨.ref a, rfl, a, _, 2, _, rfl, rfl, SqL.of upd_same, rfl, _, 263, rfl, rfl, ⟨by decide, by decide⟩, .inl ⟨_, rfl, .int m, rfl, _, m, rfl, rfl, hm, ?_⟩⟩
      exact k _ _ (Int.emod_nonneg _ (by omega)) (Int.emod_lt_of_pos _ hm) ⟨_, _, _, upd_same⟩ (b1.trans (But.upd _ _ _))
end
end My

namespace My
open PySem PySem.Spec PyProof.Rows L2
abbrev sLaw : Stmt := top 63
theorem scLaw : FnScope ["_law_script", "_law_k"] ["_law_script"] (defScope sLaw) := ⟨rfl, rfl, rfl, by decide +kernel, rfl, by decide +kernel, by decide +kernel⟩
def spSpring (K : PySem.W.Frag) : Sp := fun vs H Q _ => ∃ (s : Addr) (k : Int) (ns : List Int), vs = [.ref s, .int k] ∧ SqL K H s (ns.map V.int) ∧ 0 ≤ k ∧ ns.length ≤ 63 ∧
  ∀ (p : Addr) (H' : Hp), Same H H' → H p = none → Spr H' p → Q (.ref p) H'
/-- what every _law_right promises -/
def spRight : Sp := fun vs H Q _ => ∃ a : Addr, vs = [.ref a] ∧ Spr H a ∧ ∀ H', But a H H' → Q (.bl true) H'
def spLaw (K : PySem.W.Frag) : Sp := fun vs H Q _ => ∃ (a : Addr) (ns : List Int), vs = [.ref a] ∧ SqL K H a (ns.map V.int) ∧ ns.length ≤ 63 ∧ ∀ H', Q (.bl true) H'
section
variable {P : Program} {w : World} {K : PySem.W.Frag} {mg : Str → Option Value} {base : Heap}
theorem ok_some {f fG : Addr} {fd fdG : FuncData} (F : Fun K "_law_some_of" "_law_some_of" sSome f fd) (FG : Fun K "_law_gulp" "_law_gulp" sGulp fG fdG) (bG : Binds K fdG ["_law_spring_here", "_law_many"] []) (gG : mg "_law_gulp" = some (.ref fG)) (B : Bt mg) :
    FnOk P w K mg base CX0 3 f fd ["_law_spring_here", "_law_things"] (spSome K) := by
  have G : FnOk P w K mg base CX0 2 fG fdG ["_law_spring_here", "_law_many"] spGulp := ok_gulp FG B
  refine F.ok scSome (fun vs H Q E h => ?_) (fun cdv A outer s H vs Q E hr h => ?_)
  · obtain ⟨a, t, xs, rfl, _⟩ := h
    rfl
  · obtain ⟨a, t, xs, rfl, ha, ht, nta, hne, hlen, k⟩ := h
    refine ⟨_, pss_one (ps_ret (pe_ix (IxR.or ix_list ix_tup) (pv 1) (pe_call G hr (by rfl) gG FG.kp bG .nil pass0 (pa_cons (pv 0) (pa_cons (pe_callB call_len_seq (by rfl) B.len PySem.boot_len (pa_cons (pv 1) pa_nil)) pa_nil))) (fun _ _ => rfl))), ?_⟩
    have hpos : 0 < xs.length := List.length_pos_iff.mpr hne
    refine ⟨.ref t, rfl, .ref a, rfl, .ref t, rfl, t, xs, rfl, ht, a, (xs.length : Int), rfl, ha, by omega, by omega, fun r H' h0 h1 s' b' => ?_⟩
    obtain ⟨i, rfl⟩ : ∃ i : Nat, r = (i : Int) := ⟨r.toNat, by omega⟩
    have hi : i < xs.length := by omega
    have e : xs[i]? = some xs[i] := List.getElem?_eq_getElem hi
    have hm : xs[i] ∈ xs := List.getElem_mem hi
    rcases ht with ht | ht
    · exact .inl ⟨t, xs, i, xs[i], rfl, rfl, but_sql b' nta ht, atI_nat e, k _ _ hm s' b'⟩
    · exact .inr ⟨t, xs, i, xs[i], rfl, rfl, but_sqt b' nta ht, atI_nat e, k _ _ hm s' b'⟩
theorem ok_spring {f : Addr} {fd : FuncData} (F : Fun K "_law_spring" "_law_spring" sSpring f fd) (B : Bt mg) : FnOk P w K mg base CX0 2 f fd ["_law_script", "_law_k"] (spSpring K) := by
  refine F.ok scSpring (fun vs H Q E h => ?_) (fun cdv A outer s H vs Q E hr h => ?_)
  · obtain ⟨a, t, xs, rfl, _⟩ := h
    rfl
  · obtain ⟨a, k, ns, rfl, hs, hk, hlen, q⟩ := h
    refine ⟨_, pss_cons (ps_set (i := 2) scSpring.nd rfl (.inl rfl) (pe_ifExp (pt_cmpR op_lt (pv 1) (pe_callB call_len_seq (by rfl) B.len PySem.boot_len (pa_cons (pv 0) pa_nil)) (nomark _))
          (pe_callTy call_int1 (by rfl) B.int (by decide +kernel) (pa_cons (pe_ix ix_list (pv 0) (pv 1) (fun _ _ => rfl)) pa_nil))
          (pe_op op_add (pe_op op_mul pe_int (pv 1)) pe_int)))
      (pss_cons (ps_set (i := 3) scSpring.nd rfl (.inl rfl) (pe_op op_add pe_int (pe_op op_mul pe_int (pv 1))))
      (pss_cons (ps_for PassesOwn.never rfl (pi_list (pe_slice sl_list (pv 0) po_none (po_some pe_int))) (pg_name (i := 4) scSpring.nd rfl (.inl rfl))
        (pss_one (ps_set (i := 3) scSpring.nd rfl (.inl rfl) (pe_op op_mod (pe_callTy call_int1 (by rfl) B.int (by decide +kernel) (pa_cons
          (pe_op op_add (pe_op op_mul (pv 3) pe_int) (pe_op op_mod (pe_callTy call_int1 (by rfl) B.int (by decide +kernel) (pa_cons (pv 4) pa_nil)) pe_int)) pa_nil)) pe_int))))
      (pss_one (ps_ret (pe_lst (pa_cons pe_int (pa_cons
        (pe_ifExp (PW.pt (pw_or (pt_cmpR op_lt (pv 2) pe_int (nomark _)) (pw_or1 (pt_cmpR op_ge (pv 2) (pe_op op_pow pe_int pe_int) (nomark _))))) (pe_callB call_abs (by rfl) B.abs (by decide +kernel) (pa_cons (pv 2) pa_nil)) pe_int)
        (pa_cons (pe_op op_mod (pe_callTy call_int1 (by rfl) B.int (by decide +kernel) (pa_cons (pe_op op_add (pe_op op_mul (pv 3) pe_int) (pe_op op_mod (pv 2) pe_int)) pa_nil)) pe_int) pa_nil)))))))), ?_⟩
    have cm : ∀ {i : Nat} {x : V}, (cutV (ns.map V.int) none (some 13))[i]? = some x → ∃ z, x = V.int z := fun e => by
      have h1 := List.mem_of_getElem? e
      have h2 := List.mem_of_mem_drop (List.mem_of_mem_take h1)
      obtain ⟨z, _, rfl⟩ := List.mem_map.mp h2
      exact ⟨z, rfl⟩
    refine ⟨.int k, rfl, .ref a, rfl, a, _, rfl, .inl hs, _, _, rfl, rfl, _, rfl, ite2 (fun e => ?_) (fun e => ?_)⟩
    · have hk2 : k < ((ns.map V.int).length : Int) := of_decide_eq_true e
      rw [List.length_map] at hk2
      obtain ⟨i, rfl⟩ : ∃ i : Nat, k = (i : Int) := ⟨k.toNat, by omega⟩
      have hi : i < ns.length := by omega
      have e : (ns.map V.int)[i]? = some (.int ns[i]) := by
        rw [List.getElem?_map, List.getElem?_eq_getElem hi]
        rfl
      refine ⟨.ref a, rfl, .int i, rfl, a, _, i, _, rfl, rfl, hs, atI_nat e, .inl ⟨ns[i], rfl, ?_⟩⟩
      generalize ns[i] = own
      generalize (i : Int) = k at hk hk2 ⊢
      refine ⟨.int k, rfl, 1709, k, rfl, rfl, .inl ⟨by decide, by decide⟩, 60013, _, rfl, rfl, ?_⟩
      refine ⟨.ref a, rfl, 13, rfl, a, _, rfl, hs, fun p np => ?_⟩
      refine ⟨p, rfl, ⟨_, SqL.of upd_same⟩, for_list (K := K) (a := p) (xs := cutV (ns.map V.int) none (some 13)) (fun i σ H2 => ∃ (mx : Int) (v : Option V), σ = [some (.ref a), some (.int k), some (.int own), some (.int mx), v] ∧ H2 = upd H p (.lst (cutV (ns.map V.int) none (some 13))))
        ⟨_, none, rfl, rfl⟩ (fun i σ H2 _ ⟨_, _, _, e2⟩ => by rw [e2]; exact SqL.of upd_same) ?_ ?_⟩
      · rintro i y σ H2 hi ⟨mx, v, rfl, rfl⟩
        obtain ⟨z, rfl⟩ := cm hi
        refine ⟨.int mx, rfl, mx, 38699, rfl, rfl, .inr ⟨by decide, by decide⟩, .int z, rfl, .inl ⟨z, rfl, z, 1999999859, rfl, rfl, (by show (0 : Int) < 1999999859; decide), _, _, rfl, rfl, .inl ⟨_, rfl, _, 1999999859, rfl, rfl, (by show (0 : Int) < 1999999859; decide), ?_⟩⟩⟩
        exact ⟨_, _, rfl, rfl⟩
      · rintro σ H2 ⟨mx, v, rfl, rfl⟩
        have fin : ∀ g : Int, ∀ (Hq : Hp), Hq = upd H p (.lst (cutV (ns.map V.int) none (some 13))) → ∀ l, Hq l = none → Q (.ref l) (upd Hq l (.lst [.int 3, .int g, .int ((mx * 11 + own % 1999999859) % 1999999859)])) := fun g Hq e l nl => by
          subst e
          have sm := (same_upd np (o := .lst (cutV (ns.map V.int) none (some 13))))
          exact q l _ (fun b o x => same_upd nl _ _ (sm _ _ x)) (sm.free nl) ⟨_, _, _, upd_same⟩
        refine ⟨.int own, rfl, own, 0, rfl, rfl, _, rfl, ite2 (fun _ => ?_) (fun _ => ?_)⟩
        · refine ite2 (fun _ => ?_) (fun hh => absurd rfl hh)
          refine ⟨.int own, rfl, own, rfl, .int mx, rfl, mx, 11, rfl, rfl, .inr ⟨by decide, by decide⟩, .int own, rfl, own, 1999999859, rfl, rfl, (by show (0 : Int) < 1999999859; decide), _, _, rfl, rfl, .inl ⟨_, rfl, _, 1999999859, rfl, rfl, (by show (0 : Int) < 1999999859; decide), ?_⟩⟩
          refine ⟨(by show 3 ≤ sizeLine; decide), fun l nl => ?_⟩
          exact fin _ _ rfl l nl
        · refine ⟨.int own, rfl, 10, 13, rfl, rfl, ⟨by decide, by decide, by decide⟩, own, _, rfl, rfl, _, rfl, ite2 (fun _ => ?_) (fun _ => ?_)⟩
          · refine ⟨.int own, rfl, own, rfl, .int mx, rfl, mx, 11, rfl, rfl, .inr ⟨by decide, by decide⟩, .int own, rfl, own, 1999999859, rfl, rfl, (by show (0 : Int) < 1999999859; decide), _, _, rfl, rfl, .inl ⟨_, rfl, _, 1999999859, rfl, rfl, (by show (0 : Int) < 1999999859; decide), ?_⟩⟩
            refine ⟨(by show 3 ≤ sizeLine; decide), fun l nl => ?_⟩
            exact fin _ _ rfl l nl
          · refine ⟨.int mx, rfl, mx, 11, rfl, rfl, .inr ⟨by decide, by decide⟩, .int own, rfl, own, 1999999859, rfl, rfl, (by show (0 : Int) < 1999999859; decide), _, _, rfl, rfl, .inl ⟨_, rfl, _, 1999999859, rfl, rfl, (by show (0 : Int) < 1999999859; decide), ?_⟩⟩
            refine ⟨(by show 3 ≤ sizeLine; decide), fun l nl => ?_⟩
            exact fin _ _ rfl l nl
    · refine ⟨.int k, rfl, 37, k, rfl, rfl, .inl ⟨by decide, by decide⟩, _, 13, rfl, rfl, ?_⟩
      refine ⟨.int k, rfl, 1709, k, rfl, rfl, .inl ⟨by decide, by decide⟩, 60013, _, rfl, rfl, ?_⟩
      refine ⟨.ref a, rfl, 13, rfl, a, _, rfl, hs, fun p np => ?_⟩
      refine ⟨p, rfl, ⟨_, SqL.of upd_same⟩, for_list (K := K) (a := p) (xs := cutV (ns.map V.int) none (some 13)) (fun i σ H2 => ∃ (mx : Int) (v : Option V), σ = [some (.ref a), some (.int k), some (.int (37 * k + 13)), some (.int mx), v] ∧ H2 = upd H p (.lst (cutV (ns.map V.int) none (some 13))))
        ⟨_, none, rfl, rfl⟩ (fun i σ H2 _ ⟨_, _, _, e2⟩ => by rw [e2]; exact SqL.of upd_same) ?_ ?_⟩
      · rintro i y σ H2 hi ⟨mx, v, rfl, rfl⟩
        obtain ⟨z, rfl⟩ := cm hi
        refine ⟨.int mx, rfl, mx, 38699, rfl, rfl, .inr ⟨by decide, by decide⟩, .int z, rfl, .inl ⟨z, rfl, z, 1999999859, rfl, rfl, (by show (0 : Int) < 1999999859; decide), _, _, rfl, rfl, .inl ⟨_, rfl, _, 1999999859, rfl, rfl, (by show (0 : Int) < 1999999859; decide), ?_⟩⟩⟩
        exact ⟨_, _, rfl, rfl⟩
      · rintro σ H2 ⟨mx, v, rfl, rfl⟩
        have fin : ∀ g : Int, ∀ (Hq : Hp), Hq = upd H p (.lst (cutV (ns.map V.int) none (some 13))) → ∀ l, Hq l = none → Q (.ref l) (upd Hq l (.lst [.int 3, .int g, .int ((mx * 11 + (37 * k + 13) % 1999999859) % 1999999859)])) := fun g Hq e l nl => by
          subst e
          have sm := (same_upd np (o := .lst (cutV (ns.map V.int) none (some 13))))
          exact q l _ (fun b o x => same_upd nl _ _ (sm _ _ x)) (sm.free nl) ⟨_, _, _, upd_same⟩
        refine ⟨.int (37 * k + 13), rfl, (37 * k + 13), 0, rfl, rfl, _, rfl, ite2 (fun _ => ?_) (fun _ => ?_)⟩
        · refine ite2 (fun _ => ?_) (fun hh => absurd rfl hh)
          refine ⟨.int (37 * k + 13), rfl, (37 * k + 13), rfl, .int mx, rfl, mx, 11, rfl, rfl, .inr ⟨by decide, by decide⟩, .int (37 * k + 13), rfl, (37 * k + 13), 1999999859, rfl, rfl, (by show (0 : Int) < 1999999859; decide), _, _, rfl, rfl, .inl ⟨_, rfl, _, 1999999859, rfl, rfl, (by show (0 : Int) < 1999999859; decide), ?_⟩⟩
          refine ⟨(by show 3 ≤ sizeLine; decide), fun l nl => ?_⟩
          exact fin _ _ rfl l nl
        · refine ⟨.int (37 * k + 13), rfl, 10, 13, rfl, rfl, ⟨by decide, by decide, by decide⟩, (37 * k + 13), _, rfl, rfl, _, rfl, ite2 (fun _ => ?_) (fun _ => ?_)⟩
          · refine ⟨.int (37 * k + 13), rfl, (37 * k + 13), rfl, .int mx, rfl, mx, 11, rfl, rfl, .inr ⟨by decide, by decide⟩, .int (37 * k + 13), rfl, (37 * k + 13), 1999999859, rfl, rfl, (by show (0 : Int) < 1999999859; decide), _, _, rfl, rfl, .inl ⟨_, rfl, _, 1999999859, rfl, rfl, (by show (0 : Int) < 1999999859; decide), ?_⟩⟩
            refine ⟨(by show 3 ≤ sizeLine; decide), fun l nl => ?_⟩
            exact fin _ _ rfl l nl
          · refine ⟨.int mx, rfl, mx, 11, rfl, rfl, .inr ⟨by decide, by decide⟩, .int (37 * k + 13), rfl, (37 * k + 13), 1999999859, rfl, rfl, (by show (0 : Int) < 1999999859; decide), _, _, rfl, rfl, .inl ⟨_, rfl, _, 1999999859, rfl, rfl, (by show (0 : Int) < 1999999859; decide), ?_⟩⟩
            refine ⟨(by show 3 ≤ sizeLine; decide), fun l nl => ?_⟩
            exact fin _ _ rfl l nl
theorem ok_law {kR : Nat} {f fS fR : Addr} {fd fdS fdR : FuncData} (F : Fun K "law" "law" sLaw f fd) (FS : Fun K "_law_spring" "_law_spring" sSpring fS fdS) (bS : Binds K fdS ["_law_script", "_law_k"] []) (gS : mg "_law_spring" = some (.ref fS))
    (kpR : PySem.W.keepIn K (.ref fR) = true) (GR : FnOk P w K mg base CX0 (kR + 2) fR fdR ["_law_spring_here"] spRight) (bR : Binds K fdR ["_law_spring_here"] []) (gR : mg "_law_right" = some (.ref fR)) (B : Bt mg) :
    FnOk P w K mg base CX0 (kR + 3) f fd ["_law_script"] (spLaw K) := by
  have GS : FnOk P w K mg base CX0 2 fS fdS ["_law_script", "_law_k"] (spSpring K) := ok_spring FS B
  refine F.ok scLaw (fun vs H Q E h => ?_) (fun cdv A outer s H vs Q E hr h => ?_)
  · obtain ⟨a, xs, rfl, _⟩ := h
    rfl
  · obtain ⟨a, ns, rfl, hs, hlen, q⟩ := h
    have hr1 : Room 2 _ := hr.mono (by omega)
    refine ⟨_, pss_one (ps_ret (pe_callB (cr_all rfl) (by rfl) B.all (by decide +kernel) (pa_cons
      (pe_lc (own := [("_law_k", 1)]) (g := gName 1) (tt := tYes) rfl scLaw.nd
        (pi_range1 (by rfl) B.range (pa_cons (pe_callB (call_max2 rfl) (by rfl) B.max (by decide +kernel) (pa_cons pe_int (pa_cons (pe_callB (call_min2 rfl) (by rfl) B.min (by decide +kernel) (pa_cons (pe_callB call_len_seq (by rfl) B.len PySem.boot_len (pa_cons (pv 0) pa_nil)) (pa_cons pe_int pa_nil))) pa_nil))) pa_nil))
        (blkOk_by (own := [("_law_k", 1)]) (N := ["_law_script", "_law_k"]) (sc := defScope sLaw) (by decide +kernel)) (fun _ _ _ _ _ => pg_name (i := 1) scLaw.nd rfl (Or.inl rfl)) (fun _ _ _ _ _ => pts_nil)
        (fun _ _ _ _ _ => pe_call GR hr (by rfl) gR kpR bR .nil pass0 (pa_cons (pe_call GS hr1 (by rfl) gS FS.kp bS .nil pass0 (pa_cons (pv 0) (pa_cons (pv 1) pa_nil))) pa_nil)))
      pa_nil))), ?_⟩
    refine ⟨.ref a, rfl, a, _, rfl, .inl hs, _, 5, rfl, 2, _, rfl, _, rfl, ?_, ?_, ?_⟩
    · split <;> (try split) <;> rw [List.length_map] at * <;> omega
    · split <;> (try split) <;> rw [List.length_map] at * <;> omega
    · intro D nD
      refine lc_range (n := _) (fun i H2 => Same H H2 ∧ H2 D = some (.lst (List.replicate i (V.bl true)))) ⟨same_upd nD, upd_same⟩ ?_ ?_
      · rintro i H2 hi ⟨sm, hD⟩
        refine ⟨rfl, .ref a, rfl, .int (0 + (i : Int)), rfl, a, _, ns, rfl, sm.seq hs, by omega, hlen, fun p H3 sm3 np hp => ?_⟩
        have nDp : D ≠ p := ne_of_none hD np
        refine ⟨p, rfl, hp, fun H4 b4 => ?_⟩
        have hD4 : H4 D = some (.lst (List.replicate i (V.bl true))) := b4 _ _ (sm3 _ _ hD) nDp
        refine ⟨_, hD4, ?_, fun b o e => ?_, ?_⟩
        · rw [List.length_replicate]
          have hi2 : i < 6 := by
            revert hi
            split <;> (try split) <;> omega
          exact Nat.lt_of_lt_of_le hi2 (by decide)
        · have nbD : b ≠ D := ne_of_none e nD
          rw [upd_ne nbD]
          exact b4 _ _ (sm3 _ _ (sm _ _ e)) (ne_of_none (sm _ _ e) np)
        · rw [upd_same, List.replicate_succ']
      · rintro H2 ⟨sm, hD⟩
        obtain ⟨n, hD⟩ : ∃ n, H2 D = some (.lst (List.replicate n (V.bl true))) := ⟨_, hD⟩
        refine ⟨D, List.replicate n true, rfl, ?_, ?_⟩
        · rw [List.map_replicate]
          exact SqL.of hD
        · have e : (List.replicate n true).all id = true := by simp
          rw [e]
          exact q _
end
end My

namespace MyEn
open PySem
/-! enumerate(t), t a tuple -/
theorem new_tup (l : Addr) (its : Array Value) (n : Nat) (dc : Option Addr) (sl : Array (Option Value)) :
    Meets (Builtin.«enumerate.__new__» ⟨[.type "enumerate", .ref l], []⟩) (fun _ R s =>
      s.heap.get? l = some { cls := .type "tuple", dict := dc, data := .seq its n, slots := sl } ∧
      R (.ok (.ret (.ref (s.heap.push { cls := .type "tuple_iterator", data := .fields #[.ref l, .int 0 0] }).objs.size)))
        { s with heap := (s.heap.push { cls := .type "tuple_iterator", data := .fields #[.ref l, .int 0 0] }).push { cls := .type "enumerate", data := .fields #[.none, .bool false, .ref s.heap.objs.size, rawInt 0, .none, .none] } }) := .of_wp fun prog w A R s ⟨hl, h⟩ => by
  obtain ⟨hp, g, d, tk, os⟩ := s
  have hs := sub_enumerate
  have hT : Heap.IsTuple (Shared.heap ⟨hp, g, d, tk, os⟩) l its := ⟨_, hl, rfl, n, rfl⟩
  wp_walk using AutoSeq1.wpAny_loadPart' hl
  refine wpAny_stack_any (fun st => wpAny_pure ?_)
  split
  · rename_i c _ _ _ _ _
    cases (c == Value.type "enumerate") <;> (wp_walk using AutoSeq1.wpAny_loadPart' hl, wpAny_pyIter_tuple hT; exact ⟨_, rfl, h⟩)
  · (wp_walk using AutoSeq1.wpAny_loadPart' hl, wpAny_pyIter_tuple hT; exact ⟨_, rfl, h⟩)
section
variable {prog : Program} {w : World} {A : Around} {E : Value → Shared → Prop} {s : Shared}
theorem call_tup {l : Addr} {its : Array Value} {Q : Value → Shared → Prop} (hL : s.heap.IsTuple l its)
    (h : ∀ h', IsEnum h' (s.heap.objs.size + 1) s.heap.objs.size 0 .none → h'.IsTupleIter s.heap.objs.size l 0 → (∀ b o, s.heap.get? b = some o → h'.get? b = some o) → Q (.ref (s.heap.objs.size + 1)) { s with heap := h' }) :
    wpAny (model prog w) A (call (.type "enumerate") [.ref l]) Q E s := by
  obtain ⟨⟨c, dc, dt, sl⟩, hl, hc, n, hd⟩ := hL
  have hc' : c = .type "tuple" := hc
  have hd' : dt = .seq its n := hd
  subst hc' hd'
  refine callType_new F.called_enumerate (by decide) (F.typeCall_enumerate_1 _) (F.newCall_enumerate_1 _) (fun obj => F.args_object_init_2 obj _) F.entry_enumerate_new (new_tup l its n dc sl) ⟨hl, ?_⟩
  generalize hI : (s.heap.push { cls := .type "tuple_iterator", data := .fields #[.ref l, .int 0 0] }) = hI1
  have hz : hI1.objs.size = s.heap.objs.size + 1 := by rw [← hI]; exact Heap.size_push ..
  have he : IsEnum (hI1.push { cls := .type "enumerate", data := .fields #[.none, .bool false, .ref s.heap.objs.size, rawInt 0, .none, .none] }) (s.heap.objs.size + 1) s.heap.objs.size 0 .none := by
    have q := Heap.get?_push_size hI1 (o := { cls := .type "enumerate", data := .fields #[.none, .bool false, .ref s.heap.objs.size, rawInt 0, .none, .none] }) rfl
    rw [hz] at q
    exact q
  have hk : ∀ b o, s.heap.get? b = some o → hI1.get? b = some o := fun b o x => by rw [← hI]; exact Heap.get?_push_of_some _ x
  have hit : hI1.IsTupleIter s.heap.objs.size l 0 := by rw [← hI]; exact ⟨_, Heap.get?_push_size _ rfl, rfl, rfl⟩
  show _ ∧ _
  rw [hz]
  obtain ⟨oi, h1, h2⟩ := hit
  exact ⟨⟨_, he, rfl⟩, h _ he ⟨oi, Heap.get?_push_of_some _ h1, h2⟩ (fun b o x => Heap.get?_push_of_some _ (hk b o x))⟩
end
end MyEn
namespace L2
open PySem PySem.Spec PyProof.Rows
/-- the tuple at a, each item in a new pair -/
def Iten (K : PySem.W.Frag) (a : Addr) : It :=
  ⟨fun i H => ∃ (xs : List V) (x : V), SqT K H a xs ∧ xs[i]? = some x,
   fun i H v H' => ∃ T x, v = .ref T ∧ H T = none ∧ H' = upd H T (.tup [.int (i : Nat), x]) ∧ ∀ xs, SqT K H a xs → xs[i]? = some x,
   fun i H => ∃ xs : List V, SqT K H a xs ∧ xs.length ≤ i⟩
theorem turn_enT {P : Program} {w : World} {K : PySem.W.Frag} {elts : List Expr} {kk : Nat} {tpos : Pos} (a e it : Addr) (hai : a ≠ it) :
    Turn P w K (.Tuple elts kk tpos) (Iten K a) [e, it] e (fun i h => (∃ old, IsEnum h e it ((i : Nat) : Int) old) ∧ h.IsTupleIter it a i ∧ e ≠ it ∧ e ≠ a) where
  mem := by simp
  obj := fun i h st b hb => by
    obtain ⟨⟨old, he⟩, ⟨o, ho, hc, hd⟩, hne, _⟩ := st
    have e' : b = e ∨ b = it := by simpa using hb
    rcases e' with z | z
    · rw [z]
      refine ⟨_, he, ?_⟩
      intro v q
      cases q
    · rw [z]
      refine ⟨o, ho, ?_⟩
      intro v q
      rw [hd] at q
      cases q
  keep := fun i h h' st k => let ⟨⟨old, he⟩, hi, hne⟩ := st; ⟨⟨old, k e (by simp) _ he⟩, hi.at fun o q => k it (by simp) o q, hne⟩
  item := by
    intro X hP hw hK hc i pins s σ H E I hf st hg
    subst hP hw hK
    obtain ⟨⟨old, he⟩, hit, hne, hea⟩ := st
    obtain ⟨xs, x, hq, hx⟩ := hg
    obtain ⟨its, rv, p, hz⟩ := I.tuple hq
    obtain ⟨u, hu, ru⟩ := rv.get hx
    have hel : e < s.heap.objs.size := Heap.lt_size he
    have hil : it < s.heap.objs.size := by obtain ⟨_, q, _⟩ := hit; exact Heap.lt_size q
    have hlen : i < its.toArray.size := by
      have := (List.getElem?_eq_some_iff.mp hu).1
      simpa using this
    have D := Draws.tuple (prog := X.prog) (w := X.w) (A := X.A.in1) (I.ok.hd hc) it a hai its.toArray
    refine wpAny_pyNext_enum_itemD D he ⟨hit, show s.heap.IsTuple a its.toArray from p⟩ hlen hne (by simp; exact ⟨hne, hea⟩) fun y h' tk hy ho hit' hT hsz hk => ?_
    have hyu : y = u := by
      have h1 : its.toArray[i]? = some y := hy
      have h2 : its.toArray[i]? = some u := by simpa using hu
      rw [h1] at h2
      exact Option.some.inj h2
    subst hyu
    refine ⟨_, rfl, wpAny_letOwnedTupleGo_enum (s := { s with heap := h', toks := tk + 1 }) ho fun h'' he' sb => ?_⟩
    have hT2 : h''.get? s.heap.objs.size = some { cls := .type "tuple", data := .seq #[.int i tk, y] } := (sb.2 _ (Nat.ne_of_gt hel)).trans hT
    have new : ObjOk X.prog X.w (upd H s.heap.objs.size (.tup [.int (i : Nat), x])) h'' s.heap.objs.size (.tup [.int (i : Nat), x]) :=
      ⟨(by show 2 ≤ sizeLine; decide), [.int i tk, y], .cons ⟨_, rfl⟩ (.cons ru .nil), ⟨_, hT2, rfl, _, rfl⟩⟩
    have stay : ∀ b o, b ∉ [e, it] → s.heap.get? b = some o → h''.get? b = some o := fun b o hb q => by
      have n1 : b ≠ e := fun z => hb (by simp [z])
      have n2 : b ≠ it := fun z => hb (by simp [z])
      exact (sb.2 b n1).trans (hk b o n1 n2 q)
    have I1 : Inv X pins σ (upd H s.heap.objs.size (.tup [.int (i : Nat), x])) { s with heap := h'', toks := tk + 1 } := I.turnedNew (ch := [e, it]) stay hf (Nat.le_refl _) new
    have hsucc : ((i + 1 : Nat) : Int) = (i : Int) + 1 := by omega
    refine ⟨.ref s.heap.objs.size, _, I1, rfl, ⟨_, x, rfl, I.hok.fresh (Nat.le_refl _), rfl, fun ys hy => (I.tuple_inj hy hq) ▸ hx⟩, ⟨⟨y, by rw [hsucc]; exact he'⟩, hit'.1.at fun o q => (sb.2 it (Ne.symm hne)).trans q, hne, hea⟩, fun b hb => ?_⟩
    have hb' : b < s.heap.objs.size := by
      have e' : b = e ∨ b = it := by simpa using hb
      rcases e' with z | z <;> (rw [z]; assumption)
    rw [upd_ne (Nat.ne_of_lt hb')]
    exact (hf b hb).1
  done := by
    intro X hP hw hK hc i pins s σ H E I hf st hg
    subst hP hw hK
    obtain ⟨⟨old, he⟩, hit, hne, hea⟩ := st
    obtain ⟨xs, hq, hx⟩ := hg
    obtain ⟨its, rv, p, hz⟩ := I.tuple hq
    obtain ⟨f0, f1, f2, f3, f4, f5⟩ := hf it (by simp)
    have hl := rv.length
    have hT : s.heap.IsTuple a its.toArray := p
    have hnone : its.toArray[i]? = none := by simp; omega
    have D : Draws X.prog X.w X.A.in1 it [it, a] i (fun _ _ => False) (fun j h => j = i ∧ h.IsTupleIter it a i ∧ h.IsTuple a its.toArray) :=
      ⟨fun _ _ st => let ⟨o, ho, _⟩ := st.2.1; ⟨o, ho⟩, fun _ _ _ st hk => ⟨st.1, st.2.1.at fun o e => hk it (by simp) o e, st.2.2.at fun o e => hk a (by simp) o e⟩,
       fun j _ _ _ hj st _ => absurd st.1 (Nat.ne_of_lt hj), fun s Q E st hE => wpAny_nextOf_tuple_end (I.ok.hd hc) st.2.1 st.2.2 hnone hE⟩
    exact wpAny_pyNext_enum_endD D he ⟨rfl, hit, hT⟩ fun h' eb => ⟨rfl, I.turned (t' := s.toks) (fun b o hb q => eb b o hb q) f0 f1 f3 f4 f5⟩
  self := fun A i s Q E st h => let ⟨⟨_, he⟩, _⟩ := st; wpAny_pyIter_enum he h

def iEnT (K : PySem.W.Frag) (ta : TA) : TI := fun σ H R => ta σ H fun vs H1 => ∃ a xs, vs = [.ref a] ∧ SqT K H1 a xs ∧ R (Iten K a) H1
theorem pi_enT {X : Cx} {e : Expr} {ta : TA} {p pos tpos : Pos} {elts : List Expr} {kk : Nat} (hg : Gl X "enumerate") (hm : X.mg "enumerate" = none) (ha : PA X [e] ta) (hs : starEach [e] X.env = [(false, eval e X.env)] := by rfl) :
    PI X (.Tuple elts kk tpos) (.Call (.Name "enumerate" p) [e] [] pos) (iEnT X.K ta) := by
  constructor
  intro pins s σ H R I h
  refine Call_ (ld_blt I hg hm boot_enumerate (PyProof.Rows.callWith_type1 (thn (ha.run pos pins s σ H _ I h) ?_) hs rfl))
  rintro us s1 ⟨vs, H1, I1, r1, a, xs, rfl, hq, q⟩
  cases r1 with
  | cons r rr =>
    cases rr
    cases r
    obtain ⟨its, rv, p', hz⟩ := I1.tuple hq
    have hT : s1.heap.IsTuple a its.toArray := p'
    have hlt : a < s1.heap.objs.size := by obtain ⟨o, ho, _⟩ := hT; exact Heap.lt_size ho
    refine MyEn.call_tup hT fun h' he hit hk => wpAny_pyIter_enum he ?_
    have I2 : Inv X pins σ H1 { s1 with heap := h' } := I1.kept (t' := s1.toks) hk
    refine ⟨s1.heap.objs.size + 1, [s1.heap.objs.size + 1, s1.heap.objs.size], _, _, H1, rfl, I2, turn_enT a (s1.heap.objs.size + 1) s1.heap.objs.size (Nat.ne_of_lt hlt), ⟨⟨.none, he⟩, hit, Nat.succ_ne_self _, Nat.ne_of_gt (Nat.lt_succ_of_lt hlt)⟩, ?_, q⟩
    intro b hb
    have e' : b = s1.heap.objs.size + 1 ∨ b = s1.heap.objs.size := by simpa using hb
    have hle : s1.heap.objs.size ≤ b := e'.elim (fun z => z ▸ Nat.le_succ _) (fun z => z ▸ Nat.le_refl _)
    exact I1.fpOk hle (I1.hok.fresh hle)
/-- for place, item in enumerate(t): by an invariant; the pair is new each time -/
theorem for_enT {K : PySem.W.Frag} {a : Addr} {xs : List V} {g : TG} {tb : TS} {D : Ends} {σ : St} {H : Hp} (Pv : Nat → St → Hp → Prop) (h0 : Pv 0 σ H)
    (hl : ∀ i σ H, i ≤ xs.length → Pv i σ H → SqT K H a xs)
    (ht : ∀ (i : Nat) (x : V) (σ : St) (H : Hp) (T : Addr), xs[i]? = some x → Pv i σ H → H T = none → g (.ref T) σ (upd H T (.tup [.int (i : Nat), x])) fun σ2 H2 => tb { nx := Pv (i + 1), rt := D.rt, bk := D.nx, ct := Pv (i + 1) } σ2 H2)
    (he : ∀ σ H, Pv xs.length σ H → D.nx σ H) :
    ∃ W : Nat → Nat → St → Hp → Prop, (∃ m, W 0 m σ H) ∧ ∀ i m σ H, W i m σ H → ((Iten K a).stop i H ∧ D.nx σ H) ∨
      ((Iten K a).go i H ∧ ∃ N : St → Hp → Prop, (∀ σ' H', N σ' H' → ∃ m', m' < m ∧ W (i + 1) m' σ' H') ∧
        ∀ x H', (Iten K a).yld i H x H' → g x σ H' fun σ2 H2 => tb { nx := N, rt := D.rt, bk := D.nx, ct := N } σ2 H2) := by
  refine ⟨fun i m σ H => Pv i σ H ∧ i + m = xs.length, ⟨xs.length, h0, by omega⟩, fun i m σ H hW => ?_⟩
  obtain ⟨hp, hm⟩ := hW
  have hsq := hl i σ H (by omega) hp
  by_cases hi : i < xs.length
  · refine .inr ⟨⟨xs, xs[i], hsq, List.getElem?_eq_getElem hi⟩, Pv (i + 1), fun σ' H' hN => ⟨m - 1, by omega, hN, by omega⟩, ?_⟩
    rintro x H' ⟨T, y, rfl, hT, rfl, hy⟩
    exact ht i y σ H T (hy xs hsq) hp hT
  · have : i = xs.length := by omega
    subst this
    exact .inl ⟨⟨xs, hsq, Nat.le_refl _⟩, he σ H hp⟩
end L2

namespace My
open PySem PySem.Spec PyProof.Rows L2
/-- a def of the text: where it stands, how it is bound -/
structure Dd (K : PySem.W.Frag) (mg : Str → Option Value) (x : Str) (st : Stmt) (ps : List Str) where
  f : Addr
  fd : FuncData
  F : Fun K x x st f fd
  b : Binds K fd ps []
  g : mg x = some (.ref f)
abbrev sWithin : Stmt := top 12
abbrev sInteger : Stmt := top 11
abbrev sUnit : Stmt := top 23
abbrev sUName : Stmt := top 24
abbrev sFits : Stmt := top 25
abbrev sCUnits : Stmt := top 22
/-- is_within, with what it calls -/
structure DdW (K : PySem.W.Frag) (mg : Str → Option Value) extends Dd K mg "is_within" sWithin ["value", "low", "high"] where
  dI : Dd K mg "is_integer" sInteger ["value"]
theorem scInteger : FnScope ["value"] ["value"] (defScope sInteger) := ⟨rfl, rfl, rfl, by decide +kernel, rfl, by decide +kernel, by decide +kernel⟩
theorem scWithin : FnScope ["value", "low", "high"] ["value", "low", "high"] (defScope sWithin) := ⟨rfl, rfl, rfl, by decide +kernel, rfl, by decide +kernel, by decide +kernel⟩
theorem scUnit : FnScope ["unit"] ["unit"] (defScope sUnit) := ⟨rfl, rfl, rfl, by decide +kernel, rfl, by decide +kernel, by decide +kernel⟩
theorem scUName : FnScope ["name"] ["name"] (defScope sUName) := ⟨rfl, rfl, rfl, by decide +kernel, rfl, by decide +kernel, by decide +kernel⟩
def letters : Str := "ABCDEFGHIJKLMNOPQRSTUVWXYZabcdefghijklmnopqrstuvwxyz"
/-- the constants of the text -/
structure Gc (K : PySem.W.Frag) (mg : Str → Option Value) : Prop where
  units : ∃ t, mg "MOST_UNITS" = some (.int 6 t)
  decs : ∃ t, mg "MOST_DECIMALS" = some (.int 3 t)
  least : ∃ t, mg "MOST_LEAST" = some (.int 1000 t)
  num : ∃ t, mg "MOST_NUMBER" = some (.int 1000000000000000000 t)
  mlet : ∃ t, mg "MOST_LETTERS" = some (.int 3 t)
  letters : ∃ t, mg "LETTERS" = some (.str letters t)
  parts : ∃ a, mg "PARTS" = some (.ref a) ∧ ∀ H, SqT K H a [.int 1, .int 10, .int 100, .int 1000]
  rounds : ∃ a, mg "ROUNDINGS" = some (.ref a) ∧ ∀ H, SqT K H a [.str "down", .str "up", .str "near", .str "even"]
/-- a name of a unit, as the program asks -/
def GoodN (z : Str) : Prop := z.length ≤ 3 ∧ Txt.stripChars z letters = "" ∧ PyData.strOk z = true ∧ z.cps.toList.all (letters.cps.contains ·) = true
theorem tyx_tup {K : PySem.W.Frag} {H : Hp} {p : Addr} {xs : List V} (h : SqT K H p xs) : TyX K H (.ref p) (.type "tuple") := by
  rcases h with (h | ⟨o, h⟩) | ⟨o, its, n, h1, h2, _⟩
  · exact .base (.tup h)
  · exact .fTuple h
  · exact .kTuple h1 h2
theorem same_sqt {K : PySem.W.Frag} {a : Addr} {xs : List V} {H H' : Hp} (b : Same H H') (h : SqT K H a xs) : SqT K H' a xs := by
  rcases h with (h | ⟨o, h⟩) | h
  · exact .inl (.inl (b _ _ h))
  · exact .inl (.inr ⟨o, b _ _ h⟩)
  · exact .inr h
def spInteger : Sp := fun vs H Q _ => ∃ v : Int, vs = [.int v] ∧ Q (.bl true) H
def spWithin : Sp := fun vs H Q _ => ∃ v lo hi : Int, vs = [.int v, .int lo, .int hi] ∧ Q (.bl (decide (lo ≤ v ∧ v ≤ hi))) H
def spUName : Sp := fun vs H Q _ => ∃ z : Str, vs = [.str z] ∧ GoodN z ∧ Q (.bl true) H
def spUnit (K : PySem.W.Frag) : Sp := fun vs H Q _ => ∃ (p : Addr) (z : Str) (n : Int), vs = [.ref p] ∧ SqT K H p [.str z, .int n] ∧ GoodN z ∧ 1 ≤ n ∧ n ≤ 1000000000000000000 ∧ Q (.bl true) H
section
variable {P : Program} {w : World} {K : PySem.W.Frag} {mg : Str → Option Value} {base : Heap}
theorem ok_integer (d : Dd K mg "is_integer" sInteger ["value"]) (B : Bt mg) : FnOk P w K mg base CX0 1 d.f d.fd ["value"] spInteger := by
  refine d.F.ok scInteger (fun vs H Q E h => ?_) (fun cdv A outer s H vs Q E hr h => ?_)
  · obtain ⟨_, rfl, _⟩ := h
    rfl
  · obtain ⟨v, rfl, q⟩ := h
    refine ⟨_, pss_one (ps_ret (pe_and (pe_callB call_isi (by rfl) B.isinstance (by decide +kernel) (pa_cons (pv 0) (pa_cons (pe_bltn (v := .ty "int") (by rfl) B.int (by decide +kernel) rfl) pa_nil)))
      (pe_one (pe_not (pe_callB call_isi (by rfl) B.isinstance (by decide +kernel) (pa_cons (pv 0) (pa_cons (pe_bltn (v := .ty "bool") (by rfl) B.bool (by decide +kernel) rfl) pa_nil))))))), ?_⟩
    refine ⟨_, rfl, _, _, _, _, true, rfl, .ty "int", .base (.int v), kit_ty (by decide +kernel), _, rfl, iteT ?_⟩
    exact ⟨_, rfl, _, _, _, _, false, rfl, .ty "bool", .base (.int v), kit_ty (by decide +kernel), _, rfl, q⟩
theorem ok_within (d : DdW K mg) (B : Bt mg) : FnOk P w K mg base CX0 2 d.f d.fd ["value", "low", "high"] spWithin := by
  have GI : FnOk P w K mg base CX0 1 d.dI.f d.dI.fd ["value"] spInteger := ok_integer d.dI B
  refine d.F.ok scWithin (fun vs H Q E h => ?_) (fun cdv A outer s H vs Q E hr h => ?_)
  · obtain ⟨_, _, _, rfl, _⟩ := h
    rfl
  · obtain ⟨v, lo, hi, rfl, q⟩ := h
    refine ⟨_, pss_one (ps_ret (pe_and (pe_call GI hr (by rfl) d.dI.g d.dI.F.kp d.dI.b .nil pass0 (pa_cons (pv 0) pa_nil))
        (pe_one (pe_chain op_le op_le (pv 1) (pv 0) (pv 2))))), ?_⟩
    refine ⟨.int v, rfl, v, rfl, _, rfl, iteT ?_⟩
    refine ⟨.int lo, rfl, .int v, rfl, lo, v, rfl, rfl, _, rfl, ite2 (fun e => ?_) (fun e => ?_)⟩
    · have h1 : lo ≤ v := of_decide_eq_true e
      refine ⟨.int hi, rfl, v, hi, rfl, rfl, ?_⟩
      have e2 : decide (v ≤ hi) = decide (lo ≤ v ∧ v ≤ hi) := by simp [h1]
      show Q (.bl (decide (v ≤ hi))) H
      rw [e2]
      exact q
    · have h1 : ¬ lo ≤ v := fun z => e (decide_eq_true z)
      have e2 : false = decide (lo ≤ v ∧ v ≤ hi) := by simp [h1]
      rw [e2]
      exact q
theorem ok_uname (d : Dd K mg "is_unit_name" sUName ["name"]) (B : Bt mg) (G : Gc K mg) : FnOk P w K mg base CX0 2 d.f d.fd ["name"] spUName := by
  obtain ⟨t1, g1⟩ := G.mlet
  obtain ⟨t2, g2⟩ := G.letters
  refine d.F.ok scUName (fun vs H Q E h => ?_) (fun cdv A outer s H vs Q E hr h => ?_)
  · obtain ⟨_, rfl, _⟩ := h
    rfl
  · obtain ⟨z, rfl, ⟨h1, h2, _⟩, q⟩ := h
    refine ⟨_, pss_one (ps_ret (pe_and (pe_callB call_isi (by rfl) B.isinstance (by decide +kernel) (pa_cons (pv 0) (pa_cons (pe_bltn (v := .ty "str") (by rfl) B.str (by decide +kernel) rfl) pa_nil)))
      (pe_and (pe_cmpR op_le (pe_callB call_len_str (by rfl) B.len PySem.boot_len (pa_cons (pv 0) pa_nil)) (pe_glob (v := .int 3) (by rfl) g1 ⟨_, rfl⟩) (nomark _))
        (pe_one (pe_cmpR op_eq (pe_bm PySem.F.plainAttrs_str PySem.F.slot_str_strip PySem.F.type_str_strip mt_stripChars (pv 0) (pa_cons (pe_glob (v := .str letters) (by rfl) g2 ⟨_, rfl⟩) pa_nil)) pe_str (nomark _)))))), ?_⟩
    refine ⟨_, rfl, _, _, _, _, true, rfl, .ty "str", .base (.str z), kit_ty (by decide +kernel), _, rfl, iteT ?_⟩
    refine ⟨.str z, rfl, z, rfl, Nat.le_trans h1 (by decide), _, _, rfl, rfl, _, rfl, ?_⟩
    have e3 : decide ((z.length : Int) ≤ 3) = true := decide_eq_true (by omega)
    rw [if_pos e3]
    refine ⟨.str z, rfl, rfl, z, _, rfl, rfl, Nat.le_trans h1 (by decide), rfl, ?_⟩
    have e4 : decide (V.str (Txt.stripChars z letters) = V.str "") = true := decide_eq_true (by rw [h2])
    rw [e4]
    exact q
theorem ok_unit (d : Dd K mg "is_unit" sUnit ["unit"]) (dN : Dd K mg "is_unit_name" sUName ["name"]) (dW : DdW K mg) (B : Bt mg) (G : Gc K mg) : FnOk P w K mg base CX0 3 d.f d.fd ["unit"] (spUnit K) := by
  obtain ⟨t1, g1⟩ := G.num
  have GN : FnOk P w K mg base CX0 2 dN.f dN.fd ["name"] spUName := ok_uname dN B G
  have GW : FnOk P w K mg base CX0 2 dW.f dW.fd ["value", "low", "high"] spWithin := ok_within dW B
  refine d.F.ok scUnit (fun vs H Q E h => ?_) (fun cdv A outer s H vs Q E hr h => ?_)
  · obtain ⟨_, _, _, rfl, _⟩ := h
    rfl
  · obtain ⟨p, z, n, rfl, hp, hz, h1, h2, q⟩ := h
    refine ⟨_, pss_cons (ps_if (PW.pt (pw_or (pt_not (pt_val (pe_callB call_isi (by rfl) B.isinstance (by decide +kernel) (pa_cons (pv 0) (pa_cons (pe_bltn (v := .ty "tuple") (by rfl) B.tuple (by decide +kernel) rfl) pa_nil)))))
        (pw_or1 (pt_cmpR op_ne (pe_callB call_len_seq (by rfl) B.len PySem.boot_len (pa_cons (pv 0) pa_nil)) pe_int (nomark _))))) (pss_one (ps_ret pe_bl)) pss_nil)
      (pss_one (ps_ret (pe_and (pe_call GN hr (by rfl) dN.g dN.F.kp dN.b .nil pass0 (pa_cons (pe_ix ix_tup (pv 0) pe_int (fun _ _ => rfl)) pa_nil))
        (pe_one (pe_call GW hr (by rfl) dW.g dW.F.kp dW.b .nil pass0 (pa_cons (pe_ix ix_tup (pv 0) pe_int (fun _ _ => rfl)) (pa_cons pe_int (pa_cons (pe_glob (v := .int 1000000000000000000) (by rfl) g1 ⟨_, rfl⟩) pa_nil)))))))), ?_⟩
    refine ⟨_, rfl, _, _, _, _, true, rfl, .ty "tuple", tyx_tup hp, kit_ty (by decide +kernel), _, rfl, iteF ?_⟩
    refine ⟨.ref p, rfl, p, _, rfl, .inr hp, rfl, _, rfl, iteNS rfl ?_⟩
    refine ⟨.ref p, rfl, p, _, 0, .str z, rfl, rfl, hp, rfl, z, rfl, hz, _, rfl, iteT ?_⟩
    refine ⟨.ref p, rfl, p, _, 1, .int n, rfl, rfl, hp, rfl, n, 1, _, rfl, ?_⟩
    have e : decide (1 ≤ n ∧ n ≤ 1000000000000000000) = true := decide_eq_true ⟨h1, h2⟩
    rw [e]
    exact q
/-- the pairs of units stand -/
abbrev UP (K : PySem.W.Frag) (H : Hp) : List Addr → List (Str × Int) → Prop := PySem.Paired fun p u => SqT K H p [.str u.1, .int u.2]
/-- a tuple of units stands at a -/
def UA (K : PySem.W.Frag) (H : Hp) (a : Addr) (us : List (Str × Int)) : Prop := ∃ ps : List Addr, SqT K H a (ps.map V.ref) ∧ UP K H ps us
end
end My

namespace My
open PySem PySem.Spec PyProof.Rows L2
theorem paired_at {α β : Type} {F : α → β → Prop} : ∀ {l : List α} {m : List β} {i : Nat} {b : β}, PySem.Paired F l m → m[i]? = some b → ∃ a, l[i]? = some a ∧ F a b
  | _, _, _, _, .nil, e => by simp at e
  | _, _, 0, _, .cons r _, e => by simp at e; subst e; exact ⟨_, rfl, r⟩
  | _, _, i + 1, b, .cons _ t, e => by
    obtain ⟨u, h1, h2⟩ := paired_at (i := i) (b := b) t (by simpa using e)
    exact ⟨u, by simpa using h1, h2⟩
theorem paired_imp {α β : Type} {F G : α → β → Prop} (h : ∀ a b, F a b → G a b) : ∀ {l : List α} {m : List β}, PySem.Paired F l m → PySem.Paired G l m
  | _, _, .nil => .nil
  | _, _, .cons r t => .cons (h _ _ r) (paired_imp h t)
theorem UP.len {K : PySem.W.Frag} {H : Hp} {ps : List Addr} {us : List (Str × Int)} (h : UP K H ps us) : ps.length = us.length := PySem.Paired.length h
theorem UA.same {K : PySem.W.Frag} {H H' : Hp} {a : Addr} {us : List (Str × Int)} (s : Same H H') (h : UA K H a us) : UA K H' a us := by
  obtain ⟨ps, h1, h2⟩ := h
  exact ⟨ps, same_sqt s h1, paired_imp (fun _ _ => same_sqt s) h2⟩
theorem atI_end {α : Type} {xs : List α} {v : α} (h0 : 0 < xs.length) (h : xs[xs.length - 1]? = some v) : atI xs (-1) = some v := by
  unfold atI ixN
  have e1 : ¬ ((0 : Int) ≤ -1) := by omega
  have e2 : -(xs.length : Int) ≤ -1 := by omega
  have e3 : ((-1 : Int) + (xs.length : Int)).toNat = xs.length - 1 := by omega
  rw [if_neg e1, if_pos e2, e3]
  exact h
theorem get_ref {ps : List Addr} {i : Nat} {p : Addr} (h : ps[i]? = some p) : (ps.map V.ref)[i]? = some (.ref p) := by
  rw [List.getElem?_map, h]
  rfl
theorem of_get_ref {ps : List Addr} {i : Nat} {x : V} (h : (ps.map V.ref)[i]? = some x) : ∃ p, ps[i]? = some p ∧ x = .ref p := by
  rw [List.getElem?_map] at h
  cases e : ps[i]? with
  | none => rw [e] at h; cases h
  | some p => rw [e] at h; exact ⟨p, rfl, (Option.some.inj h).symm⟩
theorem paired_fst {α β : Type} {F : α → β → Prop} : ∀ {l : List α} {m : List β} {i : Nat} {a : α}, PySem.Paired F l m → l[i]? = some a → ∃ b, m[i]? = some b ∧ F a b
  | _, _, _, _, .nil, e => by simp at e
  | _, _, 0, _, .cons r _, e => by simp at e; subst e; exact ⟨_, rfl, r⟩
  | _, _, i + 1, b, .cons _ t, e => by
    obtain ⟨u, h1, h2⟩ := paired_fst (i := i) (a := b) t (by simpa using e)
    exact ⟨u, by simpa using h1, h2⟩
/-- a unit may stand behind others -/
def Fit (us : List (Str × Int)) (u : Str × Int) : Prop := (us = [] ∧ u.2 = 1) ∨ ∃ l, us[us.length - 1]? = some l ∧ us ≠ [] ∧ 0 < l.2 ∧ l.2 < u.2 ∧ u.2 % l.2 = 0 ∧ ∀ v ∈ us, v.1 ≠ u.1
theorem scFits : FnScope ["before", "unit", "name", "size", "last_size", "other"] ["before", "unit"] (defScope sFits) := ⟨rfl, rfl, rfl, by decide +kernel, rfl, by decide +kernel, by decide +kernel⟩
def spFits (K : PySem.W.Frag) : Sp := fun vs H Q _ => ∃ (b p : Addr) (us : List (Str × Int)) (u : Str × Int), vs = [.ref b, .ref p] ∧ UA K H b us ∧ SqT K H p [.str u.1, .int u.2] ∧ Fit us u ∧ us.length ≤ 6 ∧ ∀ H', Same H H' → Q (.bl true) H'
section
variable {P : Program} {w : World} {K : PySem.W.Frag} {mg : Str → Option Value} {base : Heap}
theorem ok_fits (d : Dd K mg "fits_behind" sFits ["before", "unit"]) (B : Bt mg) : FnOk P w K mg base CX0 2 d.f d.fd ["before", "unit"] (spFits K) := by
  refine d.F.ok scFits (fun vs H Q E h => ?_) (fun cdv A outer s H vs Q E hr h => ?_)
  · obtain ⟨_, _, _, _, rfl, _⟩ := h
    rfl
  · obtain ⟨b, p, us, ⟨z, n⟩, rfl, ⟨ps, hb, hu⟩, hp, hf, hlen, q⟩ := h
    refine ⟨_, pss_cons (ps_asg (pv 1) (pg_tup rfl (pgs_cons (pg_name (i := 2) scFits.nd rfl (.inl rfl)) (pgs_cons (pg_name (i := 3) scFits.nd rfl (.inl rfl)) pgs_nil))))
      (pss_cons (ps_if (pt_not (pt_truth (pv 0) (fun _ => rfl))) (pss_one (ps_ret (pe_cmpR op_eq (pv 3) pe_int (nomark _)))) pss_nil)
      (pss_cons (ps_set (i := 4) scFits.nd rfl (.inl rfl) (pe_ix ix_tup (pe_ix ix_tup (pv 0) (pe_un un_neg pe_int) (fun _ _ => rfl)) pe_int (fun _ _ => rfl)))
      (pss_one (ps_ret (pe_and (pe_cmpR op_gt (pv 3) (pv 4) (nomark _)) (pe_and (pe_cmpR op_eq (pe_op op_mod (pv 3) (pv 4)) pe_int (nomark _))
        (pe_one (pe_cmpR op_notIn_seq (pv 2)
          (pe_lc (own := [("other", 5)]) (g := gName 5) (tt := tYes) rfl scFits.nd (pi_tup (pv 0))
            (blkOk_by (own := [("other", 5)]) (N := ["before", "unit", "name", "size", "last_size", "other"]) (sc := defScope sFits) (by decide +kernel)) (fun _ _ _ _ _ => pg_name (i := 5) scFits.nd rfl (Or.inl rfl)) (fun _ _ _ _ _ => pts_nil)
            (fun _ _ _ _ _ => pe_ix (r := rIxT K) ix_tup (pv 5) pe_int (fun _ _ => rfl))) (by rfl))))))))), ?_⟩
    have el := UP.len hu
    refine ⟨.ref p, rfl, p, _, rfl, hp, rfl, .str z, [.int n], rfl, .int n, [], rfl, rfl, ?_⟩
    refine ⟨.ref b, rfl, _, .inr (.inl ⟨_, hb, rfl⟩), ?_⟩
    rcases hf with ⟨rfl, h1⟩ | ⟨⟨lz, ln⟩, hl, hne, h0, h1, h2, h3⟩
    · have e : ps = [] := List.length_eq_zero_iff.mp el
      subst e
      refine iteT ?_
      refine ⟨.int n, rfl, rfl, ?_⟩
      have e : decide (V.int n = V.int 1) = true := decide_eq_true (congrArg V.int h1)
      rw [e]
      exact q _ (Same.refl _)
    · obtain ⟨pl, hpl, hsl⟩ := paired_at hu hl
      have hps : ps ≠ [] := fun z => by
        rw [z] at hpl
        simp at hpl
      have hpos : 0 < ps.length := List.length_pos_iff.mpr hps
      have e0 : (!!(ps.map V.ref).isEmpty) = false := by
        cases ps with
        | nil => exact absurd rfl hps
        | cons a l => rfl
      rw [e0]
      refine iteF ?_
      refine ⟨.ref b, rfl, 1, rfl, b, _, -1, .ref pl, rfl, rfl, hb, atI_end (by rw [List.length_map]; exact hpos) (by rw [List.length_map, el]; exact get_ref hpl), pl, _, 1, .int ln, rfl, rfl, hsl, rfl, ?_⟩
      refine ⟨.int n, rfl, .int ln, rfl, n, ln, rfl, rfl, _, rfl, ?_⟩
      rw [if_pos (decide_eq_true h1)]
      refine ⟨.int n, rfl, .int ln, rfl, n, ln, rfl, rfl, h0, rfl, _, rfl, ?_⟩
      rw [if_pos (decide_eq_true (congrArg V.int h2 : V.int (n % ln) = V.int 0))]
      refine ⟨.str z, rfl, .ref b, rfl, b, rfl, ⟨_, hb⟩, fun D nD => ?_⟩
      refine lc_tup (K := K) (a := b) (xs := ps.map V.ref) (fun i H2 => Same H H2 ∧ H2 D = some (.lst ((us.take i).map fun u => V.str u.1))) ⟨same_upd nD, upd_same⟩ (fun i H2 _ h => same_sqt h.1 hb) ?_ ?_
      · rintro i x H2 hi ⟨sm, hD⟩
        obtain ⟨pi, hpi, rfl⟩ := of_get_ref hi
        obtain ⟨⟨uz, un⟩, hui, hsi⟩ := paired_fst hu hpi
        refine ⟨rfl, .ref pi, rfl, pi, _, 0, .str uz, rfl, rfl, same_sqt sm hsi, rfl, _, hD, ?_, fun c o e => ?_, ?_⟩
        · rw [List.length_map, List.length_take]
          exact Nat.lt_of_le_of_lt (Nat.le_trans (Nat.min_le_right _ _) hlen) (by decide)
        · rw [upd_ne (ne_of_none e nD)]
          exact sm _ _ e
        · rw [upd_same, List.take_add_one, hui, List.map_append]
          rfl
      · rintro H2 ⟨sm, hD⟩
        have et : us.take (ps.map V.ref).length = us := List.take_of_length_le (by rw [List.length_map, el]; exact Nat.le_refl _)
        rw [et] at hD
        refine ⟨D, _, rfl, .inl (SqL.of hD), rfl, ?_, ?_⟩
        · simp [List.all_map, flatV]
        · have e : inV (.str z) (us.map fun u => V.str u.1) = false := by
            unfold inV
            rw [List.any_eq_false]
            intro y hy
            obtain ⟨v, hv, rfl⟩ := List.mem_map.mp hy
            have := h3 v hv
            simpa [eqV] using this
          rw [if_pos rfl, e]
          exact q _ sm
end
end My

namespace My
open PySem PySem.Spec PyProof.Rows L2
theorem cut_take {xs : List V} (i : Nat) (hi : i ≤ xs.length) : cutV xs none (some (i : Int)) = xs.take i := by
  unfold cutV
  rw [HT.sIx_none, HT.sIx_nat, List.drop_zero, Nat.sub_zero, Nat.min_eq_left hi]
theorem cut_drop1 (xs : List V) : cutV xs (some 1) none = xs.drop 1 := by
  unfold cutV
  rw [HT.sIx_none, show HT.sIx xs.length 0 (some 1) = min 1 xs.length from HT.sIx_nat xs.length 0 1]
  cases xs with
  | nil => rfl
  | cons x r =>
    have e : min 1 (x :: r).length = 1 := by rw [List.length_cons]; omega
    rw [e]
    exact List.take_of_length_le (by rw [List.length_drop]; exact Nat.le_refl _)
theorem paired_take {α β : Type} {F : α → β → Prop} : ∀ {l : List α} {m : List β} (i : Nat), PySem.Paired F l m → PySem.Paired F (l.take i) (m.take i)
  | _, _, 0, _ => .nil
  | _, _, _ + 1, .nil => .nil
  | _, _, i + 1, .cons r t => .cons r (paired_take i t)
theorem paired_drop {α β : Type} {F : α → β → Prop} : ∀ {l : List α} {m : List β} (i : Nat), PySem.Paired F l m → PySem.Paired F (l.drop i) (m.drop i)
  | _, _, 0, r => r
  | _, _, _ + 1, .nil => .nil
  | _, _, i + 1, .cons _ t => paired_drop i t
/-- the units of a ladder -/
structure GoodUs (us : List (Str × Int)) : Prop where
  lo : 1 ≤ us.length
  hi : us.length ≤ 6
  each : ∀ i u, us[i]? = some u → GoodN u.1 ∧ 1 ≤ u.2 ∧ u.2 ≤ 1000000000000000000 ∧ Fit (us.take i) u
theorem scCUnits : FnScope ["units", "place", "unit"] ["units"] (defScope sCUnits) := ⟨rfl, rfl, rfl, by decide +kernel, rfl, by decide +kernel, by decide +kernel⟩
def spCUnits (K : PySem.W.Frag) : Sp := fun vs H Q _ => ∃ (a : Addr) (us : List (Str × Int)), vs = [.ref a] ∧ UA K H a us ∧ GoodUs us ∧ ∀ H', Same H H' → Q .non H'
section
variable {P : Program} {w : World} {K : PySem.W.Frag} {mg : Str → Option Value} {base : Heap}
theorem ok_cunits (d : Dd K mg "check_units" sCUnits ["units"]) (dU : Dd K mg "is_unit" sUnit ["unit"]) (dN : Dd K mg "is_unit_name" sUName ["name"]) (dW : DdW K mg) (dF : Dd K mg "fits_behind" sFits ["before", "unit"])
    (B : Bt mg) (G : Gc K mg) : FnOk P w K mg base CX0 4 d.f d.fd ["units"] (spCUnits K) := by
  obtain ⟨t1, g1⟩ := G.units
  have GU : FnOk P w K mg base CX0 3 dU.f dU.fd ["unit"] (spUnit K) := ok_unit dU dN dW B G
  have GF : FnOk P w K mg base CX0 2 dF.f dF.fd ["before", "unit"] (spFits K) := ok_fits dF B
  refine d.F.ok scCUnits (fun vs H Q E h => ?_) (fun cdv A outer s H vs Q E hr h => ?_)
  · obtain ⟨_, _, rfl, _⟩ := h
    rfl
  · obtain ⟨a, us, rfl, ⟨ps, ha, hu⟩, g, q⟩ := h
    have hr1 : Room 2 _ := hr.mono (by decide)
    refine ⟨_, pss_cons (ps_if (PW.pt (pw_or (pt_not (pt_val (pe_callB call_isi (by rfl) B.isinstance (by decide +kernel) (pa_cons (pv 0) (pa_cons (pe_bltn (v := .ty "tuple") (by rfl) B.tuple (by decide +kernel) rfl) pa_nil)))))
        (pw_or1 (pt_not (pt_chain op_le op_le pe_int (pe_callB call_len_seq (by rfl) B.len PySem.boot_len (pa_cons (pv 0) pa_nil)) (pe_glob (v := .int 6) (by rfl) g1 ⟨_, rfl⟩)))))) (pss_one ps_never) pss_nil)
      (pss_one (ps_for PassesOwn.never rfl (pi_enT (by rfl) B.enumerate (pa_cons (pv 0) pa_nil)) (pg_tup rfl (pgs_cons (pg_name (i := 1) scCUnits.nd rfl (.inl rfl)) (pgs_cons (pg_name (i := 2) scCUnits.nd rfl (.inl rfl)) pgs_nil)))
        (pss_one (ps_if (PW.pt (pw_or (pt_not (pt_val (pe_call GU hr (by rfl) dU.g dU.F.kp dU.b .nil pass0 (pa_cons (pv 2) pa_nil))))
          (pw_or1 (pt_not (pt_val (pe_call GF hr1 (by rfl) dF.g dF.F.kp dF.b .nil pass0 (pa_cons (pe_slice sl_tupA (pv 0) po_none (po_some (pv 1))) (pa_cons (pv 2) pa_nil)))))))) (pss_one ps_never) pss_nil)))), ?_⟩
    have el := UP.len hu
    refine ⟨_, rfl, _, _, _, _, true, rfl, .ty "tuple", tyx_tup ha, kit_ty (by decide +kernel), _, rfl, iteF ?_⟩
    refine ⟨.ref a, rfl, a, _, rfl, .inr ha, 1, _, rfl, rfl, _, rfl, ?_⟩
    have e1 : decide ((1 : Int) ≤ ((ps.map V.ref).length : Int)) = true := decide_eq_true (by rw [List.length_map, el]; have := g.lo; omega)
    have e2 : decide (((ps.map V.ref).length : Int) ≤ 6) = true := decide_eq_true (by rw [List.length_map, el]; have := g.hi; omega)
    rw [e1]
    refine iteT ?_
    refine ⟨_, _, rfl, rfl, _, rfl, ?_⟩
    rw [e2]
    refine iteF ?_
    refine ⟨.ref a, rfl, a, _, rfl, ha, for_enT (K := K) (a := a) (xs := ps.map V.ref) (fun i σ H2 => Same H H2 ∧ ∃ v1 v2, σ = [some (.ref a), v1, v2]) ⟨Same.refl _, none, none, rfl⟩ (fun i σ H2 _ h => same_sqt h.1 ha) ?_ ?_⟩
    · rintro i x σ H2 T hi ⟨sm, v1, v2, rfl⟩ nT
      obtain ⟨p, hp, rfl⟩ := of_get_ref hi
      obtain ⟨u, hu2, hs⟩ := paired_fst hu hp
      obtain ⟨k1, k2, k3, k4⟩ := g.each i u hu2
      have smT : Same H (upd H2 T (.tup [.int (i : Nat), .ref p])) := sm.trans (same_upd nT)
      have hi2 : i < ps.length := (List.getElem?_eq_some_iff.mp hp).1
      refine ⟨T, _, rfl, .inl (.inl upd_same), rfl, .int (i : Nat), [.ref p], rfl, .ref p, [], rfl, rfl, ?_⟩
      refine ⟨.ref p, rfl, p, u.1, u.2, rfl, same_sqt smT hs, k1, k2, k3, true, rfl, iteF ?_⟩
      refine ⟨.ref a, rfl, .int (i : Nat), rfl, _, rfl, a, _, rfl, same_sqt smT ha, fun z => ?_, fun _ c nc => ?_⟩
      · obtain ⟨_, z⟩ := z
        rw [HT.sIx_nat, List.length_map] at z
        omega
      · have smc := smT.trans (same_upd nc (o := .tup (cutV (ps.map V.ref) none (some (i : Int)))))
        have hcut : UA K (upd (upd H2 T (.tup [.int (i : Nat), .ref p])) c (.tup (cutV (ps.map V.ref) none (some (i : Int))))) c (us.take i) := by
          refine ⟨ps.take i, ?_, paired_take i (paired_imp (fun _ _ => same_sqt smc) hu)⟩
          rw [List.map_take, ← cut_take i (by rw [List.length_map]; omega)]
          exact SqT.of upd_same
        refine ⟨.ref p, rfl, c, p, us.take i, u, rfl, hcut, same_sqt smc hs, k4, ?_, fun H3 sm3 => ?_⟩
        · rw [List.length_take]
          exact Nat.le_trans (Nat.min_le_right _ _) g.hi
        · refine ⟨true, rfl, iteF ?_⟩
          exact ⟨smc.trans sm3, _, _, rfl⟩
    · rintro σ H2 ⟨sm, _⟩
      exact q _ sm
end
end My

namespace My
open PySem PySem.Spec PyProof.Rows L2
def notTup : HO → Bool
  | .tup _ => false
  | .frz _ _ => false
  | _ => true
theorem But.sqt {K : PySem.W.Frag} {a t : Addr} {o : HO} {xs : List V} {H H' : Hp} (hp : H a = some o) (n : notTup o = true) (b : But a H H') (h : SqT K H t xs) : SqT K H' t xs := by
  rcases h with (h | ⟨ob, h⟩) | h
  · refine .inl (.inl (b _ _ h ?_))
    rintro rfl
    rw [hp] at h
    cases h
    cases n
  · refine .inl (.inr ⟨ob, b _ _ h ?_⟩)
    rintro rfl
    rw [hp] at h
    cases h
    cases n
  · exact .inr h
theorem UA.but {K : PySem.W.Frag} {a t : Addr} {o : HO} {us : List (Str × Int)} {H H' : Hp} (hp : H a = some o) (n : notTup o = true) (b : But a H H') (h : UA K H t us) : UA K H' t us := by
  obtain ⟨ps, h1, h2⟩ := h
  exact ⟨ps, b.sqt hp n h1, paired_imp (fun _ _ => b.sqt hp n) h2⟩
theorem parts_at {d : Nat} (h : d ≤ 3) : atI [V.int 1, V.int 10, V.int 100, V.int 1000] (d : Int) = some (.int ((10 : Int) ^ d)) := by
  match d, h with
  | 0, _ => rfl
  | 1, _ => rfl
  | 2, _ => rfl
  | 3, _ => rfl
  | n + 4, h => omega
theorem pow_lo (d : Nat) : (0 : Int) < 10 ^ d := Int.pow_pos (by decide)
theorem pow_hi {d : Nat} (h : d ≤ 3) : (10 : Int) ^ d ≤ 1000 := by
  match d, h with
  | 0, _ => decide
  | 1, _ => decide
  | 2, _ => decide
  | 3, _ => decide
  | n + 4, h => omega
abbrev sCDec : Stmt := top 36
abbrev sCRnd : Stmt := top 37
theorem scCDec : FnScope ["units", "decimals", "unit"] ["units", "decimals"] (defScope sCDec) := ⟨rfl, rfl, rfl, by decide +kernel, rfl, by decide +kernel, by decide +kernel⟩
theorem scCRnd : FnScope ["rounding"] ["rounding"] (defScope sCRnd) := ⟨rfl, rfl, rfl, by decide +kernel, rfl, by decide +kernel, by decide +kernel⟩
def spCDec (K : PySem.W.Frag) : Sp := fun vs H Q _ => ∃ (a : Addr) (us : List (Str × Int)) (d : Nat), vs = [.ref a, .int (d : Int)] ∧ UA K H a us ∧ 1 ≤ us.length ∧ d ≤ 3 ∧ (∀ u ∈ us.drop 1, u.2 % (2 * 10 ^ d) = 0) ∧ ∀ H', Same H H' → Q .non H'
def sorts : List Str := ["down", "up", "near", "even"]
def spCRnd : Sp := fun vs H Q _ => ∃ z : Str, vs = [.str z] ∧ z ∈ sorts ∧ Q .non H
section
variable {P : Program} {w : World} {K : PySem.W.Frag} {mg : Str → Option Value} {base : Heap}
theorem ok_crnd (d : Dd K mg "check_rounding" sCRnd ["rounding"]) (B : Bt mg) (G : Gc K mg) : FnOk P w K mg base CX0 2 d.f d.fd ["rounding"] spCRnd := by
  obtain ⟨a1, g1, g2⟩ := G.rounds
  refine d.F.ok scCRnd (fun vs H Q E h => ?_) (fun cdv A outer s H vs Q E hr h => ?_)
  · obtain ⟨_, rfl, _⟩ := h
    rfl
  · obtain ⟨z, rfl, hz, q⟩ := h
    refine ⟨_, pss_one (ps_if (PW.pt (pw_or (pt_not (pt_val (pe_callB call_isi (by rfl) B.isinstance (by decide +kernel) (pa_cons (pv 0) (pa_cons (pe_bltn (v := .ty "str") (by rfl) B.str (by decide +kernel) rfl) pa_nil)))))
        (pw_or1 (pt_cmpR op_notIn_seq (pv 0) (pe_glob (v := .ref a1) (by rfl) g1 rfl) (by rfl))))) (pss_one ps_never) pss_nil), ?_⟩
    refine ⟨_, rfl, _, _, _, _, true, rfl, .ty "str", .base (.str z), kit_ty (by decide +kernel), _, rfl, iteF ?_⟩
    refine ⟨_, rfl, a1, _, rfl, .inr (g2 H), rfl, rfl, ?_⟩
    have e : inV (.str z) [.str "down", .str "up", .str "near", .str "even"] = true := by
      unfold inV sorts at *
      simp only [List.mem_cons, List.not_mem_nil, or_false] at hz
      rcases hz with rfl | rfl | rfl | rfl <;> decide +kernel
    rw [if_pos rfl, e]
    refine ⟨_, rfl, iteF ?_⟩
    exact q
theorem ok_cdec (d : Dd K mg "check_decimals" sCDec ["units", "decimals"]) (dW : DdW K mg) (B : Bt mg) (G : Gc K mg) : FnOk P w K mg base CX0 3 d.f d.fd ["units", "decimals"] (spCDec K) := by
  obtain ⟨t1, g1⟩ := G.decs
  obtain ⟨a2, g2, g3⟩ := G.parts
  have GW : FnOk P w K mg base CX0 2 dW.f dW.fd ["value", "low", "high"] spWithin := ok_within dW B
  refine d.F.ok scCDec (fun vs H Q E h => ?_) (fun cdv A outer s H vs Q E hr h => ?_)
  · obtain ⟨_, _, _, rfl, _⟩ := h
    rfl
  · obtain ⟨a, us, dn, rfl, ⟨ps, ha, hu⟩, hlen, hd, hall, q⟩ := h
    refine ⟨_, pss_cons (ps_if (pt_not (pt_val (pe_call GW hr (by rfl) dW.g dW.F.kp dW.b .nil pass0 (pa_cons (pv 1) (pa_cons pe_int (pa_cons (pe_glob (v := .int 3) (by rfl) g1 ⟨_, rfl⟩) pa_nil)))))) (pss_one ps_never) pss_nil)
      (pss_one (ps_for PassesOwn.never rfl (pi_tup (pe_slice sl_tupA (pv 0) (po_some pe_int) po_none)) (pg_name (i := 2) scCDec.nd rfl (.inl rfl))
        (pss_one (ps_if (pt_cmpR op_ne (pe_op op_mod (pe_ix ix_tup (pv 2) pe_int (fun _ _ => rfl)) (pe_op op_mul pe_int (pe_ix ix_tup (pe_glob (v := .ref a2) (by rfl) g2 rfl) (pv 1) (fun _ _ => rfl)))) pe_int (nomark _)) (pss_one ps_never) pss_nil)))), ?_⟩
    have el := UP.len hu
    refine ⟨.int (dn : Int), rfl, dn, 0, 3, rfl, ?_⟩
    rw [decide_eq_true (show (0 : Int) ≤ (dn : Int) ∧ (dn : Int) ≤ 3 by omega)]
    refine ⟨true, rfl, iteF ?_⟩
    refine ⟨.ref a, rfl, 1, rfl, a, _, rfl, ha, fun z => ?_, fun _ c nc => ?_⟩
    · obtain ⟨z, _⟩ := z
      rw [show HT.sIx (ps.map V.ref).length 0 (some 1) = min 1 (ps.map V.ref).length from HT.sIx_nat _ 0 1, List.length_map] at z
      omega
    · have smc : Same H (upd H c (.tup (cutV (ps.map V.ref) (some 1) none))) := same_upd nc
      refine ⟨c, rfl, ⟨_, SqT.of upd_same⟩, for_tup (K := K) (a := c) (xs := cutV (ps.map V.ref) (some 1) none) (fun i σ H2 => Same (upd H c (.tup (cutV (ps.map V.ref) (some 1) none))) H2 ∧ ∃ v, σ = [some (.ref a), some (.int (dn : Int)), v])
        ⟨Same.refl _, none, rfl⟩ (fun i σ H2 _ h => same_sqt h.1 (SqT.of upd_same)) ?_ ?_⟩
      · rintro i x σ H2 hi ⟨sm, v, rfl⟩
        rw [cut_drop1, ← List.map_drop] at hi
        obtain ⟨p, hp, rfl⟩ := of_get_ref hi
        obtain ⟨u, hu2, hs⟩ := paired_fst (paired_drop 1 hu) hp
        have hm : u ∈ us.drop 1 := List.mem_of_getElem? hu2
        have hz := hall u hm
        have hpos := pow_lo dn
        have hhi := pow_hi hd
        refine ⟨.ref p, rfl, p, _, 1, .int u.2, rfl, rfl, same_sqt sm (same_sqt smc hs), rfl, .int (dn : Int), rfl, a2, _, dn, _, rfl, rfl, g3 H2, parts_at hd, 2, _, rfl, rfl, .inl ⟨by decide, by decide⟩, u.2, _, rfl, rfl, (by show (0 : Int) < 2 * 10 ^ dn; omega), rfl, _, rfl, ?_⟩
        have e : (!decide (V.int (u.2 % (2 * 10 ^ dn)) = V.int 0)) = false := by rw [hz]; rfl
        rw [e]
        refine iteF ?_
        exact ⟨sm, _, rfl⟩
      · rintro σ H2 ⟨sm, _⟩
        exact q _ (smc.trans sm)
end
end My

namespace My
open PySem PySem.Spec PyProof.Rows L2
abbrev sLInit : Stmt := inClass (top 34) 0
theorem scLInit : FnScope ["self", "units", "decimals", "rounding", "carry", "least", "unit"] ["self", "units", "decimals", "rounding", "carry", "least"] (defScope sLInit) := ⟨rfl, rfl, rfl, by decide +kernel, rfl, by decide +kernel, by decide +kernel⟩
/-- the class Ladder -/
structure LadC (K : PySem.W.Frag) (mg : Str → Option Value) where
  C : Addr
  f : Addr
  fd : FuncData
  F : Fun K "__init__" "Ladder.__init__" sLInit f fd
  M : Mk K C f
  g : mg "Ladder" = some (.ref C)
  cl : Cls K C
  nUnits : NoAttr K C "units"
  nDec : NoAttr K C "decimals"
  nRnd : NoAttr K C "rounding"
  nCarry : NoAttr K C "carry"
  nLeast : NoAttr K C "least"
  nTold : NoAttr K C "told"
  nSteps : NoAttr K C "steps"
  nThr : NoAttr K C "thresholds"
/-- the attributes of a ladder, in their order -/
def fs5 (u : Addr) (d : Nat) (s : Str) (c : Bool) (l : Int) : List (Str × V) :=
  putF "least" (.int l) (putF "carry" (.bl c) (putF "rounding" (.str s) (putF "decimals" (.int (d : Int)) (putF "units" (.ref u) []))))
def flds (u : Addr) (d : Nat) (s : Str) (c : Bool) (l : Int) (t st th : Addr) : List (Str × V) :=
  putF "thresholds" (.ref th) (putF "steps" (.ref st) (putF "told" (.ref t) (fs5 u d s c l)))
local macro_rules | `(tactic| walk_at "my look") => `(tactic| (unfold flds fs5; repeat (first | rw [lookup_putF, if_pos rfl] | rw [lookup_putF, if_neg (by decide +kernel)])))
section
variable (u : Addr) (d : Nat) (s : Str) (c : Bool) (l : Int) (t st th : Addr)
theorem fl_units : (flds u d s c l t st th).lookup ("units" : Str) = some (.ref u) := by walk_at "my look"
theorem fl_dec : (flds u d s c l t st th).lookup ("decimals" : Str) = some (.int (d : Int)) := by walk_at "my look"
theorem fl_rnd : (flds u d s c l t st th).lookup ("rounding" : Str) = some (.str s) := by walk_at "my look"
theorem fl_carry : (flds u d s c l t st th).lookup ("carry" : Str) = some (.bl c) := by walk_at "my look"
theorem fl_least : (flds u d s c l t st th).lookup ("least" : Str) = some (.int l) := by walk_at "my look"
theorem fl_told : (flds u d s c l t st th).lookup ("told" : Str) = some (.ref t) := by walk_at "my look"
theorem fl_steps : (flds u d s c l t st th).lookup ("steps" : Str) = some (.ref st) := by walk_at "my look"
theorem fl_thr : (flds u d s c l t st th).lookup ("thresholds" : Str) = some (.ref th) := by walk_at "my look"
end
/-- steps and thresholds -/
def stepsOf (us : List (Str × Int)) (d : Nat) : List Int := 1 :: (us.drop 1).map fun u => u.2 / 10 ^ d
def thrsOf (us : List (Str × Int)) (l : Int) : List Int := 0 :: (us.drop 1).map fun u => u.2 * l
/-- what a ladder is made of -/
structure Good (us : List (Str × Int)) (d : Nat) (s : Str) (l : Int) : Prop where
  u : GoodUs us
  d3 : d ≤ 3
  div : ∀ u ∈ us.drop 1, u.2 % (2 * 10 ^ d) = 0
  srt : s ∈ sorts
  l1 : 1 ≤ l
  l2 : l ≤ 1000
def spLInit (K : PySem.W.Frag) (C : Addr) : Sp := fun vs H Q _ => ∃ (p dx ua : Addr) (us : List (Str × Int)) (d : Nat) (s : Str) (c : Bool) (l : Int), vs = [.ref p, .ref ua, .int (d : Int), .str s, .bl c, .int l] ∧ H p = some (.ins C dx []) ∧ UA K H ua us ∧ Good us d s l ∧
  ∀ (H' : Hp) (t st th : Addr), But p H H' → H' p = some (.ins C dx (flds ua d s c l t st th)) → SqT K H' t [.ref ua, .int (d : Int), .str s, .bl c, .int l] → SqT K H' st ((stepsOf us d).map V.int) → SqT K H' th ((thrsOf us l).map V.int) → Q .non H'
/-- [.. for unit in t], t a tuple of units, each to an int -/
theorem comp_units {K : PySem.W.Frag} {tl te : TE} {k : Nat} {σ : L2.St} {H : Hp} {Q : VK} {fn : Str × Int → Int} {vs : List (Str × Int)} {ps : List Addr} (hu : UP K H ps vs) (hlen : vs.length ≤ 6)
    (htl : ∀ Qt : VK, (∀ c H1, Same H H1 → SqT K H1 c (ps.map V.ref) → Qt (.ref c) H1) → tl σ H Qt)
    (hte : ∀ (pu : Addr) (u : Str × Int) (H4 : Hp) (Qe : VK), u ∈ vs → Same H H4 → SqT K H4 pu [.str u.1, .int u.2] → Qe (.int (fn u)) H4 → te ((wipe σ [k]).set k (some (.ref pu))) H4 Qe)
    (hw : ∀ y, wipe ((wipe σ [k]).set k (some y)) [k] = wipe σ [k])
    (hq : ∀ D H4, Same H H4 → H D = none → H4 D = some (.lst ((vs.map fn).map V.int)) → Q (.ref D) H4) : tLc (iTup K tl) (gName k) tYes te [k] σ H Q := by
  refine htl _ fun c H1 s1 hc => ⟨c, rfl, ⟨_, hc⟩, fun D nD => ?_⟩
  have el := UP.len hu
  refine lc_tup (K := K) (a := c) (xs := ps.map V.ref) (fun i H4 => Same H1 H4 ∧ H4 D = some (.lst (((vs.take i).map fn).map V.int))) ⟨same_upd nD, upd_same⟩ (fun i H4 _ h => same_sqt h.1 hc) ?_ ?_
  · rintro i y H4 hi ⟨sm, hD⟩
    obtain ⟨pu, hpu, rfl⟩ := of_get_ref hi
    obtain ⟨u, hu2, hs⟩ := paired_fst hu hpu
    refine ⟨hw _, hte pu u H4 _ (List.mem_of_getElem? hu2) (s1.trans sm) (same_sqt (s1.trans sm) hs) ⟨_, hD, ?_, fun b o e => ?_, ?_⟩⟩
    · rw [List.length_map, List.length_map, List.length_take]
      exact Nat.lt_of_le_of_lt (Nat.le_trans (Nat.min_le_right _ _) hlen) (by decide)
    · rw [upd_ne (ne_of_none e nD)]
      exact sm _ _ e
    · rw [upd_same, List.take_add_one, hu2, List.map_append, List.map_append]
      rfl
  · rintro H4 ⟨sm, hD⟩
    rw [List.length_map, el, List.take_of_length_le (Nat.le_refl _)] at hD
    exact hq D H4 (s1.trans sm) (s1.free nD) hD
/-- t[1:] of a tuple that is not empty -/
theorem rest_of {K : PySem.W.Frag} {H : Hp} {a : Addr} {xs : List V} {te : TE} {σ : L2.St} {Q : VK} (ha : SqT K H a xs) (h1 : 1 ≤ xs.length) (hte : ∀ Qt : VK, Qt (.ref a) H → te σ H Qt) (hq : ∀ c H1, Same H H1 → SqT K H1 c (xs.drop 1) → Q (.ref c) H1) :
    tSl (rSlA K) te (tPart (tC (.int 1))) tNoPart σ H Q := by
  refine hte _ ⟨1, rfl, a, xs, rfl, ha, fun z => ?_, fun _ c nc => ?_⟩
  · obtain ⟨z, _⟩ := z
    rw [show HT.sIx xs.length 0 (some 1) = min 1 xs.length from HT.sIx_nat _ 0 1] at z
    omega
  · refine hq c _ (same_upd nc) ?_
    rw [← cut_drop1]
    exact SqT.of upd_same
theorem few {f : Str} {v : V} {fs : List (Str × V)} {n : Nat} (h : fs.length ≤ n) : (putF f v fs).length ≤ n + 1 := Nat.le_trans (length_putF f v fs) (Nat.succ_le_succ h)
section
variable {P : Program} {w : World} {K : PySem.W.Frag} {mg : Str → Option Value} {base : Heap}
theorem ok_linit (L : LadC K mg) (dC : Dd K mg "check_units" sCUnits ["units"]) (dU : Dd K mg "is_unit" sUnit ["unit"]) (dN : Dd K mg "is_unit_name" sUName ["name"]) (dW : DdW K mg) (dF : Dd K mg "fits_behind" sFits ["before", "unit"])
    (dD : Dd K mg "check_decimals" sCDec ["units", "decimals"]) (dR : Dd K mg "check_rounding" sCRnd ["rounding"]) (B : Bt mg) (G : Gc K mg) :
    FnOk P w K mg base CX0 5 L.f L.fd ["self", "units", "decimals", "rounding", "carry", "least"] (spLInit K L.C) := by
  obtain ⟨a2, g2, g3⟩ := G.parts
  obtain ⟨t1, g1⟩ := G.least
  have GC : FnOk P w K mg base CX0 4 dC.f dC.fd ["units"] (spCUnits K) := ok_cunits dC dU dN dW dF B G
  have GD : FnOk P w K mg base CX0 3 dD.f dD.fd ["units", "decimals"] (spCDec K) := ok_cdec dD dW B G
  have GR : FnOk P w K mg base CX0 2 dR.f dR.fd ["rounding"] spCRnd := ok_crnd dR B G
  have GW : FnOk P w K mg base CX0 2 dW.f dW.fd ["value", "low", "high"] spWithin := ok_within dW B
  refine L.F.ok scLInit (fun vs H Q E h => ?_) (fun cdv A outer s H vs Q E hr h => ?_)
  · obtain ⟨_, _, _, _, _, _, _, _, rfl, _⟩ := h
    rfl
  · obtain ⟨p, dx, ua, us, dn, rs, cy, lt, rfl, hp, hU, g, q⟩ := h
    have hr2 : Room 3 _ := hr.mono (by decide)
    have hr1 : Room 2 _ := hr.mono (by decide)
    have nd := scLInit.nd
    refine ⟨_, pss_cons (ps_expr (pe_call GC hr (by rfl) dC.g dC.F.kp dC.b .nil pass0 (pa_cons (pv 1) pa_nil)))
      (pss_cons (ps_expr (pe_call GD hr2 (by rfl) dD.g dD.F.kp dD.b .nil pass0 (pa_cons (pv 1) (pa_cons (pv 2) pa_nil))))
      (pss_cons (ps_expr (pe_call GR hr1 (by rfl) dR.g dR.F.kp dR.b .nil pass0 (pa_cons (pv 3) pa_nil)))
      (pss_cons (ps_if (pt_not (pt_val (pe_callB call_isi (by rfl) B.isinstance (by decide +kernel) (pa_cons (pv 4) (pa_cons (pe_bltn (v := .ty "bool") (by rfl) B.bool (by decide +kernel) rfl) pa_nil))))) (pss_one ps_never) pss_nil)
      (pss_cons (ps_if (pt_not (pt_val (pe_call GW hr1 (by rfl) dW.g dW.F.kp dW.b .nil pass0 (pa_cons (pv 5) (pa_cons pe_int (pa_cons (pe_glob (v := .int 1000) (by rfl) g1 ⟨_, rfl⟩) pa_nil)))))) (pss_one ps_never) pss_nil)
      (pss_cons (ps_fld (pv 0) (pv 1) rfl)
      (pss_cons (ps_fld (pv 0) (pv 2) rfl)
      (pss_cons (ps_fld (pv 0) (pv 3) rfl)
      (pss_cons (ps_fld (pv 0) (pv 4) rfl)
      (pss_cons (ps_fld (pv 0) (pv 5) rfl)
      (Evl.pss_cut (ps_fld (pv 0) (pe_tup (pa_cons (pv 1) (pa_cons (pv 2) (pa_cons (pv 3) (pa_cons (pv 4) (pa_cons (pv 5) pa_nil)))))) rfl)
      (Evl.pss_cut (ps_fld (pv 0) (pe_op op_catA (pe_tup (pa_cons pe_int pa_nil)) (pe_tupleOf (by rfl) B.tuple
        (pe_lc (own := [("unit", 6)]) (g := gName 6) (tt := tYes) rfl nd (pi_tup (pe_slice sl_tupA (pv 1) (po_some pe_int) po_none))
            (blkOk_by (own := [("unit", 6)]) (N := ["self", "units", "decimals", "rounding", "carry", "least", "unit"]) (sc := defScope sLInit) (by decide +kernel)) (fun _ _ _ _ _ => pg_name (i := 6) nd rfl (Or.inl rfl)) (fun _ _ _ _ _ => pts_nil)
            (fun _ _ _ _ _ => pe_op op_fdiv (pe_ix (r := rIxT K) ix_tup (pv 6) pe_int (fun _ _ => rfl)) (pe_ix (r := rIxT K) ix_tup (pe_glob (v := .ref a2) (by rfl) g2 rfl) (pv 2) (fun _ _ => rfl)))))) rfl)
      (pss_one (ps_fld (pv 0) (pe_op op_catA (pe_tup (pa_cons pe_int pa_nil)) (pe_tupleOf (by rfl) B.tuple
        (pe_lc (own := [("unit", 6)]) (g := gName 6) (tt := tYes) rfl nd (pi_tup (pe_slice sl_tupA (pv 1) (po_some pe_int) po_none))
            (blkOk_by (own := [("unit", 6)]) (N := ["self", "units", "decimals", "rounding", "carry", "least", "unit"]) (sc := defScope sLInit) (by decide +kernel)) (fun _ _ _ _ _ => pg_name (i := 6) nd rfl (Or.inl rfl)) (fun _ _ _ _ _ => pts_nil)
            (fun _ _ _ _ _ => pe_op op_mul (pe_ix (r := rIxT K) ix_tup (pv 6) pe_int (fun _ _ => rfl)) (pv 5))))) rfl))))))))))))), ?_⟩
    have nt : notTup (.ins L.C dx []) = true := rfl
    -- the checks
    refine ⟨.ref ua, rfl, ua, us, rfl, hU, g.u, fun H1 s1 => ?_⟩
    refine ⟨.ref ua, rfl, .int (dn : Int), rfl, ua, us, dn, rfl, hU.same s1, g.u.lo, g.d3, g.div, fun H2 s2 => ?_⟩
    have s12 := s1.trans s2
    refine ⟨.str rs, rfl, rs, rfl, g.srt, ?_⟩
    refine ⟨_, rfl, _, _, _, _, true, rfl, .ty "bool", .base (.bl cy), kit_ty (by decide +kernel), _, rfl, iteF ?_⟩
    refine ⟨.int lt, rfl, lt, 1, 1000, rfl, ?_⟩
    rw [decide_eq_true (show (1 : Int) ≤ lt ∧ lt ≤ 1000 from ⟨g.l1, g.l2⟩)]
    refine ⟨true, rfl, iteF ?_⟩
    -- the fields
    have hp2 : H2 p = some (.ins L.C dx []) := s12 _ _ hp
    have cl := L.cl
    refine ⟨_, rfl, _, rfl, p, L.C, dx, _, rfl, hp2, cl, L.nUnits, by decide, ?_⟩
    refine ⟨_, rfl, _, rfl, p, L.C, dx, _, rfl, upd_same, cl, L.nDec, (by show 1 < 1000; decide), ?_⟩
    refine ⟨_, rfl, _, rfl, p, L.C, dx, _, rfl, upd_same, cl, L.nRnd, Nat.lt_of_le_of_lt (few (few (Nat.zero_le 0))) (by decide), ?_⟩
    refine ⟨_, rfl, _, rfl, p, L.C, dx, _, rfl, upd_same, cl, L.nCarry, Nat.lt_of_le_of_lt (few (few (few (Nat.zero_le 0)))) (by decide), ?_⟩
    refine ⟨_, rfl, _, rfl, p, L.C, dx, _, rfl, upd_same, cl, L.nLeast, Nat.lt_of_le_of_lt (few (few (few (few (Nat.zero_le 0))))) (by decide), ?_⟩
    have b5 : ∀ {H' : Hp}, But p H2 H' → But p H H' := fun b => (Same.but s12).trans b
    have lt5 : (fs5 ua dn rs cy lt).length ≤ 5 := few (few (few (few (few (Nat.zero_le 0)))))
    refine ⟨fun σ' H' => ∃ t, σ' = [some (.ref p), some (.ref ua), some (.int (dn : Int)), some (.str rs), some (.bl cy), some (.int lt), none] ∧ But p H H' ∧ H' p = some (.ins L.C dx (putF "told" (.ref t) (fs5 ua dn rs cy lt))) ∧
      SqT K H' t [.ref ua, .int (dn : Int), .str rs, .bl cy, .int lt], ?_, ?_⟩
    · refine ⟨_, rfl, _, rfl, _, rfl, _, rfl, _, rfl, (by show 5 ≤ sizeLine; decide), fun t nt' => ?_⟩
      have npt : p ≠ t := ne_of_none upd_same nt'
      refine ⟨_, rfl, p, L.C, dx, _, rfl, (by rw [upd_ne npt]; exact upd_same), cl, L.nTold, Nat.lt_of_le_of_lt lt5 (by decide), ?_⟩
      refine ⟨t, rfl, b5 ?_, upd_same, ?_⟩
      · exact (((((((But.upd _ _ _).trans (But.upd _ _ _)).trans (But.upd _ _ _)).trans (But.upd _ _ _)).trans (But.upd _ _ _)).trans (Same.but (same_upd nt')))).trans (But.upd _ _ _)
      · refine SqT.of ?_
        rw [upd_ne npt.symm]
        exact upd_same
    rintro σ' H3 ⟨t, rfl, b3, hp3, ht3⟩
    have lt6 : (putF "told" (V.ref t) (fs5 ua dn rs cy lt)).length ≤ 6 := few lt5
    have lt7 : ∀ st, (putF "steps" (V.ref st) (putF "told" (V.ref t) (fs5 ua dn rs cy lt))).length ≤ 7 := fun st => few lt6
    have each : ∀ u ∈ us.drop 1, 1 ≤ u.2 ∧ u.2 ≤ 1000000000000000000 := fun u hm => by
      obtain ⟨j, hj⟩ := List.getElem?_of_mem (List.mem_of_mem_drop hm)
      obtain ⟨_, h1, h2, _⟩ := g.u.each j u hj
      exact ⟨h1, h2⟩
    have nt1 : ∀ fs, notTup (.ins L.C dx fs) = true := fun _ => rfl
    have hl6 : (us.drop 1).length ≤ 6 := by rw [List.length_drop]; have := g.u.hi; omega
    have lenr : ∀ fn : Str × Int → Int, (((us.drop 1).map fn).map V.int).length ≤ 6 := fun fn => by rw [List.length_map, List.length_map]; exact hl6
    refine ⟨fun σ' H' => ∃ st, σ' = [some (.ref p), some (.ref ua), some (.int (dn : Int)), some (.str rs), some (.bl cy), some (.int lt), none] ∧ But p H H' ∧ H' p = some (.ins L.C dx (putF "steps" (.ref st) (putF "told" (.ref t) (fs5 ua dn rs cy lt)))) ∧
      SqT K H' t [.ref ua, .int (dn : Int), .str rs, .bl cy, .int lt] ∧ SqT K H' st ((stepsOf us dn).map V.int), ?_, ?_⟩
    · refine ⟨(by show 1 ≤ sizeLine; decide), fun x nx => ?_⟩
      have sx := same_upd nx (o := .tup [.int 1])
      obtain ⟨ps, ha, hu⟩ := (hU.but hp nt b3).same sx
      have el := UP.len hu
      refine comp_units (paired_drop 1 hu) hl6 (fun Qt hq => rest_of (te := tVar 1) ha (by rw [List.length_map, el]; exact g.u.lo) (fun Qt h => ⟨_, rfl, h⟩) (fun c H1 s1 h => hq c H1 s1 (by rw [List.map_drop]; exact h))) (fn := fun u => u.2 / 10 ^ dn) ?_ (fun y => rfl) ?_
      · intro pu u H4 Qe hm sm hs q4
        exact ⟨.ref pu, rfl, pu, _, 1, .int u.2, rfl, rfl, hs, rfl, .int (dn : Int), rfl, a2, _, dn, _, rfl, rfl, g3 H4, parts_at g.d3, u.2, _, rfl, rfl, ⟨pow_lo dn, Int.lt_of_le_of_lt (pow_hi g.d3) (by decide)⟩, q4⟩
      · intro D H4 sm nD hD
        have hx4 : H4 x = some (.tup [.int 1]) := sm _ _ upd_same
        have fin : ∀ (st : Addr) (H5 : Hp), Same H4 H5 → SqT K H5 st ((stepsOf us dn).map V.int) → H5 p = some (.ins L.C dx (putF "told" (.ref t) (fs5 ua dn rs cy lt))) ∧ ∀ o, But p H (upd H5 p o) ∧ SqT K (upd H5 p o) t [.ref ua, .int (dn : Int), .str rs, .bl cy, .int lt] ∧ SqT K (upd H5 p o) st ((stepsOf us dn).map V.int) := fun st H5 s5 hst => by
          have s35 := (sx.trans sm).trans s5
          have hp5 := s35 _ _ hp3
          exact ⟨hp5, fun o => ⟨b3.trans ((Same.but s35).trans (But.upd _ _ _)), (But.upd _ _ _).sqt hp5 rfl (same_sqt s35 ht3), (But.upd _ _ _).sqt hp5 rfl hst⟩⟩
        refine .inl ⟨D, _, rfl, SqL.of hD, fun r nr => ?_⟩
        have sr := same_upd nr (o := .tup (((us.drop 1).map fun u => u.2 / 10 ^ dn).map V.int))
        refine ⟨x, r, [.int 1], ((us.drop 1).map fun u => u.2 / 10 ^ dn).map V.int, rfl, rfl, SqT.of (sr _ _ hx4), SqT.of upd_same, Nat.le_trans (Nat.add_le_add_left (lenr _) 1) (by decide), (fun z => nomatch z), fun _ z => ?_, fun _ z y ny => ?_⟩
        · obtain ⟨f1, f2⟩ := fin x _ sr (SqT.of (by
            have e : (stepsOf us dn).map V.int = [.int 1] := by unfold stepsOf; rw [List.map_cons, z]
            rw [e]
            exact sr _ _ hx4))
          obtain ⟨f3, f4, f5⟩ := f2 (.ins L.C dx (putF "steps" (.ref x) (putF "told" (.ref t) (fs5 ua dn rs cy lt))))
          exact ⟨_, rfl, p, L.C, dx, _, rfl, f1, cl, L.nSteps, Nat.lt_of_le_of_lt lt6 (by decide), x, rfl, f3, upd_same, f4, f5⟩
        · obtain ⟨f1, f2⟩ := fin y _ (sr.trans (same_upd ny)) (SqT.of upd_same)
          obtain ⟨f3, f4, f5⟩ := f2 (.ins L.C dx (putF "steps" (.ref y) (putF "told" (.ref t) (fs5 ua dn rs cy lt))))
          exact ⟨_, rfl, p, L.C, dx, _, rfl, f1, cl, L.nSteps, Nat.lt_of_le_of_lt lt6 (by decide), y, rfl, f3, upd_same, f4, f5⟩
    rintro σ' H6 ⟨st, rfl, b6, hp6, ht6, hs6⟩
    -- the thresholds
    refine ⟨(by show 1 ≤ sizeLine; decide), fun x nx => ?_⟩
    have sx := same_upd nx (o := .tup [.int 0])
    obtain ⟨ps, ha, hu⟩ := (hU.but hp nt b6).same sx
    have el := UP.len hu
    refine comp_units (paired_drop 1 hu) hl6 (fun Qt hq => rest_of (te := tVar 1) ha (by rw [List.length_map, el]; exact g.u.lo) (fun Qt h => ⟨_, rfl, h⟩) (fun c H1 s1 h => hq c H1 s1 (by rw [List.map_drop]; exact h))) (fn := fun u => u.2 * lt) ?_ (fun y => rfl) ?_
    · intro pu u H4 Qe hm sm hs q4
      obtain ⟨k1, k2⟩ := each u hm
      exact ⟨.ref pu, rfl, pu, _, 1, .int u.2, rfl, rfl, hs, rfl, .int lt, rfl, u.2, lt, rfl, rfl, .inl ⟨by omega, by omega⟩, q4⟩
    · intro D H4 sm nD hD
      have hx4 : H4 x = some (.tup [.int 0]) := sm _ _ upd_same
      have fin : ∀ (th : Addr) (H5 : Hp), Same H4 H5 → SqT K H5 th ((thrsOf us lt).map V.int) → H5 p = some (.ins L.C dx (putF "steps" (.ref st) (putF "told" (.ref t) (fs5 ua dn rs cy lt)))) ∧ Q .non (upd H5 p (.ins L.C dx (flds ua dn rs cy lt t st th))) := fun th H5 s5 hth => by
        have s35 := (sx.trans sm).trans s5
        have hp5 := s35 _ _ hp6
        exact ⟨hp5, q _ t st th (b6.trans ((Same.but s35).trans (But.upd _ _ _))) upd_same ((But.upd _ _ _).sqt hp5 rfl (same_sqt s35 ht6)) ((But.upd _ _ _).sqt hp5 rfl (same_sqt s35 hs6)) ((But.upd _ _ _).sqt hp5 rfl hth)⟩
      refine .inl ⟨D, _, rfl, SqL.of hD, fun r nr => ?_⟩
      have sr := same_upd nr (o := .tup (((us.drop 1).map fun u => u.2 * lt).map V.int))
      refine ⟨x, r, [.int 0], ((us.drop 1).map fun u => u.2 * lt).map V.int, rfl, rfl, SqT.of (sr _ _ hx4), SqT.of upd_same, Nat.le_trans (Nat.add_le_add_left (lenr _) 1) (by decide), (fun z => nomatch z), fun _ z => ?_, fun _ z y ny => ?_⟩
      · obtain ⟨f1, f2⟩ := fin x _ sr (SqT.of (by
          have e : (thrsOf us lt).map V.int = [.int 0] := by unfold thrsOf; rw [List.map_cons, z]
          rw [e]
          exact sr _ _ hx4))
        exact ⟨_, rfl, p, L.C, dx, _, rfl, f1, cl, L.nThr, Nat.lt_of_le_of_lt (lt7 _) (by decide), f2⟩
      · obtain ⟨f1, f2⟩ := fin y _ (sr.trans (same_upd ny)) (SqT.of upd_same)
        exact ⟨_, rfl, p, L.C, dx, _, rfl, f1, cl, L.nThr, Nat.lt_of_le_of_lt (lt7 _) (by decide), f2⟩
end
end My

namespace My
open PySem PySem.Spec PyProof.Rows L2
abbrev sWritten : Stmt := top 28
abbrev sCLad : Stmt := top 35
theorem scCLad : FnScope ["ladder"] ["ladder"] (defScope sCLad) := ⟨rfl, rfl, rfl, by decide +kernel, rfl, by decide +kernel, by decide +kernel⟩
/-! ### the mirror -/
def goesUp (b r st : Int) (s : Str) : Bool :=
  if s = "up" then decide (0 < r) else if s = "near" then decide (st ≤ 2 * r) else if s = "even" then decide (st < 2 * r) || (decide (2 * r = st) && decide (b % 2 = 1)) else false
def rnd (n st : Int) (s : Str) : Int := if goesUp (n / st) (n % st) st s = true then n / st + 1 else n / st
/-- a ladder stands at p -/
def LadAt (K : PySem.W.Frag) (C : Addr) (H : Hp) (p : Addr) (us : List (Str × Int)) (d : Nat) (s : Str) (c : Bool) (l : Int) : Prop :=
  ∃ dx ua t st th, H p = some (.ins C dx (flds ua d s c l t st th)) ∧ UA K H ua us ∧ SqT K H t [.ref ua, .int (d : Int), .str s, .bl c, .int l] ∧ SqT K H st ((stepsOf us d).map V.int) ∧ SqT K H th ((thrsOf us l).map V.int)
theorem LadAt.same {K : PySem.W.Frag} {C : Addr} {H H' : Hp} {p : Addr} {us : List (Str × Int)} {d : Nat} {s : Str} {c : Bool} {l : Int} (k : Same H H') (h : LadAt K C H p us d s c l) : LadAt K C H' p us d s c l := by
  obtain ⟨dx, ua, t, st, th, h1, h2, h3, h4, h5⟩ := h
  exact ⟨dx, ua, t, st, th, k _ _ h1, h2.same k, same_sqt k h3, same_sqt k h4, same_sqt k h5⟩
theorem len_steps (us : List (Str × Int)) (d : Nat) (h : 1 ≤ us.length) : (stepsOf us d).length = us.length := by
  unfold stepsOf
  rw [List.length_cons, List.length_map, List.length_drop]
  omega
theorem len_thrs (us : List (Str × Int)) (l : Int) (h : 1 ≤ us.length) : (thrsOf us l).length = us.length := by
  unfold thrsOf
  rw [List.length_cons, List.length_map, List.length_drop]
  omega
def spGoes : Sp := fun vs H Q _ => ∃ (b r st : Int) (s : Str), vs = [.int b, .int r, .int st, .str s] ∧ Q (.bl (goesUp b r st s)) H
def spRounded : Sp := fun vs H Q _ => ∃ (n st : Int) (s : Str), vs = [.int n, .int st, .str s] ∧ 0 < st ∧ st.natAbs < 2 ^ 64 ∧ ∀ H', Same H H' → Q (.int (rnd n st s)) H'
def isCar (us : List (Str × Int)) (d : Nat) (c : Bool) (l : Int) (p : Nat) (m : Int) : Bool := c && (decide (p + 1 < us.length) && decide ((thrsOf us l).getD (p + 1) 0 ≤ m * (stepsOf us d).getD p 0))
def spCar (K : PySem.W.Frag) (C : Addr) : Sp := fun vs H Q _ => ∃ (a : Addr) (us : List (Str × Int)) (d : Nat) (s : Str) (c : Bool) (l : Int) (p : Nat) (m : Int), vs = [.ref a, .int (p : Int), .int m] ∧ LadAt K C H a us d s c l ∧ Good us d s l ∧ p < us.length ∧ Q (.bl (isCar us d c l p m)) H
def spCLad (K : PySem.W.Frag) (C : Addr) : Sp := fun vs H Q _ => ∃ (a : Addr) (us : List (Str × Int)) (d : Nat) (s : Str) (c : Bool) (l : Int), vs = [.ref a] ∧ LadAt K C H a us d s c l ∧ Q .non H
def spCNum : Sp := fun vs H Q _ => ∃ n : Int, vs = [.int n] ∧ 0 ≤ n ∧ n ≤ 1000000000000000000 ∧ Q .non H
/-- what isinstance asks of the class -/
structure LadI (K : PySem.W.Frag) (C : Addr) : Prop where
  i1 : PySem.W.findIn K (.ref C) "__class__" = some (some (.builtin "object.__class__"))
  i2 : PySem.W.specialIn K (.builtin "object.__class__") "__get__" = some (some (.builtin "getset_descriptor.__get__"))
  i3 : PySem.W.takesIn K (.builtin "object.__class__") = some true
  i4 : PySem.W.mroIn K C (.type "object") = some true
  i5 : PySem.W.kitOne K (.ref C) (.ref C) = some true
theorem steps_ok {us : List (Str × Int)} {d : Nat} {s : Str} {l : Int} (g : Good us d s l) {p : Nat} (hp : p < us.length) : (stepsOf us d)[p]? = some ((stepsOf us d).getD p 0) ∧ 0 < (stepsOf us d).getD p 0 ∧ (stepsOf us d).getD p 0 ≤ 1000000000000000000 := by
  have e := len_steps us d g.u.lo
  have h1 : (stepsOf us d)[p]? = some (stepsOf us d)[p] := List.getElem?_eq_getElem (by omega)
  have h2 : (stepsOf us d).getD p 0 = (stepsOf us d)[p] := by rw [List.getD_eq_getElem?_getD, h1]; rfl
  rw [h2]
  refine ⟨h1, ?_⟩
  have hm : (stepsOf us d)[p] ∈ stepsOf us d := List.getElem_mem _
  unfold stepsOf at hm
  rcases List.mem_cons.mp hm with z | z
  · have e2 : (stepsOf us d)[p] = 1 := z
    rw [e2]
    exact ⟨by decide, by decide⟩
  · obtain ⟨u, hu, e2⟩ := List.mem_map.mp z
    have e3 : u.2 / 10 ^ d = (stepsOf us d)[p] := e2
    rw [← e3]
    obtain ⟨j, hj⟩ := List.getElem?_of_mem (List.mem_of_mem_drop hu)
    obtain ⟨_, k1, k2, _⟩ := g.u.each j u hj
    have hz := g.div u hu
    have hp := pow_lo d
    have hq : (2 * 10 ^ d : Int) ∣ u.2 := Int.dvd_of_emod_eq_zero hz
    obtain ⟨q, hq⟩ := hq
    have e4 : u.2 / 10 ^ d = 2 * q := by
      rw [hq, show (2 * 10 ^ d * q : Int) = 2 * q * 10 ^ d by rw [Int.mul_assoc, Int.mul_assoc, Int.mul_comm (10 ^ d) q]]
      exact Int.mul_ediv_cancel _ (by omega)
    have hqpos : 0 < q := by
      rcases Int.lt_or_le 0 q with z | z
      · exact z
      · exfalso
        have : 2 * 10 ^ d * q ≤ 0 := Int.mul_nonpos_of_nonneg_of_nonpos (by omega) z
        omega
    constructor
    · omega
    · have : u.2 / 10 ^ d ≤ u.2 := Int.ediv_le_self _ (by omega)
      omega
section
variable {P : Program} {w : World} {K : PySem.W.Frag} {mg : Str → Option Value} {base : Heap}
theorem ok_clad (d : Dd K mg "check_ladder" sCLad ["ladder"]) (L : LadC K mg) (I : LadI K L.C) (B : Bt mg) : FnOk P w K mg base CX0 2 d.f d.fd ["ladder"] (spCLad K L.C) := by
  refine d.F.ok scCLad (fun vs H Q E h => ?_) (fun cdv A outer s H vs Q E hr h => ?_)
  · obtain ⟨_, _, _, _, _, _, rfl, _⟩ := h
    rfl
  · obtain ⟨a, us, dn, z, c, l, rfl, ⟨dx, ua, t, st, th, hp, _⟩, q⟩ := h
    refine ⟨_, pss_one (ps_if (pt_not (pt_val (pe_callB call_isi (by rfl) B.isinstance (by decide +kernel) (pa_cons (pv 0) (pa_cons (pe_glob (v := .ref L.C) (by rfl) L.g rfl) pa_nil))))) (pss_one ps_never) pss_nil), ?_⟩
    exact ⟨_, rfl, _, _, _, _, true, rfl, .own L.C, .base (.ins hp L.cl I.i1 I.i2 I.i3 I.i4), I.i5, _, rfl, iteF q⟩
end
end My

namespace My
open PySem PySem.Spec PyProof.Rows L2
/-! ### texts as lists of signs -/
theorem str_ext {x y : Str} (h : x.cps.toList = y.cps.toList) : x = y := by
  cases x
  cases y
  exact congrArg Str.mk (Array.toList_inj.mp h)
theorem str_app (x y : Str) : (x ++ y).cps.toList = x.cps.toList ++ y.cps.toList := Array.toList_append
theorem str_len (x : Str) : x.length = x.cps.toList.length := by show x.cps.size = _; simp
/-- the signs of a number -/
def dg (m : Int) : List Nat := (Str.ofString (toString m)).cps.toList
theorem dg_digits {m : Int} (h : 0 ≤ m) : ∀ c ∈ dg m, 48 ≤ c ∧ c ≤ 57 := by
  obtain ⟨k, rfl⟩ := Int.eq_ofNat_of_zero_le h
  intro c hc
  unfold dg at hc
  rw [PySem.W.KIN.signs_num] at hc
  obtain ⟨ch, hch, e⟩ := List.mem_map.mp hc
  have r := PyProof.Rows.digit_range (Nat.isDigit_of_mem_toDigits (by decide) (by decide) hch)
  rw [← e]
  exact r
theorem dg_pos {m : Int} (h : 0 ≤ m) : 1 ≤ (dg m).length := by
  obtain ⟨k, rfl⟩ := Int.eq_ofNat_of_zero_le h
  unfold dg
  rw [PySem.W.KIN.signs_num, List.length_map]
  exact toDigits_len_ge 10 k
theorem dg_small {m : Int} (h2 : m.natAbs < 10 ^ 40) : (dg m).length ≤ 41 := by
  unfold dg
  rw [← str_len]
  have e := PySem.int_text_length_le10 (a := m) (k := 40) (by decide) h2
  rw [PySem.ofString_length]
  exact e
/-- a number filled with zeros -/
def zf (d : Nat) (m : Int) : List Nat := List.replicate (d + 1 - (dg m).length) 48 ++ dg m
theorem zf_len (d : Nat) (m : Int) : (zf d m).length = max (d + 1) (dg m).length := by
  unfold zf
  rw [List.length_append, List.length_replicate]
  omega
def body (d : Nat) (m : Int) : List Nat := (zf d m).take ((zf d m).length - d) ++ 46 :: (zf d m).drop ((zf d m).length - d)
/-- the figure of a place and a mark -/
def writ (us : List (Str × Int)) (d p : Nat) (m : Int) : Str := if p = 0 ∨ d = 0 then Str.ofString (toString m) ++ (us.getD p ("", 0)).1 else ⟨(body d m).toArray⟩ ++ (us.getD p ("", 0)).1
theorem zfill_zf {d : Nat} {m : Int} (h : 0 ≤ m) : (Txt.zfill (Str.ofString (toString m)) ((d : Int) + 1)).cps.toList = zf d m := by
  have hl : (Str.ofString (toString m)).length = (dg m).length := str_len _
  unfold Txt.zfill
  rw [hl]
  by_cases c : ((d : Int) + 1) ≤ ((dg m).length : Int)
  · rw [if_pos c]
    unfold zf
    rw [show d + 1 - (dg m).length = 0 by omega]
    rfl
  · rw [if_neg c]
    have e1 : ((d : Int) + 1).toNat - (dg m).length = d + 1 - (dg m).length := by omega
    rw [e1]
    have hp := dg_pos h
    obtain ⟨c0, r, e2⟩ : ∃ c0 r, dg m = c0 :: r := by
      cases e : dg m with
      | nil => rw [e] at hp; exact absurd hp (by decide)
      | cons a l => exact ⟨a, l, rfl⟩
    have hc0 := dg_digits h c0 (by rw [e2]; exact List.mem_cons_self ..)
    have e3 : (Str.ofString (toString m)).cps[0]? = some c0 := by
      rw [← Array.getElem?_toList]
      show (dg m)[0]? = some c0
      rw [e2]
      rfl
    unfold zfilled
    rw [e3]
    split
    · rename_i q; have := Option.some.inj q; omega
    · rename_i q; have := Option.some.inj q; omega
    · unfold Builtin.Str.padded zf dg
      simp
theorem cut_to {z : Str} {d : Nat} (h1 : 1 ≤ d) : (cutS z none (some (-(d : Int)))).cps.toList = z.cps.toList.take (z.cps.toList.length - d) := by
  unfold cutS
  have e : HT.sIx z.length z.length (some (-(d : Int))) = z.length - d := by
    show (if (-(d : Int)) < 0 then ((-(d : Int)) + (z.length : Int)).toNat else min (-(d : Int)).toNat z.length) = _
    rw [if_pos (by omega)]
    omega
  rw [HT.sIx_none, e, str_len]
  simp
theorem cut_from {z : Str} {d : Nat} (h1 : 1 ≤ d) : (cutS z (some (-(d : Int))) none).cps.toList = z.cps.toList.drop (z.cps.toList.length - d) := by
  unfold cutS
  have e : HT.sIx z.length 0 (some (-(d : Int))) = z.length - d := by
    show (if (-(d : Int)) < 0 then ((-(d : Int)) + (z.length : Int)).toNat else min (-(d : Int)).toNat z.length) = _
    rw [if_pos (by omega)]
    omega
  rw [HT.sIx_none, e, str_len]
  simp only [List.toList_toArray]
  refine List.take_of_length_le ?_
  rw [List.length_drop]
  exact Nat.le_refl _
theorem cut_ton {z : Str} {k : Nat} (h1 : k ≤ z.cps.toList.length) : (cutS z none (some (k : Int))).cps.toList = z.cps.toList.take k := by
  unfold cutS
  rw [HT.sIx_none, HT.sIx_nat, str_len, Nat.min_eq_left h1]
  simp
theorem cut_fromn {z : Str} {k : Nat} (h1 : k ≤ z.cps.toList.length) : (cutS z (some (k : Int)) none).cps.toList = z.cps.toList.drop k := by
  unfold cutS
  rw [HT.sIx_none, HT.sIx_nat, str_len, Nat.min_eq_left h1]
  simp only [List.toList_toArray]
  refine List.take_of_length_le ?_
  rw [List.length_drop]
  exact Nat.le_refl _
theorem fold_app (n : Nat) : ∀ a : Array Nat, ((List.replicate n (#[48] : Array Nat)).foldl (· ++ ·) a).toList = a.toList ++ List.replicate n 48 := by
  induction n with
  | zero => intro a; simp
  | succ n ih =>
    intro a
    rw [List.replicate_succ, List.foldl_cons, ih]
    simp [List.replicate_succ]
theorem mul_zero (k : Int) : (Txt.mul ("0" : Str) k).cps.toList = List.replicate k.toNat 48 := by
  unfold Txt.mul
  by_cases h : k < 1
  · rw [if_pos h, show k.toNat = 0 by omega]
    rfl
  · rw [if_neg h]
    by_cases h1 : k = 1
    · subst h1
      rfl
    · have e : (k == 1 || ("0" : Str).length == 0) = false := by
        have e1 : (k == 1) = false := by simpa using h1
        rw [e1]
        rfl
      rw [e, if_neg Bool.false_ne_true]
      have e2 : ("0" : Str).cps = #[48] := rfl
      show ((List.replicate k.toNat ("0" : Str).cps).foldl (· ++ ·) #[]).toList = _
      rw [e2, fold_app]
      rfl
end My

namespace My
open PySem PySem.Spec PyProof.Rows L2
theorem scWritten : FnScope ["ladder", "place", "mark", "name", "digits"] ["ladder", "place", "mark"] (defScope sWritten) := ⟨rfl, rfl, rfl, by decide +kernel, rfl, by decide +kernel, by decide +kernel⟩
def cntOf (us : List (Str × Int)) (l n : Int) : Nat := ((thrsOf us l).filter fun t => decide (t ≤ n)).length
def placeOf (us : List (Str × Int)) (l n : Int) : Nat := cntOf us l n - 1
theorem cnt_pos {us : List (Str × Int)} {l n : Int} (h : 0 ≤ n) : 1 ≤ cntOf us l n := by
  unfold cntOf thrsOf
  rw [List.filter_cons, if_pos (decide_eq_true h), List.length_cons]
  omega
theorem cnt_le {us : List (Str × Int)} {l n : Int} (h : 1 ≤ us.length) : cntOf us l n ≤ us.length := by
  unfold cntOf
  rw [← len_thrs us l h]
  exact List.length_filter_le _ _
/-- the place and the mark by which a number is shown -/
def placedM (us : List (Str × Int)) (d : Nat) (s : Str) (c : Bool) (l n : Int) : Nat × Int :=
  if isCar us d c l (placeOf us l n) (rnd n ((stepsOf us d).getD (placeOf us l n) 0) s) = true
  then (placeOf us l n + 1, rnd n ((stepsOf us d).getD (placeOf us l n + 1) 0) s)
  else (placeOf us l n, rnd n ((stepsOf us d).getD (placeOf us l n) 0) s)
def spPlaced (K : PySem.W.Frag) (C : Addr) : Sp := fun vs H Q _ => ∃ (a : Addr) (us : List (Str × Int)) (d : Nat) (s : Str) (c : Bool) (l n : Int), vs = [.ref a, .int n] ∧ LadAt K C H a us d s c l ∧ Good us d s l ∧ 0 ≤ n ∧
  ∀ (r : Addr) (H' : Hp), Same H H' → SqT K H' r [.int ((placedM us d s c l n).1 : Int), .int (placedM us d s c l n).2] → Q (.ref r) H'
def spWritten (K : PySem.W.Frag) (C : Addr) : Sp := fun vs H Q _ => ∃ (a : Addr) (us : List (Str × Int)) (d : Nat) (s : Str) (c : Bool) (l : Int) (p : Nat) (m : Int), vs = [.ref a, .int (p : Int), .int m] ∧ LadAt K C H a us d s c l ∧ Good us d s l ∧ p < us.length ∧ 0 ≤ m ∧ m < 10 ^ 40 ∧ Q (.str (writ us d p m)) H
theorem isCar_lt {us : List (Str × Int)} {d : Nat} {c : Bool} {l : Int} {p : Nat} {m : Int} (h : isCar us d c l p m = true) : p + 1 < us.length := by
  unfold isCar at h
  rw [Bool.and_eq_true, Bool.and_eq_true] at h
  exact of_decide_eq_true h.2.1
theorem name_small {us : List (Str × Int)} (g : GoodUs us) (p : Nat) : (us.getD p ("", 0)).1.length ≤ 3 := by
  rw [List.getD_eq_getElem?_getD]
  cases e : us[p]? with
  | none => decide
  | some u => exact (g.each p u e).1.1
section
variable {P : Program} {w : World} {K : PySem.W.Frag} {mg : Str → Option Value} {base : Heap}
end
end My

namespace My
open PySem PySem.Spec PyProof.Rows L2
theorem pad_ok {d : Nat} (h : d ≤ 3) : PadOk ((d : Int) + 1) = true := by
  match d, h with
  | 0, _ => decide +kernel
  | 1, _ => decide +kernel
  | 2, _ => decide +kernel
  | 3, _ => decide +kernel
  | n + 4, h => omega
theorem small41 {n k : Nat} (h : n ≤ 41) (hk : k ≤ 50) : n + k ≤ sizeLine := Nat.le_trans (Nat.add_le_add h hk) (by decide)
theorem rnd_lo {n st : Int} {s : Str} (h0 : 0 ≤ n) (h1 : 0 < st) : 0 ≤ rnd n st s ∧ rnd n st s ≤ n + 1 := by
  unfold rnd
  have a := Int.ediv_nonneg h0 (Int.le_of_lt h1)
  have b := Int.ediv_le_self st h0
  split <;> omega
theorem placedM_ok {us : List (Str × Int)} {d : Nat} {s : Str} {c : Bool} {l n : Int} (g : Good us d s l) (h0 : 0 ≤ n) : (placedM us d s c l n).1 < us.length ∧ 0 ≤ (placedM us d s c l n).2 ∧ (placedM us d s c l n).2 ≤ n + 1 := by
  have hc1 := cnt_pos (us := us) (l := l) h0
  have hc2 := cnt_le (l := l) (n := n) g.u.lo
  have hpl : placeOf us l n < us.length := by unfold placeOf; omega
  unfold placedM
  split
  · rename_i e
    have hp1 := isCar_lt e
    obtain ⟨k1, k2, k3⟩ := steps_ok g hp1
    exact ⟨hp1, rnd_lo h0 k2⟩
  · obtain ⟨k1, k2, k3⟩ := steps_ok g hpl
    exact ⟨hpl, rnd_lo h0 k2⟩
/-- the figure of a number -/
def shown (us : List (Str × Int)) (d : Nat) (s : Str) (c : Bool) (l n : Int) : Str := writ us d (placedM us d s c l n).1 (placedM us d s c l n).2
def spShow (K : PySem.W.Frag) (C : Addr) : Sp := fun vs H Q _ => ∃ (a : Addr) (us : List (Str × Int)) (d : Nat) (s : Str) (c : Bool) (l n : Int), vs = [.ref a, .int n] ∧ LadAt K C H a us d s c l ∧ Good us d s l ∧ 0 ≤ n ∧ n ≤ 1000000000000000000 ∧
  ∀ H', Same H H' → Q (.str (shown us d s c l n)) H'
def spFig (K : PySem.W.Frag) (C : Addr) : Sp := fun vs H Q _ => ∃ (a : Addr) (us : List (Str × Int)) (d : Nat) (s : Str) (c : Bool) (l n : Int), vs = [.ref a, .int n] ∧ LadAt K C H a us d s c l ∧ Good us d s l ∧ 0 ≤ n ∧ n ≤ 1000000000000000000000000000000 ∧
  ∀ H', Same H H' → Q (.str (shown us d s c l n)) H'
section
variable {P : Program} {w : World} {K : PySem.W.Frag} {mg : Str → Option Value} {base : Heap}
theorem ok_written (d : Dd K mg "written" sWritten ["ladder", "place", "mark"]) (L : LadC K mg) (B : Bt mg) : FnOk P w K mg base CX0 2 d.f d.fd ["ladder", "place", "mark"] (spWritten K L.C) := by
  refine d.F.ok scWritten (fun vs H Q E h => ?_) (fun cdv A outer s H vs Q E hr h => ?_)
  · obtain ⟨_, _, _, _, _, _, _, _, rfl, _⟩ := h
    rfl
  · obtain ⟨a, us, dn, z, c, l, p, m, rfl, ⟨dx, ua, t, st, th, hp, ⟨ps, hua, hu⟩, ht, hs, hth⟩, g, hlt, hm, hm2, q⟩ := h
    have nd := scWritten.nd
    refine ⟨_, pss_cons (ps_set (i := 3) nd rfl (.inl rfl) (pe_ix ix_tup (pe_ix ix_tup (pe_fld (pv 0) rfl) (pv 1) (fun _ _ => rfl)) pe_int (fun _ _ => rfl)))
      (pss_cons (ps_set (i := 4) nd rfl (.inl rfl) (pe_callTy call_str_int (by rfl) B.str (by decide +kernel) (pa_cons (pv 2) pa_nil)))
      (pss_cons (ps_if (PW.pt (pw_or (pt_cmpR op_eq (pv 1) pe_int (nomark _)) (pw_or1 (pt_cmpR op_eq (pe_fld (pv 0) rfl) pe_int (nomark _))))) (pss_one (ps_ret (pe_op op_add_str (pv 4) (pv 3)))) pss_nil)
      (pss_cons (ps_set (i := 4) nd rfl (.inl rfl) (pe_bm PySem.F.plainAttrs_str PySem.F.slot_str_zfill PySem.F.type_str_zfill mt_zfill (pv 4) (pa_cons (pe_op op_add (pe_fld (pv 0) rfl) pe_int) pa_nil)))
      (pss_one (ps_ret (pe_op op_add_str (pe_op op_add_str (pe_op op_add_str (pe_slice sl_str (pv 4) po_none (po_some (pe_un un_neg (pe_fld (pv 0) rfl)))) pe_str) (pe_slice sl_str (pv 4) (po_some (pe_un un_neg (pe_fld (pv 0) rfl))) po_none)) (pv 3))))))), ?_⟩
    obtain ⟨u, hu2⟩ : ∃ u, us[p]? = some u := ⟨us[p], List.getElem?_eq_getElem hlt⟩
    obtain ⟨pu, hpu, hsu⟩ := paired_at hu hu2
    have eN : (us.getD p ("", 0)).1 = u.1 := by rw [List.getD_eq_getElem?_getD, hu2]; rfl
    have lN : u.1.length ≤ 3 := (g.u.each p u hu2).1.1
    have hm3 : m.natAbs < 10 ^ 40 := by omega
    have ld := dg_small hm3
    have hp1 := dg_pos hm
    have lds : (Str.ofString (toString m)).length = (dg m).length := str_len _
    unfold writ at q
    rw [eN] at q
    have hlog : m.natAbs.log2 < 1920 := Nat.lt_of_lt_of_le (PySem.Flt.log2_lt_of (k := 200) (by decide) (Nat.lt_trans hm3 (by decide))) (by decide)
    refine ⟨_, rfl, a, L.C, dx, _, _, rfl, hp, L.cl, L.nUnits, fl_units .., _, rfl, ua, _, p, .ref pu, rfl, rfl, hua, atI_nat (get_ref hpu), pu, _, 0, .str u.1, rfl, rfl, hsu, rfl, ?_⟩
    refine ⟨_, rfl, m, rfl, hlog, ?_⟩
    have add1 : (p = 0 ∨ dn = 0) → Q (.str (Str.ofString (toString m) ++ u.1)) H := fun e => by rw [if_pos e] at q; exact q
    refine ⟨_, rfl, rfl, _, rfl, ite2 (fun e => ?_) (fun e => ?_)⟩
    · have e0 : p = 0 := by have := V.int.inj (of_decide_eq_true e); omega
      refine iteT ?_
      exact ⟨_, rfl, _, rfl, _, _, rfl, rfl, by rw [lds]; exact small41 ld (Nat.le_trans lN (by decide)), add1 (.inl e0)⟩
    · have e0 : ¬ p = 0 := fun z => e (decide_eq_true (by rw [z]; rfl))
      refine ⟨_, rfl, a, L.C, dx, _, _, rfl, hp, L.cl, L.nDec, fl_dec .., rfl, _, rfl, ite2 (fun e1 => ?_) (fun e1 => ?_)⟩
      · have e2 : dn = 0 := by have := V.int.inj (of_decide_eq_true e1); omega
        exact ⟨_, rfl, _, rfl, _, _, rfl, rfl, by rw [lds]; exact small41 ld (Nat.le_trans lN (by decide)), add1 (.inr e2)⟩
      · have e2 : ¬ dn = 0 := fun z => e1 (decide_eq_true (by rw [z]; rfl))
        rw [if_neg (fun z => z.elim e0 e2)] at q
        have d3 := g.d3
        have ez : (Txt.zfill (Str.ofString (toString m)) ((dn : Int) + 1)).cps.toList = zf dn m := zfill_zf hm
        have lz : (Txt.zfill (Str.ofString (toString m)) ((dn : Int) + 1)).length ≤ 41 := by rw [str_len, ez, zf_len]; omega
        refine ⟨_, rfl, rfl, _, rfl, a, L.C, dx, _, _, rfl, hp, L.cl, L.nDec, fl_dec .., _, 1, rfl, rfl, _, _, rfl, rfl, pad_ok d3, ?_⟩
        generalize Txt.zfill (Str.ofString (toString m)) ((dn : Int) + 1) = zz at ez lz ⊢
        have c1 : (cutS zz none (some (-(dn : Int)))).cps.toList = (zf dn m).take ((zf dn m).length - dn) := by rw [cut_to (by omega), ez]
        have c2 : (cutS zz (some (-(dn : Int))) none).cps.toList = (zf dn m).drop ((zf dn m).length - dn) := by rw [cut_from (by omega), ez]
        have lzf : (zf dn m).length ≤ 41 := by rw [← ez, ← str_len]; exact lz
        have lc1 : (cutS zz none (some (-(dn : Int)))).length ≤ 41 := by rw [str_len, c1, List.length_take]; omega
        have lc2 : (cutS zz (some (-(dn : Int))) none).length ≤ 41 := by rw [str_len, c2, List.length_drop]; omega
        have fin : (cutS zz none (some (-(dn : Int))) ++ ("." : Str) ++ cutS zz (some (-(dn : Int))) none) = (⟨(body dn m).toArray⟩ : Str) := by
          refine str_ext ?_
          rw [str_app, str_app, c1, c2, List.append_assoc]
          rfl
        have lp : (cutS zz none (some (-(dn : Int))) ++ ("." : Str)).length ≤ 42 := by
          rw [str_len, str_app, List.length_append, ← str_len]
          exact Nat.add_le_add lc1 (Nat.le_refl 1)
        refine ⟨_, rfl, _, rfl, a, L.C, dx, _, _, rfl, hp, L.cl, L.nDec, fl_dec .., dn, rfl, -(dn : Int), rfl, zz, rfl, Nat.le_trans lz (by decide), _, ".", rfl, rfl, Nat.le_trans (Nat.add_le_add lc1 (Nat.le_refl 1)) (by decide), ?_⟩
        refine ⟨_, rfl, _, rfl, a, L.C, dx, _, _, rfl, hp, L.cl, L.nDec, fl_dec .., dn, rfl, -(dn : Int), rfl, zz, rfl, Nat.le_trans lz (by decide), _, _, rfl, rfl, Nat.le_trans (Nat.add_le_add lp lc2) (by decide), _, rfl, _, u.1, rfl, rfl, ?_, ?_⟩
        · rw [fin, str_len]
          show (body dn m).length + u.1.length ≤ sizeLine
          have lb : (body dn m).length ≤ 42 := by
            unfold body
            rw [List.length_append, List.length_take, List.length_cons, List.length_drop]
            omega
          exact Nat.le_trans (Nat.add_le_add lb lN) (by decide)
        · show Q (.str ((cutS zz none (some (-(dn : Int))) ++ ("." : Str) ++ cutS zz (some (-(dn : Int))) none) ++ u.1)) H
          rw [fin]
          exact q
end
end My

namespace My
open PySem PySem.Spec PyProof.Rows L2
def nms : List Str := ["", "K", "M", "g", "Tx", "abc"]
def nm6 (j : Nat) : Str := nms.getD (j % 6) ""
theorem nm6_good (j : Nat) : GoodN (nm6 j) := by
  have h : ∀ k, k < 6 → GoodN (nms.getD k "") := by
    intro k hk
    match k, hk with
    | 0, _ => exact ⟨by decide +kernel, by decide +kernel, by decide +kernel, by decide +kernel⟩
    | 1, _ => exact ⟨by decide +kernel, by decide +kernel, by decide +kernel, by decide +kernel⟩
    | 2, _ => exact ⟨by decide +kernel, by decide +kernel, by decide +kernel, by decide +kernel⟩
    | 3, _ => exact ⟨by decide +kernel, by decide +kernel, by decide +kernel, by decide +kernel⟩
    | 4, _ => exact ⟨by decide +kernel, by decide +kernel, by decide +kernel, by decide +kernel⟩
    | 5, _ => exact ⟨by decide +kernel, by decide +kernel, by decide +kernel, by decide +kernel⟩
    | n + 6, h => omega
  exact h _ (Nat.mod_lt _ (by decide))
theorem nms_inj : ∀ x, x < 6 → ∀ y, y < 6 → nms.getD x "" = nms.getD y "" → x = y := by decide +kernel
theorem nm6_inj {a b : Nat} (h : nm6 a = nm6 b) : a % 6 = b % 6 := nms_inj _ (Nat.mod_lt _ (by decide)) _ (Nat.mod_lt _ (by decide)) h
/-- good units, or none -/
structure GU (us : List (Str × Int)) : Prop where
  hi : us.length ≤ 6
  each : ∀ i u, us[i]? = some u → GoodN u.1 ∧ 1 ≤ u.2 ∧ u.2 ≤ 1000000000000000000 ∧ Fit (us.take i) u
theorem GU.good {us : List (Str × Int)} (g : GU us) (h : 1 ≤ us.length) : GoodUs us := ⟨h, g.hi, g.each⟩
theorem GU.nil : GU [] := ⟨by decide, fun i u h => by simp at h⟩
theorem GU.snoc {us : List (Str × Int)} {u : Str × Int} (g : GU us) (hl : us.length < 6) (h1 : GoodN u.1) (h2 : 1 ≤ u.2) (h3 : u.2 ≤ 1000000000000000000) (h4 : Fit us u) : GU (us ++ [u]) := by
  refine ⟨by rw [List.length_append]; show us.length + 1 ≤ 6; omega, fun i v hv => ?_⟩
  rcases Nat.lt_or_ge i us.length with hi | hi
  · rw [List.getElem?_append_left hi] at hv
    rw [List.take_append_of_le_length (Nat.le_of_lt hi)]
    exact g.each i v hv
  · rw [List.getElem?_append_right hi] at hv
    have e : i - us.length = 0 := by
      have := (List.getElem?_eq_some_iff.mp hv).1
      simp at this
      omega
    rw [e] at hv
    have ev : u = v := Option.some.inj hv
    subst ev
    have ei : i = us.length := by omega
    subst ei
    rw [List.take_left]
    exact ⟨h1, h2, h3, h4⟩
theorem GU.take {us : List (Str × Int)} (g : GU us) (k : Nat) : GU (us.take k) := by
  refine ⟨Nat.le_trans (by rw [List.length_take]; omega) g.hi, fun i u hu => ?_⟩
  rw [List.getElem?_take] at hu
  split at hu
  · rename_i hik
    rw [List.take_take, Nat.min_eq_left (Nat.le_of_lt hik)]
    exact g.each i u hu
  · cases hu
/-- what the next size may be -/
def Next (us : List (Str × Int)) (z : Int) : Prop := (us = [] ∧ z = 1) ∨ ∃ l, us[us.length - 1]? = some l ∧ us ≠ [] ∧ 0 < l.2 ∧ l.2 < z ∧ z % l.2 = 0 ∧ z % 2 = 0 ∧ z ≤ 120000 * 21 ^ (us.length - 1)
theorem pow21 {n : Nat} (h : n ≤ 5) : (120000 * 21 ^ n : Int) ≤ 490092120000 := by
  match n, h with
  | 0, _ => decide
  | 1, _ => decide
  | 2, _ => decide
  | 3, _ => decide
  | 4, _ => decide
  | 5, _ => decide
  | n + 6, h => omega
theorem Next.fit {us : List (Str × Int)} {z : Int} {n : Str} (h : Next us z) (hn : ∀ v ∈ us, v.1 ≠ n) : Fit us (n, z) := by
  rcases h with ⟨h1, h2⟩ | ⟨l, h1, h2, h3, h4, h5, _⟩
  · exact .inl ⟨h1, h2⟩
  · exact .inr ⟨l, h1, h2, h3, h4, h5, hn⟩
theorem Next.size {us : List (Str × Int)} {z : Int} (h : Next us z) (hl : us.length ≤ 6) : 1 ≤ z ∧ z ≤ 490092120000 := by
  rcases h with ⟨h1, h2⟩ | ⟨l, h1, h2, h3, h4, h5, _, h6⟩
  · omega
  · have := pow21 (n := us.length - 1) (by omega)
    omega
theorem last_snoc {us : List (Str × Int)} {u : Str × Int} : (us ++ [u])[(us ++ [u]).length - 1]? = some u := by
  rw [List.length_append]
  show (us ++ [u])[us.length + 1 - 1]? = _
  rw [Nat.add_sub_cancel, List.getElem?_append_right (Nat.le_refl _), Nat.sub_self]
  rfl
theorem Next.first {part r : Int} {n : Str} (hp : 2 ≤ part) (hp2 : part ≤ 2000) (he : part % 2 = 0) (h0 : 0 ≤ r) (h1 : r < 60) : Next [(n, 1)] (part * (1 + r)) := by
  have a1 : part * 1 ≤ part * (1 + r) := Int.mul_le_mul_of_nonneg_left (by omega) (by omega)
  have a2 : part * (1 + r) ≤ 2000 * (1 + r) := Int.mul_le_mul_of_nonneg_right hp2 (by omega)
  refine .inr ⟨(n, 1), rfl, by simp, (by show (0 : Int) < 1; decide), ?_, Int.emod_one _, ?_, ?_⟩
  · show (1 : Int) < part * (1 + r)
    omega
  · rw [Int.mul_emod, he, Int.zero_mul]
    rfl
  · show part * (1 + r) ≤ 120000 * 21 ^ 0
    omega
theorem Next.more {us : List (Str × Int)} {z r : Int} {n : Str} (h : Next us z) (hne : us ≠ []) (h0 : 0 ≤ r) (h1 : r < 20) : Next (us ++ [(n, z)]) (z * (2 + r)) := by
  rcases h with ⟨h2, _⟩ | ⟨l, _, _, h3, h4, h5, h6, h7⟩
  · exact absurd h2 hne
  · have hz : 0 < z := by omega
    have a1 : z * 2 ≤ z * (2 + r) := Int.mul_le_mul_of_nonneg_left (by omega) (by omega)
    have a2 : z * (2 + r) ≤ z * 21 := Int.mul_le_mul_of_nonneg_left (by omega) (by omega)
    refine .inr ⟨(n, z), last_snoc, by simp, hz, ?_, Int.mul_emod_right _ _, ?_, ?_⟩
    · show z < z * (2 + r)
      omega
    · rw [Int.mul_emod, h6, Int.zero_mul]
      rfl
    · have hl : 1 ≤ us.length := List.length_pos_iff.mpr hne
      have e : (us ++ [(n, z)]).length - 1 = (us.length - 1) + 1 := by rw [List.length_append]; show us.length + 1 - 1 = _; omega
      rw [e, Int.pow_succ]
      have a3 : z * 21 ≤ (120000 * 21 ^ (us.length - 1)) * 21 := Int.mul_le_mul_of_nonneg_right h7 (by decide)
      rw [Int.mul_assoc] at a3
      omega
/-- thousands -/
def thou : List (Str × Int) := [("", 1), ("K", 1000), ("M", 1000000), ("G", 1000000000), ("T", 1000000000000)]
theorem gn_of {z : Str} (h1 : z.length ≤ 3) (h2 : Txt.stripChars z letters = "" ∧ PyData.strOk z = true ∧ z.cps.toList.all (letters.cps.contains ·) = true) : GoodN z := ⟨h1, h2⟩
theorem thou_gu : GU thou := by
  have g1 : GU [("", 1)] := GU.nil.snoc (u := ("", 1)) (by decide) (gn_of (by decide +kernel) (by decide +kernel)) (by decide) (by decide) (.inl ⟨rfl, rfl⟩)
  have g2 : GU [("", 1), ("K", 1000)] := g1.snoc (u := ("K", 1000)) (by decide) (gn_of (by decide +kernel) (by decide +kernel)) (by decide) (by decide) (.inr ⟨("", 1), rfl, by simp, by decide, by decide, by decide, by decide +kernel⟩)
  have g3 : GU [("", 1), ("K", 1000), ("M", 1000000)] := g2.snoc (u := ("M", 1000000)) (by decide) (gn_of (by decide +kernel) (by decide +kernel)) (by decide) (by decide) (.inr ⟨("K", 1000), rfl, by simp, by decide, by decide, by decide, by decide +kernel⟩)
  have g4 : GU [("", 1), ("K", 1000), ("M", 1000000), ("G", 1000000000)] := g3.snoc (u := ("G", 1000000000)) (by decide) (gn_of (by decide +kernel) (by decide +kernel)) (by decide) (by decide) (.inr ⟨("M", 1000000), rfl, by simp, by decide, by decide, by decide, by decide +kernel⟩)
  exact g4.snoc (u := ("T", 1000000000000)) (by decide) (gn_of (by decide +kernel) (by decide +kernel)) (by decide) (by decide) (.inr ⟨("G", 1000000000), rfl, by simp, by decide, by decide, by decide, by decide +kernel⟩)
theorem thou_even (k : Nat) : ∀ u ∈ (thou.take k).drop 1, u.2 % 2 = 0 := by
  intro u hu
  have h1 : u ∈ thou.drop 1 := by
    rw [List.drop_take] at hu
    exact List.mem_of_mem_take hu
  unfold thou at h1
  simp only [List.drop_succ_cons, List.drop_zero, List.mem_cons, List.not_mem_nil, or_false] at h1
  rcases h1 with rfl | rfl | rfl | rfl <;> decide
def nms8 : List Str := ["", "K", "M", "g", "Tx", "abc", "G", "T"]
/-- no name is "one" (each is one of a few), and no size is great -/
def NoOne (us : List (Str × Int)) : Prop := ∀ u ∈ us, (u.1 ≠ "one" ∧ u.1 ∈ nms8) ∧ u.2 ≤ 1000000000000
theorem nm6_noone (j : Nat) : nm6 j ≠ "one" ∧ nm6 j ∈ nms8 := by
  have h : ∀ k, k < 6 → nms.getD k "" ≠ "one" ∧ nms.getD k "" ∈ nms8 := by decide +kernel
  exact h _ (Nat.mod_lt _ (by decide))
theorem thou_noone : NoOne thou := by
  intro u hu
  unfold thou at hu
  simp only [List.mem_cons, List.not_mem_nil, or_false] at hu
  rcases hu with rfl | rfl | rfl | rfl | rfl <;> decide +kernel
theorem thou_noone' (k : Nat) : NoOne (thou.take k) := fun u hu => thou_noone u (List.mem_of_mem_take hu)
end My

namespace My
open PySem PySem.Spec PyProof.Rows L2
abbrev nUnits : List Str := ["_law_spring_here", "_law_part", "_law_small", "_law_names", "_law_found", "_law_size_here", "_law_shift", "_law_k", "_law_first", "_law_unit"]
def spUnits (K : PySem.W.Frag) : Sp := fun vs H Q _ => ∃ (a : Addr) (part : Int) (small : Bool), vs = [.ref a, .int part, .bl small] ∧ Spr H a ∧ 2 ≤ part ∧ part ≤ 2000 ∧ part % 2 = 0 ∧
  ∀ (r : Addr) (us : List (Str × Int)) (H' : Hp), But a H H' → Spr H' a → UA K H' r us → GoodUs us → (∀ u ∈ us.drop 1, u.2 % 2 = 0) → NoOne us → Q (.ref r) H'
theorem Spr.nt {H : Hp} {a : Addr} (h : Spr H a) : ∃ o, H a = some o ∧ notTup o = true := by
  obtain ⟨x, y, z, e⟩ := h
  exact ⟨_, e, rfl⟩
theorem But.sqtS {K : PySem.W.Frag} {a t : Addr} {xs : List V} {H H' : Hp} (hp : Spr H a) (b : But a H H') (h : SqT K H t xs) : SqT K H' t xs := by
  obtain ⟨o, e, n⟩ := hp.nt
  exact b.sqt e n h
theorem UA.butS {K : PySem.W.Frag} {a t : Addr} {us : List (Str × Int)} {H H' : Hp} (hp : Spr H a) (b : But a H H') (h : UA K H t us) : UA K H' t us := by
  obtain ⟨o, e, n⟩ := hp.nt
  exact h.but e n b
theorem UP.butS {K : PySem.W.Frag} {a : Addr} {ps : List Addr} {us : List (Str × Int)} {H H' : Hp} (hp : Spr H a) (b : But a H H') (h : UP K H ps us) : UP K H' ps us := paired_imp (fun _ _ => b.sqtS hp) h
theorem PE.imp {X : Cx} {e : Expr} {t t' : TE} (h : PE X e t) (i : ∀ σ H Q, t' σ H Q → t σ H Q) : PE X e t' := ⟨fun pins s σ H Q I q => h.1 pins s σ H Q I (i σ H Q q)⟩
/-- x if c else y, two written numbers: one of them -/
def tEither (ta : TE) (x y : Int) : TE := fun σ H Q => ta σ H fun v H1 => (∃ b, v = .bl b) ∧ ∀ m, m = x ∨ m = y → Q (.int m) H1
def mono (t : TE) : Prop := ∀ σ H (Q Q' : VK), (∀ v H1, Q v H1 → Q' v H1) → t σ H Q → t σ H Q'
theorem mono_var (i : Nat) : mono (tVar i) := fun σ H Q Q' h ⟨v, e, q⟩ => ⟨v, e, h _ _ q⟩
theorem pe_either {X : Cx} {c : Expr} {ta : TE} {x y : Int} {j1 j2 : Nat} {p1 p2 pos : Pos} (hc : PT X c (tB ta)) (m : mono ta) : PE X (.IfExp c (.Constant (.int x) j1 p1) (.Constant (.int y) j2 p2) pos) (tEither ta x y) := by
  refine PE.imp (pe_ifExp hc pe_int pe_int) fun σ H Q h => ?_
  refine m σ H _ _ (fun v H1 h1 => ?_) h
  obtain ⟨⟨b, rfl⟩, h2⟩ := h1
  refine ⟨b, rfl, ?_⟩
  cases b with
  | true => exact h2 x (.inl rfl)
  | false => exact h2 y (.inr rfl)
section
variable {P : Program} {w : World} {K : PySem.W.Frag} {mg : Str → Option Value} {base : Heap}
end
end My

namespace My
open PySem PySem.Spec PyProof.Rows L2
abbrev nTold : List Str := ["_law_spring_here", "_law_small", "_law_power", "_law_part", "_law_units_here", "_law_sort", "_law_name", "_law_size_here"]
/-- what a ladder is made of stands at r -/
def ToldAt (K : PySem.W.Frag) (H : Hp) (r : Addr) (us : List (Str × Int)) (d : Nat) (s : Str) (c : Bool) (l : Int) : Prop := ∃ ua, SqT K H r [.ref ua, .int (d : Int), .str s, .bl c, .int l] ∧ UA K H ua us
theorem ToldAt.same {K : PySem.W.Frag} {H H' : Hp} {r : Addr} {us : List (Str × Int)} {d : Nat} {s : Str} {c : Bool} {l : Int} (k : Same H H') (h : ToldAt K H r us d s c l) : ToldAt K H' r us d s c l := by
  obtain ⟨ua, h1, h2⟩ := h
  exact ⟨ua, same_sqt k h1, h2.same k⟩
theorem ToldAt.but {K : PySem.W.Frag} {H H' : Hp} {a r : Addr} {us : List (Str × Int)} {d : Nat} {s : Str} {c : Bool} {l : Int} (hp : Spr H a) (k : But a H H') (h : ToldAt K H r us d s c l) : ToldAt K H' r us d s c l := by
  obtain ⟨ua, h1, h2⟩ := h
  exact ⟨ua, k.sqtS hp h1, UA.butS hp k h2⟩
def spTold (K : PySem.W.Frag) : Sp := fun vs H Q _ => ∃ (a : Addr) (small : Bool), vs = [.ref a, .bl small] ∧ Spr H a ∧
  ∀ (r : Addr) (us : List (Str × Int)) (d : Nat) (s : Str) (c : Bool) (l : Int) (H' : Hp), But a H H' → Spr H' a → ToldAt K H' r us d s c l → Good us d s l → NoOne us → l ≤ 100 → Q (.ref r) H'
def spMade (K : PySem.W.Frag) (C : Addr) : Sp := fun vs H Q _ => ∃ (r : Addr) (us : List (Str × Int)) (d : Nat) (s : Str) (c : Bool) (l : Int), vs = [.ref r] ∧ ToldAt K H r us d s c l ∧ Good us d s l ∧
  ∀ (p : Addr) (H' : Hp), Same H H' → LadAt K C H' p us d s c l → Q (.ref p) H'
/-- Ladder(.., carry = .., least = ..) -/
theorem kb_linit {K : PySem.W.Frag} {mg : Str → Option Value} (L : LadC K mg) : KBn K L.fd ["self", "units", "decimals", "rounding", "carry", "least"] 4 ["carry", "least"] (fun us ws => us ++ ws) (fun us ws => us ++ ws) := by
  obtain ⟨oc, od, kV, doc, pm, an, cdv, ct, osl, e, _⟩ := L.F.ex
  rw [e]
  refine ⟨fun s us ws _ h1 h2 => ?_, fun h1 h2 => h1.append h2⟩
  match us, ws, h1, h2 with
  | [_, _, _, _], [_, _], _, _ => exact .of_eq rfl
section
variable {P : Program} {w : World} {K : PySem.W.Frag} {mg : Str → Option Value} {base : Heap}
end
end My

namespace My
open PySem PySem.Spec PyProof.Rows L2
abbrev nMade : List Str := ["_law_told_here", "_law_a", "_law_b", "_law_c", "_law_d", "_law_e"]
section
variable {P : Program} {w : World} {K : PySem.W.Frag} {mg : Str → Option Value} {base : Heap}
end
end My

namespace My
open PySem PySem.Spec PyProof.Rows L2
/-! ### thresholds ascend -/
def szOf (us : List (Str × Int)) (i : Nat) : Int := (us.getD i ("", 0)).2
theorem szOf_at {us : List (Str × Int)} {i : Nat} {u : Str × Int} (h : us[i]? = some u) : szOf us i = u.2 := by
  unfold szOf
  rw [List.getD_eq_getElem?_getD, h]
  rfl
theorem sz_up {us : List (Str × Int)} (g : GoodUs us) {i : Nat} (h : i + 1 < us.length) : szOf us i < szOf us (i + 1) := by
  have h1 : us[i + 1]? = some us[i + 1] := List.getElem?_eq_getElem h
  have h0 : us[i]? = some us[i] := List.getElem?_eq_getElem (by omega)
  obtain ⟨_, _, _, hf⟩ := g.each (i + 1) _ h1
  rw [szOf_at h1, szOf_at h0]
  have el : (us.take (i + 1)).length = i + 1 := by rw [List.length_take]; omega
  rcases hf with ⟨e, _⟩ | ⟨l, hl, _, _, h3, _⟩
  · rw [e] at el
    cases el
  · rw [el, Nat.add_sub_cancel, List.getElem?_take] at hl
    rw [if_pos (Nat.lt_succ_self i), h0] at hl
    rw [Option.some.inj hl]
    exact h3
theorem thr_at {us : List (Str × Int)} {l : Int} {k : Nat} (h1 : 1 ≤ k) (h2 : k < us.length) : (thrsOf us l)[k]? = some (szOf us k * l) := by
  obtain ⟨j, rfl⟩ : ∃ j, k = j + 1 := ⟨k - 1, by omega⟩
  have h : us[j + 1]? = some us[j + 1] := List.getElem?_eq_getElem h2
  unfold thrsOf
  rw [List.getElem?_cons_succ, List.getElem?_map, List.getElem?_drop, Nat.add_comm 1 j, h, szOf_at h]
  rfl
theorem step_at {us : List (Str × Int)} {d k : Nat} (h1 : 1 ≤ k) (h2 : k < us.length) : (stepsOf us d).getD k 0 = szOf us k / 10 ^ d := by
  obtain ⟨j, rfl⟩ : ∃ j, k = j + 1 := ⟨k - 1, by omega⟩
  have h : us[j + 1]? = some us[j + 1] := List.getElem?_eq_getElem h2
  unfold stepsOf
  rw [List.getD_eq_getElem?_getD, List.getElem?_cons_succ, List.getElem?_map, List.getElem?_drop, Nat.add_comm 1 j, h, szOf_at h]
  rfl
theorem sz_mono {us : List (Str × Int)} (g : GoodUs us) : ∀ {j i : Nat}, i ≤ j → j < us.length → szOf us i ≤ szOf us j := by
  intro j
  induction j with
  | zero => intro i h _; rw [show i = 0 by omega]; exact Int.le_refl _
  | succ j ih =>
    intro i h hj
    rcases Nat.lt_or_ge i (j + 1) with z | z
    · have := ih (i := i) (by omega) (by omega)
      have := sz_up g hj
      omega
    · rw [show i = j + 1 by omega]
      exact Int.le_refl _
theorem thr_sorted {us : List (Str × Int)} {l : Int} (g : GoodUs us) (hl : 1 ≤ l) : (thrsOf us l).Pairwise (· ≤ ·) := by
  rw [List.pairwise_iff_getElem]
  intro i j hi hj hij
  have elen := len_thrs us l g.lo
  have hj' : (thrsOf us l)[j]? = some (szOf us j * l) := thr_at (by omega) (by omega)
  have ej : (thrsOf us l)[j] = szOf us j * l := by
    have := List.getElem?_eq_getElem hj
    rw [hj'] at this
    exact (Option.some.inj this).symm
  have pj : 1 ≤ szOf us j := by
    have h : us[j]? = some us[j] := List.getElem?_eq_getElem (by omega)
    rw [szOf_at h]
    exact (g.each j _ h).2.1
  show (thrsOf us l)[i] ≤ (thrsOf us l)[j]
  rw [ej]
  cases i with
  | zero =>
    show (0 : Int) ≤ szOf us j * l
    exact Int.mul_nonneg (by omega) (by omega)
  | succ i =>
    have hi' : (thrsOf us l)[i + 1]? = some (szOf us (i + 1) * l) := thr_at (by omega) (by omega)
    have ei : (thrsOf us l)[i + 1] = szOf us (i + 1) * l := by
      have := List.getElem?_eq_getElem hi
      rw [hi'] at this
      exact (Option.some.inj this).symm
    rw [ei]
    exact Int.mul_le_mul_of_nonneg_right (sz_mono g (by omega) (by omega)) (by omega)
theorem asc_cnt {n : Int} : ∀ {T : List Int}, T.Pairwise (· ≤ ·) → ∀ {k : Nat} {t : Int}, T[k]? = some t → (t ≤ n ↔ k < (T.filter fun x => decide (x ≤ n)).length)
  | [], _, k, t, h => by simp at h
  | x :: r, hp, k, t, h => by
    rw [List.pairwise_cons] at hp
    by_cases hx : x ≤ n
    · rw [List.filter_cons, if_pos (decide_eq_true hx), List.length_cons]
      cases k with
      | zero =>
        have e : x = t := Option.some.inj h
        subst e
        exact ⟨fun _ => Nat.succ_pos _, fun _ => hx⟩
      | succ k =>
        have ih := asc_cnt (n := n) hp.2 (k := k) (t := t) h
        rw [ih]
        omega
    · rw [List.filter_cons, if_neg (fun z => hx (of_decide_eq_true z))]
      have hall : ∀ y ∈ r, ¬ y ≤ n := fun y hy z => hx (Int.le_trans (hp.1 y hy) z)
      have e0 : (r.filter fun x => decide (x ≤ n)) = [] := List.filter_eq_nil_iff.mpr fun y hy z => hall y hy (of_decide_eq_true z)
      rw [e0]
      refine ⟨fun z => ?_, fun z => absurd z (Nat.not_lt_zero _)⟩
      cases k with
      | zero =>
        have e : x = t := Option.some.inj h
        subst e
        exact absurd z hx
      | succ k => exact absurd z (hall t (List.mem_of_getElem? h))
/-- a place is reached exactly up to the last one -/
theorem reached {us : List (Str × Int)} {l n : Int} (g : GoodUs us) (hl : 1 ≤ l) (h0 : 0 ≤ n) {k : Nat} (hk : k < us.length) : (k = 0 ∨ szOf us k * l ≤ n) ↔ k ≤ placeOf us l n := by
  have hc := cnt_pos (us := us) (l := l) h0
  unfold placeOf
  rcases Nat.eq_zero_or_pos k with z | z
  · subst z
    exact ⟨fun _ => Nat.zero_le _, fun _ => .inl rfl⟩
  · have h := asc_cnt (n := n) (thr_sorted (l := l) g hl) (thr_at (l := l) z hk)
    show _ ↔ k ≤ cntOf us l n - 1
    have e : (k < ((thrsOf us l).filter fun x => decide (x ≤ n)).length) = (k < cntOf us l n) := rfl
    rw [e] at h
    constructor
    · intro y
      rcases y with y | y
      · omega
      · have := h.mp y
        omega
    · intro y
      exact .inr (h.mpr (by omega))
theorem rnd_one (n : Int) (s : Str) : rnd n 1 s = n := by
  unfold rnd goesUp
  have e1 : n / 1 = n := Int.ediv_one n
  have e2 : n % 1 = 0 := Int.emod_one n
  rw [e1, e2]
  have e : (if s = "up" then decide ((0 : Int) < 0) else if s = "near" then decide ((1 : Int) ≤ 2 * 0) else if s = "even" then decide ((1 : Int) < 2 * 0) || (decide ((2 : Int) * 0 = 1) && decide (n % 2 = 1)) else false) = false := by
    split
    · rfl
    · split
      · rfl
      · split
        · rfl
        · rfl
  rw [e]
  rfl
theorem placed_zero {us : List (Str × Int)} {d : Nat} {s : Str} {c : Bool} {l n : Int} (g : Good us d s l) (h0 : 0 ≤ n) (h : placeOf us l n = 0) : placedM us d s c l n = (0, n) := by
  unfold placedM
  rw [h]
  have e1 : (stepsOf us d).getD 0 0 = 1 := rfl
  rw [e1, rnd_one]
  have e2 : isCar us d c l 0 n = false := by
    unfold isCar
    rcases Nat.lt_or_ge 1 us.length with z | z
    · have t1 := thr_at (l := l) (Nat.le_refl 1) z
      have e3 : (thrsOf us l).getD (0 + 1) 0 = szOf us 1 * l := by rw [List.getD_eq_getElem?_getD, t1]; rfl
      have hr := reached (n := n) g.u g.l1 h0 z
      have hn : ¬ szOf us 1 * l ≤ n := fun y => by
        have := hr.mp (.inr y)
        omega
      rw [e3, e1, Int.mul_one, decide_eq_false hn, Bool.and_false, Bool.and_false]
    · rw [decide_eq_false (show ¬ 0 + 1 < us.length by omega), Bool.false_and, Bool.and_false]
  rw [e2, if_neg Bool.false_ne_true]
end My

namespace My
open PySem PySem.Spec PyProof.Rows L2
theorem op_mul_str {X : Cx} : OpR X (binaryOp .Mult) (fun x y H Q => ∃ z n, x = .str z ∧ y = .int n ∧ MulOk z n ∧ Q (.str (Txt.mul z n)) H) := by
  intro pins s σ H x y v u Q I rx ry h
  obtain ⟨z, n, rfl, rfl, ok, q⟩ := h
  obtain ⟨t, rfl⟩ := rx
  obtain ⟨t', rfl⟩ := ry
  exact SB.mul ok (fun t' tk => ⟨.str (Txt.mul z n), H, I.tok _, ⟨_, rfl⟩, q⟩)
theorem mul_ok {n : Int} (h1 : -1000 ≤ n) (h2 : n ≤ 4) : MulOk ("0" : Str) n := by
  refine ⟨?_, fun h3 h4 => ?_, fun h3 h4 => ?_⟩
  · rw [decide_eq_false (by omega), decide_eq_false (by omega)]
    rfl
  · have : n = 1 ∨ n = 2 ∨ n = 3 ∨ n = 4 := by omega
    rcases this with rfl | rfl | rfl | rfl <;> decide
  · have : n = 1 ∨ n = 2 ∨ n = 3 ∨ n = 4 := by omega
    rcases this with rfl | rfl | rfl | rfl <;> decide +kernel
abbrev nLRnd : List Str := ["_law_sort", "_law_top_here", "_law_step", "_law_mark", "_law_left"]
abbrev nLParts : List Str := ["_law_told_here", "_law_top_here", "_law_units_here", "_law_power", "_law_sort", "_law_goes_over", "_law_much", "_law_tens", "_law_at", "_law_mark", "_law_k"]
def spLRnd : Sp := fun vs H Q _ => ∃ (n st : Int) (s : Str), vs = [.str s, .int n, .int st] ∧ 0 < st ∧ st.natAbs < 2 ^ 64 ∧ ∀ H', Same H H' → Q (.int (rnd n st s)) H'
def spLParts (K : PySem.W.Frag) : Sp := fun vs H Q _ => ∃ (r : Addr) (us : List (Str × Int)) (d : Nat) (s : Str) (c : Bool) (l n : Int), vs = [.ref r, .int n] ∧ ToldAt K H r us d s c l ∧ Good us d s l ∧ 0 ≤ n ∧ n ≤ 1000000000000000000000000000000 ∧
  ∀ (t : Addr) (H' : Hp), Same H H' → SqT K H' t [.int ((placedM us d s c l n).1 : Int), .int (placedM us d s c l n).2] → Q (.ref t) H'
def spLWrit (K : PySem.W.Frag) : Sp := fun vs H Q _ => ∃ (r : Addr) (us : List (Str × Int)) (d : Nat) (s : Str) (c : Bool) (l : Int) (p : Nat) (m : Int), vs = [.ref r, .int (p : Int), .int m] ∧ ToldAt K H r us d s c l ∧ Good us d s l ∧ p < us.length ∧ 0 ≤ m ∧ m < 10 ^ 40 ∧ Q (.str (writ us d p m)) H
def spLSeen (K : PySem.W.Frag) : Sp := fun vs H Q _ => ∃ (r : Addr) (us : List (Str × Int)) (d : Nat) (s : Str) (c : Bool) (l n : Int), vs = [.ref r, .int n] ∧ ToldAt K H r us d s c l ∧ Good us d s l ∧ 0 ≤ n ∧ n ≤ 1000000000000000000000000000000 ∧
  ∀ H', Same H H' → Q (.str (shown us d s c l n)) H'
section
variable {P : Program} {w : World} {K : PySem.W.Frag} {mg : Str → Option Value} {base : Heap}
end
end My

namespace My
open PySem PySem.Spec PyProof.Rows L2
theorem int_lt64 {z : Int} (h1 : 0 < z) (h2 : z ≤ 1000000000000000000) : z.natAbs < 2 ^ 64 := by omega
theorem div_step {us : List (Str × Int)} {d : Nat} {s : Str} {l : Int} (g : Good us d s l) {p : Nat} (h1 : 1 ≤ p) (hp : p < us.length) : 0 < szOf us p / 10 ^ d ∧ szOf us p / 10 ^ d ≤ 1000000000000000000 := by
  obtain ⟨_, k2, k3⟩ := steps_ok g hp
  rw [step_at h1 hp] at k2 k3
  exact ⟨k2, k3⟩
theorem filt_snoc (f : Nat → Bool) (i : Nat) : (List.range (i + 1)).filter f = (List.range i).filter f ++ (if f i = true then [i] else []) := by
  rw [List.range_succ, List.filter_append]
  congr 1
  rw [List.filter_cons]
  rfl
section
variable {P : Program} {w : World} {K : PySem.W.Frag} {mg : Str → Option Value} {base : Heap}
end
end My

namespace My
open PySem PySem.Spec PyProof.Rows L2
abbrev nLWrit : List Str := ["_law_told_here", "_law_at", "_law_mark", "_law_line", "_law_power"]
abbrev nLSeen : List Str := ["_law_told_here", "_law_top_here", "_law_at", "_law_mark"]
section
variable {P : Program} {w : World} {K : PySem.W.Frag} {mg : Str → Option Value} {base : Heap}
end
end My

namespace My
open PySem PySem.Spec PyProof.Rows L2
section
variable {X : Cx} {CX : CXT} {k : Nat} {f : Addr} {fd : FuncData} {ps ks : List Str} {sp : Sp} {E : XK} {x : Str} {p pos : Pos} {kws : List Keyword} {tk : TA} {g : List Value → List Value → List Value} {gV : List V → List V → List V}
/-- f(k = v, ..) -/
theorem pe_callN0 (F : FnOk X.prog X.w X.K X.mg X.base CX k f fd ps sp) (hr : Room k X.A) (hg : Gl X x) (hm : X.mg x = some (.ref f)) (hk : PySem.W.keepIn X.K (.ref f) = true) (hb : KBn X.K fd ps 0 ks g gV) (hx : Passes CX X E)
    (hkw : PK X kws tk) (hall : (backToKw pos (keywordEach kws X.env)).all (·.1.isSome) = true := by rfl) (hks : (backToKw pos (keywordEach kws X.env)).filterMap (·.1) = ks := by rfl) (hdb : (x == ("__debug__" : Str)) = false := by decide)
    (hpl : ((backTo pos (starEach [] X.env)).any (·.1) || (backToKw pos (keywordEach kws X.env)).any (·.1.isNone)) = false := by rfl) : PE X (.Call (.Name x p) [] kws pos) (tCallN 0 ks.length sp gV E tNil tk) := by
  constructor
  intro pins s σ H Q I h
  refine wpAny_Call_Name_kw (ld_glob I hg hm (PySem.W.callWith_KW0 (h₀ := X.base) I.ok.mod.kin hk hall (thn (hkw.run pos pins s σ H _ I h) ?_) hpl) hdb)
  rintro ws s2 ⟨zs, H2, I2, rz, l1, l2, q2⟩
  refine ⟨I2.kIn, ?_⟩
  subst hks
  exact run_fnN (us := []) (vs := []) F hr hb hx I2 .nil rz l1 l2 q2
end
abbrev nTop : List Str := ["_law_spring_here", "_law_told_here", "_law_way", "_law_unit_here", "_law_step", "_law_near_here", "_law_half"]
def spTop (K : PySem.W.Frag) : Sp := fun vs H Q _ => ∃ (a r : Addr) (us : List (Str × Int)) (d : Nat) (s : Str) (c : Bool) (l : Int), vs = [.ref a, .ref r] ∧ Spr H a ∧ ToldAt K H r us d s c l ∧ Good us d s l ∧
  ∀ (n : Int) (H' : Hp), 0 ≤ n → n ≤ 1000000000000000000 → But a H H' → Spr H' a → Q (.int n) H'
def spSomeT (K : PySem.W.Frag) : Sp := fun vs H Q _ => ∃ (a t : Addr) (xs : List V), vs = [.ref a, .ref t] ∧ Spr H a ∧ SqT K H t xs ∧ xs ≠ [] ∧ xs.length < 1000 ∧
  ∀ (v : V) (H' : Hp), v ∈ xs → Spr H' a → But a H H' → Q v H'
theorem clamp (v : Int) : 0 ≤ (if (if v < 1000000000000000000 then v else 1000000000000000000) > 0 then (if v < 1000000000000000000 then v else 1000000000000000000) else 0) ∧ (if (if v < 1000000000000000000 then v else 1000000000000000000) > 0 then (if v < 1000000000000000000 then v else 1000000000000000000) else 0) ≤ (1000000000000000000 : Int) := by
  split <;> split at * <;> omega
section
variable {P : Program} {w : World} {K : PySem.W.Frag} {mg : Str → Option Value} {base : Heap}
theorem ok_someT (d : Dd K mg "_law_some_of" sSome ["_law_spring_here", "_law_things"]) (dG : Dd K mg "_law_gulp" sGulp ["_law_spring_here", "_law_many"]) (B : Bt mg) : FnOk P w K mg base CX0 3 d.f d.fd ["_law_spring_here", "_law_things"] (spSomeT K) := by
  have G : FnOk P w K mg base CX0 2 dG.f dG.fd ["_law_spring_here", "_law_many"] spGulp := ok_gulp dG.F B
  refine d.F.ok scSome (fun vs H Q E h => ?_) (fun cdv A outer s H vs Q E hr h => ?_)
  · obtain ⟨_, _, _, rfl, _⟩ := h
    rfl
  · obtain ⟨a, t, xs, rfl, ha, ht, hne, hlen, k⟩ := h
    refine ⟨_, pss_one (ps_ret (pe_ix ix_tup (pv 1) (pe_call G hr (by rfl) dG.g dG.F.kp dG.b .nil pass0 (pa_cons (pv 0) (pa_cons (pe_callB call_len_seq (by rfl) B.len PySem.boot_len (pa_cons (pv 1) pa_nil)) pa_nil))) (fun _ _ => rfl))), ?_⟩
    have hpos : 0 < xs.length := List.length_pos_iff.mpr hne
    refine ⟨_, rfl, _, rfl, _, rfl, t, xs, rfl, .inr ht, a, _, rfl, ha, by omega, by omega, fun r H' h0 h1 s' b' => ?_⟩
    obtain ⟨i, rfl⟩ : ∃ i : Nat, r = (i : Int) := ⟨r.toNat, by omega⟩
    have hi : i < xs.length := by omega
    exact ⟨t, xs, i, xs[i], rfl, rfl, b'.sqtS ha ht, atI_nat (List.getElem?_eq_getElem hi), k _ _ (List.getElem_mem hi) s' b'⟩
end
end My

namespace My
open PySem PySem.Spec PyProof.Rows L2
/-- Ladder.__init__ with its keyword-only defaults -/
abbrev LadD (K : PySem.W.Frag) (f : Addr) (fd : FuncData) : Prop := FunD K "__init__" "Ladder.__init__" (defArgs sLInit) (defBody sLInit) (defScope sLInit) [] [("carry", .bl true), ("least", .int 1)] f fd
theorem kb_least {K : PySem.W.Frag} {f : Addr} {fd : FuncData} (F : LadD K f fd) : ∃ mv : List Value, KBn K fd ["self", "units", "decimals", "rounding", "carry", "least"] 4 ["least"] (fun us ws => us ++ mv ++ ws) (fun vs zs => vs ++ [V.bl true] ++ zs) :=
  F.kbinds0 4 ["least"] [("carry", .bl true)] (fun us mv ws => us ++ mv ++ ws) (by simp) (by simp) (fun r1 r2 r3 => (r1.append r2).append r3) (fun D doc pm an cdv ct us mv ws h1 h2 h3 => by
    match us, mv, ws, h1, h2, h3 with
    | [_, _, _, _], [_], [_], _, _, _ => exact ⟨_, _, _, _, _, _, rfl, rfl, rfl⟩)
end My

namespace My
open PySem PySem.Spec PyProof.Rows L2
/-! ### a figure is read back -/
theorem digit_noletter {c : Nat} (h : 48 ≤ c ∧ c ≤ 57) : letters.cps.contains c = false := by
  have h1 : ∀ k, k < 10 → letters.cps.contains (48 + k) = false := by decide +kernel
  have h2 := h1 (c - 48) (by omega)
  rw [show 48 + (c - 48) = c by omega] at h2
  exact h2
theorem take_rev {goes : Nat → Bool} : ∀ {N D : List Nat}, (∀ c ∈ N, goes c = true) → (∀ c, D.head? = some c → goes c = false) → (N ++ D).takeWhile goes = N
  | [], D, _, hd => by
    rw [List.nil_append]
    cases D with
    | nil => rfl
    | cons c r =>
      have := hd c rfl
      rw [List.takeWhile_cons, this]
      rfl
  | c :: N, D, hn, hd => by
    rw [List.cons_append, List.takeWhile_cons, hn c (List.mem_cons_self ..), if_pos rfl, take_rev (fun x hx => hn x (List.mem_cons_of_mem _ hx)) hd]
/-- t.rstrip(LETTERS): what stands ahead of the name -/
theorem rstrip_name {t : Str} {D N : List Nat} (ht : t.cps.toList = D ++ N) (hN : ∀ c ∈ N, letters.cps.contains c = true) (hD : ∀ c, D.getLast? = some c → 48 ≤ c ∧ c ≤ 57) : (Txt.rstripChars t letters).cps.toList = D := by
  unfold Txt.rstripChars
  rw [stripBy_eq]
  have e1 : stripLo (letters.cps.contains ·) false t = 0 := rfl
  have e2 : stripHi (letters.cps.contains ·) true t 0 = D.length := by
    show t.length - ((t.cps.toList.drop 0).reverse.takeWhile (letters.cps.contains ·)).length = _
    rw [List.drop_zero, ht, List.reverse_append, take_rev (fun c hc => hN c (List.mem_reverse.mp hc)) (fun c hc => ?_), List.length_reverse, str_len, ht, List.length_append]
    · omega
    · rw [List.head?_reverse] at hc
      exact digit_noletter (hD c hc)
  show (Builtin.Str.strSub t (stripLo (letters.cps.contains ·) false t) (stripHi (letters.cps.contains ·) true t (stripLo (letters.cps.contains ·) false t))).cps.toList = D
  rw [e1, e2]
  unfold Builtin.Str.strSub
  rw [Array.toList_extract, List.extract_eq_drop_take, ht]
  simp
theorem repl_filter : ∀ l : List Nat, PySem.StrLaws.replL [46] [] l = l.filter (fun c => c != 46)
  | [] => by rw [PySem.StrLaws.replL_nil]; rfl
  | c :: r => by
    by_cases h : c = 46
    · subst h
      rw [PySem.StrLaws.replL_hit (by simp) rfl, List.filter_cons]
      show [] ++ PySem.StrLaws.replL [46] [] r = _
      rw [repl_filter r]
      rfl
    · rw [PySem.StrLaws.replL_miss (by simp [h]), repl_filter r, List.filter_cons, if_pos (by simpa using h)]
theorem replace_point {t : Str} : (Txt.replace t "." "").cps.toList = t.cps.toList.filter (fun c => c != 46) := by
  rw [PySem.StrLaws.replace_list (by decide)]
  exact repl_filter _
theorem zf_digits {d : Nat} {m : Int} (h : 0 ≤ m) : ∀ c ∈ zf d m, 48 ≤ c ∧ c ≤ 57 := by
  intro c hc
  unfold zf at hc
  rcases List.mem_append.mp hc with y | y
  · rw [(List.mem_replicate.mp y).2]
    decide
  · exact dg_digits h c y
theorem filter_digits {l : List Nat} (h : ∀ c ∈ l, 48 ≤ c ∧ c ≤ 57) : l.filter (fun c => c != 46) = l := by
  refine List.filter_eq_self.mpr fun c hc => ?_
  have := h c hc
  simp
  omega
theorem filter_body {d : Nat} {m : Int} (h : 0 ≤ m) : (body d m).filter (fun c => c != 46) = zf d m := by
  unfold body
  have hz := zf_digits (d := d) h
  rw [List.filter_append, List.filter_cons]
  simp only [bne_self_eq_false, Bool.false_eq_true, if_false]
  rw [filter_digits (fun c hc => hz c (List.mem_of_mem_take hc)), filter_digits (fun c hc => hz c (List.mem_of_mem_drop hc)), List.take_append_drop]
theorem last_body {d : Nat} {m : Int} (h : 0 ≤ m) (hd : 1 ≤ d) : ∀ c, (body d m).getLast? = some c → 48 ≤ c ∧ c ≤ 57 := by
  intro c hc
  unfold body at hc
  have hlen : 1 ≤ ((zf d m).drop ((zf d m).length - d)).length := by
    rw [List.length_drop, zf_len]
    omega
  cases e : (zf d m).drop ((zf d m).length - d) with
  | nil => rw [e] at hlen; simp at hlen
  | cons a r =>
    rw [e, List.getLast?_append, List.getLast?_cons_cons] at hc
    have hm : c ∈ a :: r := by
      cases e2 : (a :: r).getLast? with
      | none => simp at e2
      | some y =>
        rw [e2] at hc
        have : y = c := by simpa using hc
        rw [← this]
        exact List.mem_of_getLast? e2
    rw [← e] at hm
    exact zf_digits h c (List.mem_of_mem_drop hm)
theorem last_dg {m : Int} (h : 0 ≤ m) : ∀ c, (dg m).getLast? = some c → 48 ≤ c ∧ c ≤ 57 := fun c hc => dg_digits h c (List.mem_of_getLast? hc)
theorem digits_ok {t : Str} (h : ∀ c ∈ t.cps.toList, 48 ≤ c ∧ c ≤ 57) (hl : 1 ≤ t.cps.toList.length) : Txt.isascii t = true ∧ Txt.isdigit t = true := by
  have hu : ∀ k, k < 10 → Unicode.isDigit (48 + k) = true := by decide +kernel
  constructor
  · unfold Txt.isascii
    rw [← Array.all_toList, List.all_eq_true]
    intro c hc
    have := h c hc
    exact decide_eq_true (by omega)
  · unfold Txt.isdigit
    rw [Bool.and_eq_true]
    refine ⟨decide_eq_true (by rw [str_len]; omega), ?_⟩
    rw [← Array.all_toList, List.all_eq_true]
    intro c hc
    have h1 := h c hc
    have h2 := hu (c - 48) (by omega)
    rw [show 48 + (c - 48) = c by omega] at h2
    exact h2
theorem val_zeros (n : Nat) (l : List Nat) : NumText.digitsVal (List.replicate n 48 ++ l) = NumText.digitsVal l := by
  induction n with
  | zero => rfl
  | succ n ih => rw [List.replicate_succ, List.cons_append, NumText.digitsVal_zero, ih]
/-- int of a mark's signs, zeros ahead or not -/
theorem int_back {t : Str} {n : Nat} {m : Int} (hm : 0 ≤ m) (ht : t.cps.toList = List.replicate n 48 ++ dg m) (hl : t.length ≤ 4300) : PySem.intText? t = some m := by
  obtain ⟨k, rfl⟩ := Int.eq_ofNat_of_zero_le hm
  have hd := dg_digits hm
  have hp := dg_pos hm
  have h1 : NumText.AllDigits t.cps.toList := by
    rw [ht]
    intro c hc
    rcases List.mem_append.mp hc with y | y
    · rw [(List.mem_replicate.mp y).2]
      decide
    · exact hd c y
  have h2 : t.cps.toList ≠ [] := by
    rw [ht]
    intro e
    have e2 : (dg (k : Int)).length = 0 := by rw [(List.append_eq_nil_iff.mp e).2]; rfl
    have hp' : 1 ≤ (dg (k : Int)).length := hp
    omega
  rw [PySem.intText_digits h1 h2 hl, ht, val_zeros]
  unfold dg
  rw [PySem.W.KIN.signs_num, PySem.W.KIN.val_back]
end My

namespace My
open PySem PySem.Spec PyProof.Rows L2
abbrev sPartsOf : Stmt := top 29
abbrev sPlaceU : Stmt := top 30
abbrev sIsMark : Stmt := top 31
abbrev sPFig : Stmt := top 38
theorem scPartsOf : FnScope ["ladder", "text", "ahead", "place", "digits", "mark"] ["ladder", "text"] (defScope sPartsOf) := ⟨rfl, rfl, rfl, by decide +kernel, rfl, by decide +kernel, by decide +kernel⟩
theorem scPlaceU : FnScope ["ladder", "name", "names", "unit"] ["ladder", "name"] (defScope sPlaceU) := ⟨rfl, rfl, rfl, by decide +kernel, rfl, by decide +kernel, by decide +kernel⟩
theorem scIsMark : FnScope ["digits"] ["digits"] (defScope sIsMark) := ⟨rfl, rfl, rfl, by decide +kernel, rfl, by decide +kernel, by decide +kernel⟩
theorem scPFig : FnScope ["ladder", "text", "parts"] ["ladder", "text"] (defScope sPFig) := ⟨rfl, rfl, rfl, by decide +kernel, rfl, by decide +kernel, by decide +kernel⟩
def spIsMark : Sp := fun vs H Q _ => ∃ z : Str, vs = [.str z] ∧ (∀ c ∈ z.cps.toList, 48 ≤ c ∧ c ≤ 57) ∧ 1 ≤ z.length ∧ z.length ≤ 24 ∧ Q (.bl true) H
def spPlaceU (K : PySem.W.Frag) (C : Addr) : Sp := fun vs H Q _ => ∃ (a : Addr) (us : List (Str × Int)) (d : Nat) (s : Str) (c : Bool) (l : Int) (p : Nat) (u : Str × Int), vs = [.ref a, .str u.1] ∧ LadAt K C H a us d s c l ∧ Good us d s l ∧ us[p]? = some u ∧
  ∀ H', Same H H' → Q (.int (p : Int)) H'
theorem names_apart {us : List (Str × Int)} (g : GoodUs us) {i j : Nat} {u v : Str × Int} (hij : i < j) (hi : us[i]? = some u) (hj : us[j]? = some v) : u.1 ≠ v.1 := by
  obtain ⟨_, _, _, hf⟩ := g.each j v hj
  have hm : u ∈ us.take j := List.mem_of_getElem? (i := i) (by rw [List.getElem?_take, if_pos hij]; exact hi)
  rcases hf with ⟨e, _⟩ | ⟨_, _, _, _, _, _, h⟩
  · rw [e] at hm
    cases hm
  · exact h u hm
section
variable {P : Program} {w : World} {K : PySem.W.Frag} {mg : Str → Option Value} {base : Heap}
theorem ok_ismark (d : Dd K mg "is_mark" sIsMark ["digits"]) (B : Bt mg) (gM : ∃ t, mg "MOST_DIGITS" = some (.int 24 t)) : FnOk P w K mg base CX0 2 d.f d.fd ["digits"] spIsMark := by
  obtain ⟨t1, g1⟩ := gM
  refine d.F.ok scIsMark (fun vs H Q E h => ?_) (fun cdv A outer s H vs Q E hr h => ?_)
  · obtain ⟨_, rfl, _⟩ := h
    rfl
  · obtain ⟨z, rfl, h1, h2, h3, q⟩ := h
    refine ⟨_, pss_one (ps_ret (pe_and (pe_bm0 PySem.F.plainAttrs_str PySem.F.slot_str_isascii PySem.F.type_str_isascii mt_isascii (pv 0)) (pe_and (pe_bm0 PySem.F.plainAttrs_str PySem.F.slot_str_isdigit PySem.F.type_str_isdigit mt_isdigit (pv 0))
      (pe_one (pe_cmpR op_le (pe_callB call_len_str (by rfl) B.len PySem.boot_len (pa_cons (pv 0) pa_nil)) (pe_glob (v := .int 24) (by rfl) g1 ⟨_, rfl⟩) (nomark _)))))), ?_⟩
    obtain ⟨e1, e2⟩ := digits_ok h1 (by rw [← str_len]; exact h2)
    refine ⟨_, rfl, rfl, z, rfl, rfl, trivial, _, rfl, ?_⟩
    rw [e1]
    refine iteT ?_
    refine ⟨_, rfl, rfl, z, rfl, rfl, trivial, _, rfl, ?_⟩
    rw [e2]
    refine iteT ?_
    refine ⟨_, rfl, z, rfl, Nat.le_trans h3 (by decide), _, _, rfl, rfl, ?_⟩
    have e3 : decide ((z.length : Int) ≤ 24) = true := decide_eq_true (by omega)
    show Q (.bl (decide ((z.length : Int) ≤ 24))) H
    rw [e3]
    exact q
theorem ok_placeu (d : Dd K mg "place_of_unit" sPlaceU ["ladder", "name"]) (L : LadC K mg) (B : Bt mg) : FnOk P w K mg base CX0 2 d.f d.fd ["ladder", "name"] (spPlaceU K L.C) := by
  refine d.F.ok scPlaceU (fun vs H Q E h => ?_) (fun cdv A outer s H vs Q E hr h => ?_)
  · obtain ⟨_, _, _, _, _, _, _, _, rfl, _⟩ := h
    rfl
  · obtain ⟨a, us, dn, z, c, l, p, u, rfl, ⟨dx, ua, t, st, th, hp, ⟨ps, hua, hu⟩, _⟩, g, hpu, q⟩ := h
    have nd := scPlaceU.nd
    have el := UP.len hu
    refine ⟨_, Evl.pss_cut (ps_setLc (i := 2) (own := [("unit", 3)]) (g := gName 3) (tt := tYes) (by rfl) nd rfl rfl (sw_true rfl rfl rfl (by decide +kernel)) (pi_tup (pe_fld (pv 0) rfl))
        (blkOk_by (own := [("unit", 3)]) (N := ["ladder", "name", "names", "unit"]) (sc := defScope sPlaceU) (by decide +kernel)) (fun _ _ _ _ _ => pg_name (i := 3) nd rfl (Or.inl rfl)) (fun _ _ _ _ _ => pts_nil)
        (fun _ _ _ _ _ => pe_ix (r := rIxT K) ix_tup (pv 3) pe_int (fun _ _ => rfl)))
      (pss_cons (ps_if (pt_cmpR op_notIn_seq (pv 1) (pv 2) (by rfl)) (pss_one (ps_ret pe_non)) pss_nil)
      (pss_one (ps_ret (pe_bm PySem.F.plainAttrs_list PySem.F.slot_list_index PySem.F.type_list_index mt_index (pv 2) (pa_cons (pv 1) pa_nil))))), ?_⟩
    refine ⟨fun σ' H' => ∃ D, Same H H' ∧ H' D = some (.lst (us.map fun v => V.str v.1)) ∧ σ' = [some (.ref a), some (.str u.1), some (.ref D), none], ?_, ?_⟩
    · refine ⟨_, rfl, a, L.C, dx, _, _, rfl, hp, L.cl, L.nUnits, fl_units .., ua, rfl, ⟨_, hua⟩, fun D nD => ?_⟩
      refine lc_tup (K := K) (a := ua) (xs := ps.map V.ref) (fun i H2 => Same H H2 ∧ H2 D = some (.lst ((us.take i).map fun v => V.str v.1))) ⟨same_upd nD, upd_same⟩ (fun i H2 _ h => same_sqt h.1 hua) ?_ ?_
      · rintro i x H2 hi ⟨sm, hD⟩
        obtain ⟨pi, hpi, rfl⟩ := of_get_ref hi
        obtain ⟨v, hv, hs⟩ := paired_fst hu hpi
        refine ⟨rfl, _, rfl, pi, _, 0, .str v.1, rfl, rfl, same_sqt sm hs, rfl, _, hD, ?_, fun b o eb => ?_, ?_⟩
        · rw [List.length_map, List.length_take]
          exact Nat.lt_of_le_of_lt (Nat.le_trans (Nat.min_le_right _ _) g.u.hi) (by decide)
        · rw [upd_ne (ne_of_none eb nD)]
          exact sm _ _ eb
        · rw [upd_same, List.take_add_one, hv, List.map_append]
          rfl
      · rintro H2 ⟨sm, hD⟩
        rw [List.length_map, el, List.take_of_length_le (Nat.le_refl _)] at hD
        exact ⟨D, sm, hD, rfl⟩
    · rintro σ' H2 ⟨D, sm, hD, rfl⟩
      have hin : inV (.str u.1) (us.map fun v => V.str v.1) = true := by
        unfold inV
        rw [List.any_eq_true]
        exact ⟨.str u.1, List.mem_map.mpr ⟨u, List.mem_of_getElem? hpu, rfl⟩, by simp [eqV]⟩
      have hflat : (us.map fun v => V.str v.1).all flatV = true := by simp [List.all_map, flatV]
      refine ⟨_, rfl, _, rfl, D, _, rfl, .inl (SqL.of hD), rfl, hflat, ?_⟩
      rw [if_pos rfl, hin]
      refine ⟨false, rfl, iteF ?_⟩
      refine ⟨_, rfl, .inl ⟨rfl, _, SqL.of hD⟩, _, rfl, D, _, .str u.1, p, .str u.1, rfl, rfl, SqL.of hD, rfl, hflat, ?_, by simp [eqV], fun m z' hm hz' => ?_, q _ sm⟩
      · rw [List.getElem?_map, hpu]
        rfl
      · rw [List.getElem?_map] at hz'
        cases e : us[m]? with
        | none => rw [e] at hz'; cases hz'
        | some v =>
          rw [e] at hz'
          have ez := Option.some.inj hz'
          subst ez
          have := names_apart g.u hm e hpu
          simpa [eqV] using this
end
end My

namespace My
open PySem PySem.Spec PyProof.Rows L2
/-- x = e where e gives out tokens -/
theorem pst_set {X : Cx} {i : Nat} {x : Str} {e : Expr} {te : TE} {pos pos' : Pos} (hN : X.N.Nodup) (hi : X.N[i]? = some x) (hx : Loc X.env.scope x) (he : PET X e te) (hs : swapsWith e (some (.Name x pos')) pos.line X.env = pure false := by rfl)
    (hf : X.fn x = true ∨ X.env.scope.names.lookup x = some .local := by first | exact .inl rfl | exact .inr rfl | assumption) : PST X (.Assign [.Name x pos'] e pos) (tAsg te (gName i)) := by
  intro pins s σ H D h0 I h
  refine wpAny_Assign_Name (thn (he pins s σ H _ h0 I h) ?_) hs
  rintro v s1 ⟨y, H1, I1, r1, q1⟩
  exact store_ok I1 hN hi hx r1 (fun s2 I2 => ⟨_, H1, I2, q1⟩) hf
/-- what stands ahead of a figure's name -/
def ahead (d p : Nat) (m : Int) : List Nat := if p = 0 ∨ d = 0 then dg m else body d m
theorem writ_codes {us : List (Str × Int)} {d p : Nat} {m : Int} : (writ us d p m).cps.toList = ahead d p m ++ (us.getD p ("", 0)).1.cps.toList := by
  unfold writ ahead
  split
  · rw [str_app]
    rfl
  · rw [str_app]
theorem ahead_last {d p : Nat} {m : Int} (hm : 0 ≤ m) : ∀ c, (ahead d p m).getLast? = some c → 48 ≤ c ∧ c ≤ 57 := by
  unfold ahead
  split
  · exact last_dg hm
  · rename_i h
    exact last_body hm (by
      rcases Nat.eq_zero_or_pos d with z | z
      · exact absurd (.inr z) h
      · exact z)
theorem ahead_filter {d p : Nat} {m : Int} (hm : 0 ≤ m) : ∃ n, (ahead d p m).filter (fun c => c != 46) = List.replicate n 48 ++ dg m ∧ n + (dg m).length ≤ max (d + 1) (dg m).length := by
  unfold ahead
  split
  · refine ⟨0, ?_, by omega⟩
    rw [filter_digits (dg_digits hm)]
    rfl
  · refine ⟨d + 1 - (dg m).length, ?_, by omega⟩
    rw [filter_body hm]
    rfl
theorem ahead_len {d p : Nat} {m : Int} : (ahead d p m).length ≤ max (d + 1) (dg m).length + 1 := by
  unfold ahead
  split
  · omega
  · unfold body
    rw [List.length_append, List.length_take, List.length_cons, List.length_drop, zf_len]
    omega
theorem dg_24 {m : Int} (h0 : 0 ≤ m) (h : m < 10 ^ 24) : (dg m).length ≤ 24 := by
  obtain ⟨k, rfl⟩ := Int.eq_ofNat_of_zero_le h0
  have hk : k < 10 ^ 24 := by omega
  unfold dg
  rw [PySem.W.KIN.signs_num, List.length_map, ← Nat.toList_repr]
  exact (Nat.length_repr_le_iff (by decide)).mpr hk
def spPartsOf (K : PySem.W.Frag) (C : Addr) : Sp := fun vs H Q _ => ∃ (a : Addr) (us : List (Str × Int)) (d : Nat) (s : Str) (c : Bool) (l : Int) (p : Nat) (m : Int), vs = [.ref a, .str (writ us d p m)] ∧ LadAt K C H a us d s c l ∧ Good us d s l ∧ p < us.length ∧ 0 ≤ m ∧ m < 10 ^ 24 ∧
  ∀ (r : Addr) (H' : Hp), Same H H' → SqT K H' r [.int (p : Int), .int m] → Q (.ref r) H'
def spWorth (K : PySem.W.Frag) (C : Addr) : Sp := fun vs H Q _ => ∃ (a : Addr) (us : List (Str × Int)) (d : Nat) (s : Str) (c : Bool) (l : Int) (p : Nat) (m : Int), vs = [.ref a, .str (writ us d p m)] ∧ LadAt K C H a us d s c l ∧ Good us d s l ∧ p < us.length ∧ 0 ≤ m ∧ m < 10 ^ 24 ∧
  ∀ H', Same H H' → Q (.int (m * (stepsOf us d).getD p 0)) H'
section
variable {P : Program} {w : World} {K : PySem.W.Frag} {mg : Str → Option Value} {base : Heap}
theorem ok_partsof (d : Dd K mg "parts_of" sPartsOf ["ladder", "text"]) (dU : Dd K mg "place_of_unit" sPlaceU ["ladder", "name"]) (dM : Dd K mg "is_mark" sIsMark ["digits"]) (dW : Dd K mg "written" sWritten ["ladder", "place", "mark"]) (L : LadC K mg) (B : Bt mg) (G : Gc K mg) (gM : ∃ t, mg "MOST_DIGITS" = some (.int 24 t)) :
    FnOk P w K mg base CX0 3 d.f d.fd ["ladder", "text"] (spPartsOf K L.C) := by
  have GU : FnOk P w K mg base CX0 2 dU.f dU.fd ["ladder", "name"] (spPlaceU K L.C) := ok_placeu dU L B
  have GM : FnOk P w K mg base CX0 2 dM.f dM.fd ["digits"] spIsMark := ok_ismark dM B gM
  have GW : FnOk P w K mg base CX0 2 dW.f dW.fd ["ladder", "place", "mark"] (spWritten K L.C) := ok_written dW L B
  obtain ⟨t1, g1⟩ := G.letters
  obtain ⟨oc, od, kV, doc, pm, an, cdv, ct, osl, e, lk, hcd⟩ := d.F.ex
  rw [e] at lk ⊢
  refine fn_ofT lk hcd scPartsOf (by decide +kernel) (by decide) (fun vs H Q E h => ?_) (fun A outer s H vs Q E hr h => ?_)
  · obtain ⟨_, _, _, _, _, _, _, _, rfl, _⟩ := h
    rfl
  · obtain ⟨a, us, dn, z, c, l, p, m, rfl, hL, g, hlt, hm, hm2, q⟩ := h
    have nd := scPartsOf.nd
    refine ⟨_, psst_cons (PST.of (ps_if (pt_not (pt_val (pe_callB call_isi (by rfl) B.isinstance (by decide +kernel) (pa_cons (pv 1) (pa_cons (pe_bltn (v := .ty "str") (by rfl) B.str (by decide +kernel) rfl) pa_nil))))) (pss_one (ps_ret pe_non)) pss_nil))
      (psst_cons (PST.of (ps_set (i := 2) nd rfl (.inl rfl) (pe_bm PySem.F.plainAttrs_str PySem.F.slot_str_rstrip PySem.F.type_str_rstrip mt_rstripChars (pv 1) (pa_cons (pe_glob (v := .str letters) (by rfl) g1 ⟨_, rfl⟩) pa_nil))))
      (psst_cons (PST.of (ps_set (i := 3) nd rfl (.inl rfl) (pe_call GU hr (by rfl) dU.g dU.F.kp dU.b .nil pass0 (pa_cons (pv 0) (pa_cons (pe_slice sl_str (pv 1) (po_some (pe_callB call_len_str (by rfl) B.len PySem.boot_len (pa_cons (pv 2) pa_nil))) po_none) pa_nil)))))
      (psst_cons (pst_set (i := 4) nd rfl (.inl rfl) (CwR.pet_replC (pv 2)))
      (PSsT.of (pss_cons (ps_if (PW.pt (pw_or (pt_cmp (pc_isN (pv 3))) (pw_or1 (pt_not (pt_val (pe_call GM hr (by rfl) dM.g dM.F.kp dM.b .nil pass0 (pa_cons (pv 4) pa_nil))))))) (pss_one (ps_ret pe_non)) pss_nil)
      (pss_cons (ps_set (i := 5) nd rfl (.inl rfl) (pe_callTy call_int_str (by rfl) B.int (by decide +kernel) (pa_cons (pv 4) pa_nil)))
      (pss_cons (ps_if (pt_cmpR op_ne (pe_call GW hr (by rfl) dW.g dW.F.kp dW.b .nil pass0 (pa_cons (pv 0) (pa_cons (pv 3) (pa_cons (pv 5) pa_nil)))) (pv 1) (nomark _)) (pss_one (ps_ret pe_non)) pss_nil)
      (pss_one (ps_ret (pe_tup (pa_cons (pv 3) (pa_cons (pv 5) pa_nil)))))))))))), ?_⟩
    have hu : us[p]? = some us[p] := List.getElem?_eq_getElem hlt
    have en : (us.getD p ("", 0)).1 = us[p].1 := by rw [List.getD_eq_getElem?_getD, hu]; rfl
    have gn := (g.u.each p _ hu).1
    have hlet : ∀ c ∈ us[p].1.cps.toList, letters.cps.contains c = true := fun c hc => by
      have := gn.2.2.2
      rw [List.all_eq_true] at this
      exact this c hc
    have wc := writ_codes (us := us) (d := dn) (p := p) (m := m)
    rw [en] at wc
    have ld := dg_24 hm hm2
    have d3 := g.d3
    have al := ahead_len (d := dn) (p := p) (m := m)
    have lw : (writ us dn p m).length ≤ 30 := by
      rw [str_len, wc, List.length_append, ← str_len]
      have := gn.1
      omega
    refine ⟨_, rfl, _, _, _, _, true, rfl, .ty "str", .base (.str _), kit_ty (by decide +kernel), _, rfl, iteF ?_⟩
    have er : (Txt.rstripChars (writ us dn p m) letters).cps.toList = ahead dn p m := rstrip_name wc hlet (ahead_last hm)
    refine ⟨_, rfl, rfl, _, _, rfl, rfl, Nat.le_trans lw (by decide), ?_⟩
    generalize Txt.rstripChars (writ us dn p m) letters = zz at er ⊢
    have lz : zz.length = (ahead dn p m).length := by rw [str_len, er]
    refine ⟨_, rfl, _, rfl, _, rfl, zz, rfl, (by rw [lz]; exact Nat.le_trans (show _ ≤ 30 by omega) (by decide)), _, rfl, _, rfl, Nat.le_trans lw (by decide), ?_⟩
    have esl : cutS (writ us dn p m) (some (zz.length : Int)) none = us[p].1 := by
      refine str_ext ?_
      rw [cut_fromn (by rw [wc, List.length_append, lz]; omega), wc, lz]
      simp
    rw [esl]
    refine ⟨a, us, dn, z, c, l, p, us[p], rfl, hL, g, hu, fun H1 s1 => ?_⟩
    refine ⟨_, rfl, zz, rfl, ?_, ?_⟩
    · rw [lz]
      show _ + (_ + 1) * 0 ≤ _
      omega
    obtain ⟨n, ef, hn⟩ := ahead_filter (d := dn) (p := p) hm
    have ep : (Txt.replace zz "." "").cps.toList = List.replicate n 48 ++ dg m := by rw [replace_point, er, ef]
    generalize Txt.replace zz "." "" = yy at ep ⊢
    have ly : yy.length = n + (dg m).length := by rw [str_len, ep, List.length_append, List.length_replicate]
    have hp1 := dg_pos hm
    have alld : ∀ c ∈ yy.cps.toList, 48 ≤ c ∧ c ≤ 57 := fun c hc => by
      rw [ep] at hc
      rcases List.mem_append.mp hc with y | y
      · rw [(List.mem_replicate.mp y).2]
        decide
      · exact dg_digits hm c y
    refine ⟨_, rfl, _, rfl, iteF ?_⟩
    refine ⟨_, rfl, yy, rfl, alld, by omega, by omega, true, rfl, iteF ?_⟩
    refine ⟨_, rfl, yy, m, rfl, int_back hm ep (by omega), by omega, ?_⟩
    refine ⟨_, rfl, _, rfl, _, rfl, a, us, dn, z, c, l, p, m, rfl, hL.same s1, g, hlt, hm, Int.lt_trans hm2 (by decide), _, rfl, rfl, _, rfl, iteNS (by simp) ?_⟩
    refine ⟨_, rfl, _, rfl, (by show 2 ≤ sizeLine; decide), fun r nr => ?_⟩
    exact q r _ (s1.trans (same_upd nr)) (SqT.of upd_same)
end
end My

namespace My
open PySem PySem.Spec PyProof.Rows L2
section
variable {P : Program} {w : World} {K : PySem.W.Frag} {mg : Str → Option Value} {base : Heap}
theorem ok_pfig {C : Addr} (d : Dd K mg "parts_of_figure" sPFig ["ladder", "text"]) (dP : Dd K mg "parts_of" sPartsOf ["ladder", "text"]) (GP : FnOk P w K mg base CX0 3 dP.f dP.fd ["ladder", "text"] (spPartsOf K C)) :
    FnOk P w K mg base CX0 4 d.f d.fd ["ladder", "text"] (spPartsOf K C) := by
  refine d.F.ok scPFig (fun vs H Q E h => ?_) (fun cdv A outer s H vs Q E hr h => ?_)
  · obtain ⟨_, _, _, _, _, _, _, _, rfl, _⟩ := h
    rfl
  · obtain ⟨a, us, dn, z, c, l, p, m, rfl, hL, g, hlt, hm, hm2, q⟩ := h
    have nd := scPFig.nd
    refine ⟨_, pss_cons (ps_set (i := 2) nd rfl (.inl rfl) (pe_call GP hr (by rfl) dP.g dP.F.kp dP.b .nil pass0 (pa_cons (pv 0) (pa_cons (pv 1) pa_nil))))
      (pss_cons (ps_if (pt_cmp (pc_isN (pv 2))) (pss_one ps_never) pss_nil) (pss_one (ps_ret (pv 2)))), ?_⟩
    refine ⟨_, rfl, _, rfl, a, us, dn, z, c, l, p, m, rfl, hL, g, hlt, hm, hm2, fun r H1 s1 hr1 => ?_⟩
    exact ⟨_, rfl, _, rfl, iteF ⟨_, rfl, q r H1 s1 hr1⟩⟩
end
end My

namespace My
open PySem PySem.Spec PyProof.Rows L2
section
variable {P : Program} {w : World} {K : PySem.W.Frag} {mg : Str → Option Value} {base : Heap}
end
end My

namespace MyZ
open PySem PySem.Spec PyProof.Rows L2
/-- three lists of one length walked together, the items in new triples -/
def Itz3 (K : PySem.W.Frag) (a b c : Addr) : It :=
  ⟨fun i H => ∃ (xs ys zs : List V) (x y z : V), SqL K H a xs ∧ SqL K H b ys ∧ SqL K H c zs ∧ xs[i]? = some x ∧ ys[i]? = some y ∧ zs[i]? = some z,
   fun i H v H' => ∃ T x y z, v = .ref T ∧ H T = none ∧ H' = upd H T (.tup [x, y, z]) ∧ (∀ xs, SqL K H a xs → xs[i]? = some x) ∧ (∀ ys, SqL K H b ys → ys[i]? = some y) ∧ ∀ zs, SqL K H c zs → zs[i]? = some z,
   fun i H => ∃ xs ys zs : List V, SqL K H a xs ∧ SqL K H b ys ∧ SqL K H c zs ∧ xs.length = i ∧ ys.length = i ∧ zs.length = i⟩
theorem turn_zip3 {P : Program} {w : World} {K : PySem.W.Frag} {elts : List Expr} {kk : Nat} {tpos : Pos} {a b c z TI TO i1 i2 i3 : Addr} (D : ZipSep3 z TI TO i1 i2 i3 [i1, a] [i2, b] [i3, c]) (n1 : a ≠ i1) (n2 : b ≠ i2) (n3 : c ≠ i3) :
    Turn P w K (.Tuple elts kk tpos) (Itz3 K a b c) [z, TI, TO, i1, i2, i3] z (fun i h => IsZip h z TI TO .none ∧ IsTupOf3 h TI (.ref i1) (.ref i2) (.ref i3) ∧ (∃ x y u, IsTupOf3 h TO x y u) ∧ h.IsListIter i1 a i ∧ h.IsListIter i2 b i ∧ h.IsListIter i3 c i) where
  mem := by simp
  obj := fun i h st q hq => by
    obtain ⟨hz, hTI, ⟨x, y, u, hTO⟩, ⟨o1, e1, _, d1⟩, ⟨o2, e2, _, d2⟩, ⟨o3, e3, _, d3⟩⟩ := st
    have e' : q = z ∨ q = TI ∨ q = TO ∨ q = i1 ∨ q = i2 ∨ q = i3 := by simpa using hq
    rcases e' with e | e | e | e | e | e <;> rw [e]
    · exact ⟨_, hz, fun v q => nomatch q⟩
    · exact ⟨_, hTI, fun v q => nomatch q⟩
    · exact ⟨_, hTO, fun v q => nomatch q⟩
    · exact ⟨o1, e1, fun v q => by rw [d1] at q; cases q⟩
    · exact ⟨o2, e2, fun v q => by rw [d2] at q; cases q⟩
    · exact ⟨o3, e3, fun v q => by rw [d3] at q; cases q⟩
  keep := fun i h h' st k => by
    obtain ⟨hz, hTI, ⟨x, y, u, hTO⟩, h1, h2, h3⟩ := st
    exact ⟨k z (by simp) _ hz, k TI (by simp) _ hTI, ⟨x, y, u, k TO (by simp) _ hTO⟩, h1.at fun o q => k i1 (by simp) o q, h2.at fun o q => k i2 (by simp) o q, h3.at fun o q => k i3 (by simp) o q⟩
  item := by
    intro X hP hw hK hc i pins s σ H E I hf st hg
    subst hP hw hK
    obtain ⟨hz, hTI, ⟨x0, y0, u0, hTO⟩, h1, h2, h3⟩ := st
    obtain ⟨xs, ys, zs, x, y, v, hqx, hqy, hqz, hx, hy, hv⟩ := hg
    obtain ⟨its, rv, p, _⟩ := I.list hqx
    obtain ⟨its2, rv2, p2, _⟩ := I.list hqy
    obtain ⟨its3, rv3, p3, _⟩ := I.list hqz
    obtain ⟨u, hu, ru⟩ := rv.get hx
    obtain ⟨u2, hu2, ru2⟩ := rv2.get hy
    obtain ⟨u3, hu3, ru3⟩ := rv3.get hv
    have hzl : z < s.heap.objs.size := Heap.lt_size hz
    have lt1 : i < its.toArray.size := by have := (List.getElem?_eq_some_iff.mp hu).1; simpa using this
    have lt2 : i < its2.toArray.size := by have := (List.getElem?_eq_some_iff.mp hu2).1; simpa using this
    have lt3 : i < its3.toArray.size := by have := (List.getElem?_eq_some_iff.mp hu3).1; simpa using this
    have D1 := Draws.list (prog := X.prog) (w := X.w) (A := X.A.in1) (I.ok.hd hc) i1 a n1 its.toArray
    have D2 := Draws.list (prog := X.prog) (w := X.w) (A := X.A.in1) (I.ok.hd hc) i2 b n2 its2.toArray
    have D3 := Draws.list (prog := X.prog) (w := X.w) (A := X.A.in1) (I.ok.hd hc) i3 c n3 its3.toArray
    refine wpAny_pyNext_zipD3_item D D1 D2 D3 hz hTI hTO ⟨h1, p.isList⟩ ⟨h2, p2.isList⟩ ⟨h3, p3.isList⟩ lt1 lt2 lt3 fun w1 w2 w3 h' tk f1 f2 f3 z' TO' h1' h2' h3' hT hsz hk => ?_
    have e1 : w1 = u := by
      have q : its.toArray[i]? = some u := by simpa using hu
      exact Option.some.inj (f1.symm.trans q)
    have e2 : w2 = u2 := by
      have q : its2.toArray[i]? = some u2 := by simpa using hu2
      exact Option.some.inj (f2.symm.trans q)
    have e3 : w3 = u3 := by
      have q : its3.toArray[i]? = some u3 := by simpa using hu3
      exact Option.some.inj (f3.symm.trans q)
    subst e1 e2 e3
    refine ⟨_, rfl, wpAny_letOwnedTupleGo_zip (s := { s with heap := h', toks := tk }) z' fun h'' z'' sb => ?_⟩
    have hT2 := (sb.2 _ (Nat.ne_of_gt hzl)).trans hT
    have new : ObjOk X.prog X.w (upd H s.heap.objs.size (.tup [x, y, v])) h'' s.heap.objs.size (.tup [x, y, v]) :=
      ⟨(by show 3 ≤ sizeLine; decide), [w1, w2, w3], .cons ru (.cons ru2 (.cons ru3 .nil)), ⟨_, hT2, rfl, _, rfl⟩⟩
    have stay : ∀ q o, q ∉ [z, TI, TO, i1, i2, i3] → s.heap.get? q = some o → h''.get? q = some o := fun q o hq e => by
      have m : ∀ k, k ∈ [z, TI, TO, i1, i2, i3] → q ≠ k := fun k hk e => hq (e ▸ hk)
      exact (sb.2 q (m z (by simp))).trans (hk q o (m z (by simp)) (m TO (by simp)) (m i1 (by simp)) (m i2 (by simp)) (m i3 (by simp)) e)
    have I1 : Inv X pins σ (upd H s.heap.objs.size (.tup [x, y, v])) { s with heap := h'', toks := tk } := I.turnedNew (ch := [z, TI, TO, i1, i2, i3]) stay hf (Nat.le_refl _) new
    refine ⟨.ref s.heap.objs.size, _, I1, rfl, ⟨_, x, y, v, rfl, I.hok.fresh (Nat.le_refl _), rfl, fun l hl => (I.list_inj hl hqx) ▸ hx, fun l hl => (I.list_inj hl hqy) ▸ hy, fun l hl => (I.list_inj hl hqz) ▸ hv⟩, ⟨z'', ?_, ⟨w1, w2, w3, ?_⟩, ?_, ?_, ?_⟩, fun q hq => ?_⟩
    · exact (sb.2 _ D.TIz).trans (hk _ _ D.TIz D.TITO D.TIi1 D.TIi2 D.TIi3 hTI)
    · exact (sb.2 _ D.TOz).trans TO'
    · exact h1'.1.at fun o q => (sb.2 _ (fun e => D.zf1 (by rw [← e]; simp))).trans q
    · exact h2'.1.at fun o q => (sb.2 _ (fun e => D.zf2 (by rw [← e]; simp))).trans q
    · exact h3'.1.at fun o q => (sb.2 _ (fun e => D.zf3 (by rw [← e]; simp))).trans q
    · have hlt : q < s.heap.objs.size := by
        have e' : q = z ∨ q = TI ∨ q = TO ∨ q = i1 ∨ q = i2 ∨ q = i3 := by simpa using hq
        rcases e' with e | e | e | e | e | e <;> rw [e]
        · exact hzl
        · exact Heap.lt_size hTI
        · exact Heap.lt_size hTO
        · obtain ⟨_, e1, _⟩ := h1; exact Heap.lt_size e1
        · obtain ⟨_, e2, _⟩ := h2; exact Heap.lt_size e2
        · obtain ⟨_, e3, _⟩ := h3; exact Heap.lt_size e3
      rw [upd_ne (Nat.ne_of_lt hlt)]
      exact (hf q hq).1
  done := by
    intro X hP hw hK hc i pins s σ H E I hf st hg
    subst hP hw hK
    obtain ⟨hz, hTI, ⟨x0, y0, u0, hTO⟩, h1, h2, h3⟩ := st
    obtain ⟨xs, ys, zs, hqx, hqy, hqz, lx, ly, lz⟩ := hg
    obtain ⟨its, rv, p, _⟩ := I.list hqx
    obtain ⟨its2, rv2, p2, _⟩ := I.list hqy
    obtain ⟨its3, rv3, p3, _⟩ := I.list hqz
    have l1 : its.toArray.size = i := by have := rv.length; simp; omega
    have l2 : its2.toArray.size = i := by have := rv2.length; simp; omega
    have l3 : its3.toArray.size = i := by have := rv3.length; simp; omega
    have D1 := Draws.list (prog := X.prog) (w := X.w) (A := X.A.in1) (I.ok.hd hc) i1 a n1 its.toArray
    have D2 := Draws.list (prog := X.prog) (w := X.w) (A := X.A.in1) (I.ok.hd hc) i2 b n2 its2.toArray
    have D3 := Draws.list (prog := X.prog) (w := X.w) (A := X.A.in1) (I.ok.hd hc) i3 c n3 its3.toArray
    refine wpAny_pyNext_zipD3_end D D1 D2 D3 hz hTI hTO ⟨h1, p.isList⟩ ⟨h2, p2.isList⟩ ⟨h3, p3.isList⟩ (by omega) (by omega) (by omega) (.inl l1.symm) fun h' tk hk => ⟨rfl, ?_⟩
    refine I.turnedL (ch := [z, TI, TO, i1, i2, i3]) (fun q o hq e => ?_) hf
    have m : ∀ k, k ∈ [z, TI, TO, i1, i2, i3] → q ≠ k := fun k hk e => hq (e ▸ hk)
    exact hk q o (m z (by simp)) (m TO (by simp)) (m i1 (by simp)) (m i2 (by simp)) (m i3 (by simp)) e
  self := fun A i s Q E st h => wpAny_pyIter_zip st.1 h
def iZip3 (K : PySem.W.Frag) (ta : TA) : TI := fun σ H R => ta σ H fun vs H1 => ∃ a b c xs ys zs, vs = [.ref a, .ref b, .ref c] ∧ SqL K H1 a xs ∧ SqL K H1 b ys ∧ SqL K H1 c zs ∧ R (Itz3 K a b c) H1
theorem pi_zip3 {X : Cx} {e e2 e3 : Expr} {ta : TA} {p pos tpos : Pos} {elts : List Expr} {kk : Nat} (hg : Gl X "zip") (hm : X.mg "zip" = none) (ha : PA X [e, e2, e3] ta)
    (hs : starEach [e, e2, e3] X.env = (false, eval e X.env) :: starEach [e2, e3] X.env := by rfl) (hpl : (backTo pos (starEach [e2, e3] X.env)).any (·.1) = false := by rfl) :
    PI X (.Tuple elts kk tpos) (.Call (.Name "zip" p) [e, e2, e3] [] pos) (iZip3 X.K ta) := by
  constructor
  intro pins s σ H R I h
  refine Call_ (ld_blt I hg hm PyProof.Rows.boot_zip (PyProof.Rows.callWith_type1 (thn (ha.run pos pins s σ H _ I h) ?_) hs hpl))
  rintro us s1 ⟨vs, H1, I1, r1, a, b, c, xs, ys, zs, rfl, hqx, hqy, hqz, q⟩
  match us, r1 with
  | [_, _, _], .cons r1 (.cons r2 (.cons r3 .nil)) =>
    cases r1
    cases r2
    cases r3
    obtain ⟨its, rv, p1, _⟩ := I1.list hqx
    obtain ⟨its2, rv2, p2, _⟩ := I1.list hqy
    obtain ⟨its3, rv3, p3, _⟩ := I1.list hqz
    have la : a < s1.heap.objs.size := p1.lt
    have lb : b < s1.heap.objs.size := p2.lt
    have lc : c < s1.heap.objs.size := p3.lt
    refine zip_begins3 (begins_list a its.toArray) (begins_list b its2.toArray) (begins_list c its3.toArray) p1.isList p2.isList p3.isList fun h' hz hTI hTO h1 h2 h3 hsz hk => wpAny_pyIter_zip hz ?_
    have I2 : Inv X pins σ H1 { s1 with heap := h' } := I1.kept (t' := s1.toks) hk
    have one : ∀ {x n : Addr}, x < n → ∀ q ∈ [x], q < n := fun hx q hq => by
      have e : q = _ := List.mem_singleton.mp hq
      rw [e]
      exact hx
    have sep := zip_sep3 (N := s1.heap.objs.size) (one la) (one lb) (one lc)
    refine ⟨s1.heap.objs.size + 5, [s1.heap.objs.size + 5, s1.heap.objs.size + 3, s1.heap.objs.size + 4, s1.heap.objs.size, s1.heap.objs.size + 1, s1.heap.objs.size + 2], _, _, H1, rfl, I2,
      turn_zip3 sep (Nat.ne_of_lt la) (Nat.ne_of_lt (Nat.lt_succ_of_lt lb)) (Nat.ne_of_lt (Nat.lt_succ_of_lt (Nat.lt_succ_of_lt lc))), ⟨hz, hTI, ⟨_, _, _, hTO⟩, ⟨_, h1, rfl, rfl⟩, ⟨_, h2, rfl, rfl⟩, ⟨_, h3, rfl, rfl⟩⟩, fun q hq => ?_, ‹_›⟩
    have e' : q = s1.heap.objs.size + 5 ∨ q = s1.heap.objs.size + 3 ∨ q = s1.heap.objs.size + 4 ∨ q = s1.heap.objs.size ∨ q = s1.heap.objs.size + 1 ∨ q = s1.heap.objs.size + 2 := by simpa using hq
    have hle : s1.heap.objs.size ≤ q := by
      rcases e' with e | e | e | e | e | e <;> rw [e] <;> first | exact Nat.le_add_right _ _ | exact Nat.le_refl _
    exact I1.fpOk hle (I1.hok.fresh hle)
/-- for x, y, z in zip(a, b, c) -/
theorem for_zip3 {K : PySem.W.Frag} {a b c : Addr} {xs ys zs : List V} {g : TG} {tb : TS} {D : Ends} {σ : L2.St} {H : Hp} (hy : ys.length = xs.length) (hz : zs.length = xs.length) (Pv : Nat → L2.St → Hp → Prop) (h0 : Pv 0 σ H)
    (hl : ∀ i σ H, Pv i σ H → SqL K H a xs ∧ SqL K H b ys ∧ SqL K H c zs)
    (ht : ∀ (i : Nat) (x y z : V) (σ : L2.St) (H : Hp) (T : Addr), xs[i]? = some x → ys[i]? = some y → zs[i]? = some z → Pv i σ H → H T = none → g (.ref T) σ (upd H T (.tup [x, y, z])) fun σ2 H2 => tb { nx := Pv (i + 1), rt := D.rt, bk := D.nx, ct := Pv (i + 1) } σ2 H2)
    (he : ∀ σ H, Pv xs.length σ H → D.nx σ H) :
    ∃ W : Nat → Nat → L2.St → Hp → Prop, (∃ m, W 0 m σ H) ∧ ∀ i m σ H, W i m σ H → ((Itz3 K a b c).stop i H ∧ D.nx σ H) ∨
      ((Itz3 K a b c).go i H ∧ ∃ N : L2.St → Hp → Prop, (∀ σ' H', N σ' H' → ∃ m', m' < m ∧ W (i + 1) m' σ' H') ∧
        ∀ x H', (Itz3 K a b c).yld i H x H' → g x σ H' fun σ2 H2 => tb { nx := N, rt := D.rt, bk := D.nx, ct := N } σ2 H2) := by
  refine ⟨fun i m σ H => Pv i σ H ∧ i + m = xs.length, ⟨xs.length, h0, by omega⟩, fun i m σ H hW => ?_⟩
  obtain ⟨hp, hm⟩ := hW
  obtain ⟨q1, q2, q3⟩ := hl i σ H hp
  by_cases hi : i < xs.length
  · refine .inr ⟨⟨xs, ys, zs, xs[i], ys[i], zs[i], q1, q2, q3, List.getElem?_eq_getElem hi, List.getElem?_eq_getElem (by omega), List.getElem?_eq_getElem (by omega)⟩, Pv (i + 1), fun σ' H' hN => ⟨m - 1, by omega, hN, by omega⟩, ?_⟩
    rintro v H' ⟨T, x, y, z, rfl, hT, rfl, f1, f2, f3⟩
    exact ht i x y z σ H T (f1 xs q1) (f2 ys q2) (f3 zs q3) hp hT
  · have e : i = xs.length := by omega
    subst e
    exact .inl ⟨⟨xs, ys, zs, q1, q2, q3, rfl, hy, hz⟩, he σ H hp⟩
/-- [.. for x, y in zip(a, b)] -/
theorem lc_zip {K : PySem.W.Frag} {a b : Addr} {xs ys : List V} {g : TG} {tt : TT} {te : TE} {vs : List Nat} {σ : L2.St} {H1 : Hp} {D : Addr} {Qd : Hp → Prop} (hy : ys.length = xs.length) (Pv : Nat → Hp → Prop) (h0 : Pv 0 (upd H1 D (.lst [])))
    (hl : ∀ i H, Pv i H → SqL K H a xs ∧ SqL K H b ys)
    (ht : ∀ (i : Nat) (x y : V) (H : Hp) (T : Addr), xs[i]? = some x → ys[i]? = some y → Pv i H → H T = none → g (.ref T) (wipe σ vs) (upd H T (.tup [x, y])) fun σ2 H2 => wipe σ2 vs = wipe σ vs ∧ tt σ2 H2 fun b H3 =>
      if b = true then te σ2 H3 fun y H4 => ∃ acc, H4 D = some (.lst acc) ∧ acc.length < sizeLine ∧ Pv (i + 1) (upd H4 D (.lst (acc ++ [y]))) else Pv (i + 1) H3)
    (he : ∀ H, Pv xs.length H → Qd H) :
    ∃ W : Nat → Nat → Hp → Prop, (∃ m, W 0 m (upd H1 D (.lst []))) ∧ ∀ i m H, W i m H → ((Itz K a b).stop i H ∧ Qd H) ∨
      ((Itz K a b).go i H ∧ ∃ Nx : Hp → Prop, (∀ H', Nx H' → ∃ m', m' < m ∧ W (i + 1) m' H') ∧
        ∀ x H', (Itz K a b).yld i H x H' → g x (wipe σ vs) H' fun σ2 H2 => wipe σ2 vs = wipe σ vs ∧ tt σ2 H2 fun b H3 =>
          if b = true then te σ2 H3 fun y H4 => ∃ acc, H4 D = some (.lst acc) ∧ acc.length < sizeLine ∧ Nx (upd H4 D (.lst (acc ++ [y]))) else Nx H3) := by
  refine ⟨fun i m H => Pv i H ∧ i + m = xs.length, ⟨xs.length, h0, by omega⟩, fun i m H hW => ?_⟩
  obtain ⟨hp, hm⟩ := hW
  obtain ⟨q1, q2⟩ := hl i H hp
  by_cases hi : i < xs.length
  · refine .inr ⟨⟨xs, ys, xs[i], ys[i], q1, q2, List.getElem?_eq_getElem hi, List.getElem?_eq_getElem (by omega)⟩, Pv (i + 1), fun H' hN => ⟨m - 1, by omega, hN, by omega⟩, ?_⟩
    rintro v H' ⟨T, x, y, rfl, hT, rfl, f1, f2⟩
    exact ht i x y H T (f1 xs q1) (f2 ys q2) hp hT
  · have e : i = xs.length := by omega
    subst e
    exact .inl ⟨⟨xs, ys, q1, q2, .inl (Nat.le_refl _)⟩, he H hp⟩
end MyZ

namespace My
open PySem PySem.Spec PyProof.Rows L2
/-! ### roundings compared -/
def stOf (us : List (Str × Int)) (d : Nat) (l n : Int) : Int := (stepsOf us d).getD (placeOf us l n) 0
def worthM (us : List (Str × Int)) (d : Nat) (s : Str) (c : Bool) (l n : Int) : Int := (placedM us d s c l n).2 * (stepsOf us d).getD (placedM us d s c l n).1 0
theorem place_lt {us : List (Str × Int)} {d : Nat} {s : Str} {l n : Int} (g : Good us d s l) (h0 : 0 ≤ n) : placeOf us l n < us.length := by
  have hc1 := cnt_pos (us := us) (l := l) h0
  have hc2 := cnt_le (l := l) (n := n) g.u.lo
  unfold placeOf
  omega
theorem st_pos {us : List (Str × Int)} {d : Nat} {s : Str} {l n : Int} (g : Good us d s l) (h0 : 0 ≤ n) : 0 < stOf us d l n ∧ stOf us d l n ≤ 1000000000000000000 := by
  obtain ⟨_, k2, k3⟩ := steps_ok g (place_lt g h0)
  exact ⟨k2, k3⟩
/-- sizes are so many steps -/
theorem sz_step {us : List (Str × Int)} {d : Nat} {s : Str} {l : Int} (g : Good us d s l) {k : Nat} (h1 : 1 ≤ k) (h2 : k < us.length) : szOf us k = (stepsOf us d).getD k 0 * 10 ^ d := by
  rw [step_at h1 h2]
  obtain ⟨j, rfl⟩ : ∃ j, k = j + 1 := ⟨k - 1, by omega⟩
  have hu : us[j + 1]? = some us[j + 1] := List.getElem?_eq_getElem h2
  have hm : us[j + 1] ∈ us.drop 1 := List.mem_of_getElem? (i := j) (by rw [List.getElem?_drop, Nat.add_comm 1 j]; exact hu)
  have hz := g.div _ hm
  rw [szOf_at hu]
  have hp := pow_lo d
  have hd : (10 ^ d : Int) ∣ us[j + 1].2 := Int.dvd_trans ⟨2, Int.mul_comm _ _⟩ (Int.dvd_of_emod_eq_zero hz)
  exact (Int.ediv_mul_cancel hd).symm
theorem sz_dvd {us : List (Str × Int)} (g : GoodUs us) {i : Nat} (h : i + 1 < us.length) : ∃ q : Int, szOf us (i + 1) = szOf us i * q := by
  have h1 : us[i + 1]? = some us[i + 1] := List.getElem?_eq_getElem h
  have h0 : us[i]? = some us[i] := List.getElem?_eq_getElem (by omega)
  obtain ⟨_, _, _, hf⟩ := g.each (i + 1) _ h1
  rw [szOf_at h1, szOf_at h0]
  have el : (us.take (i + 1)).length = i + 1 := by rw [List.length_take]; omega
  rcases hf with ⟨e, _⟩ | ⟨l, hl, _, _, _, h4, _⟩
  · rw [e] at el
    cases el
  · rw [el, Nat.add_sub_cancel, List.getElem?_take, if_pos (Nat.lt_succ_self i), h0] at hl
    rw [Option.some.inj hl]
    exact Int.dvd_of_emod_eq_zero h4
theorem next_thr {us : List (Str × Int)} {d : Nat} {s : Str} {l n : Int} (g : Good us d s l) (h0 : 0 ≤ n) (hp : placeOf us l n + 1 < us.length) : n < (thrsOf us l).getD (placeOf us l n + 1) 0 := by
  have hr := reached (n := n) g.u g.l1 h0 hp
  have e : (thrsOf us l).getD (placeOf us l n + 1) 0 = szOf us (placeOf us l n + 1) * l := by rw [List.getD_eq_getElem?_getD, thr_at (by omega) hp]; rfl
  rw [e]
  rcases Int.lt_or_le n (szOf us (placeOf us l n + 1) * l) with z | z
  · exact z
  · have := hr.mp (.inr z)
    omega
theorem down_not {us : List (Str × Int)} {d : Nat} {s : Str} {c : Bool} {l n m : Int} (g : Good us d s l) (h0 : 0 ≤ n) (hm : m * stOf us d l n ≤ n) : isCar us d c l (placeOf us l n) m = false := by
  unfold isCar
  by_cases hp : placeOf us l n + 1 < us.length
  · have h1 := next_thr g h0 hp
    have h2 : ¬ (thrsOf us l).getD (placeOf us l n + 1) 0 ≤ m * (stepsOf us d).getD (placeOf us l n) 0 := fun y => by
      have h3 : m * (stepsOf us d).getD (placeOf us l n) 0 ≤ n := hm
      omega
    rw [decide_eq_false h2, Bool.and_false, Bool.and_false]
  · rw [decide_eq_false hp, Bool.false_and, Bool.and_false]
theorem rnd_of {n st b r : Int} {s : Str} (h0 : 0 ≤ r) (h1 : r < st) (e : n = b * st + r) : rnd n st s = if goesUp b r st s = true then b + 1 else b := by
  have e1 : n / st = b := by
    rw [e, Int.add_comm, Int.add_mul_ediv_right _ _ (by omega), Int.ediv_eq_zero_of_lt h0 h1, Int.zero_add]
  have e2 : n % st = r := by
    rw [e, Int.add_comm, Int.add_mul_emod_self_right, Int.emod_eq_of_lt h0 h1]
  unfold rnd
  rw [e1, e2]
theorem goes_cases (b r st : Int) (s : Str) : (s = "up" ∧ goesUp b r st s = decide (0 < r)) ∨ (s = "near" ∧ goesUp b r st s = decide (st ≤ 2 * r)) ∨ (s = "even" ∧ goesUp b r st s = (decide (st < 2 * r) || (decide (2 * r = st) && decide (b % 2 = 1)))) ∨ (s ≠ "up" ∧ s ≠ "near" ∧ s ≠ "even" ∧ goesUp b r st s = false) := by
  unfold goesUp
  by_cases h1 : s = "up"
  · exact .inl ⟨h1, by rw [if_pos h1]⟩
  · by_cases h2 : s = "near"
    · exact .inr (.inl ⟨h2, by rw [if_neg h1, if_pos h2]⟩)
    · by_cases h3 : s = "even"
      · exact .inr (.inr (.inl ⟨h3, by rw [if_neg h1, if_neg h2, if_pos h3]⟩))
      · exact .inr (.inr (.inr ⟨h1, h2, h3, by rw [if_neg h1, if_neg h2, if_neg h3]⟩))
/-- the worth of a number's figure, whether it is carried or not -/
theorem worth_core {us : List (Str × Int)} {d : Nat} {s : Str} {c : Bool} {l n : Int} (g : Good us d s l) (h0 : 0 ≤ n) : worthM us d s c l n = rnd n (stOf us d l n) s * stOf us d l n := by
  have hpl := place_lt g h0
  obtain ⟨sp, sp2⟩ := st_pos g h0
  unfold worthM placedM
  cases ec : isCar us d c l (placeOf us l n) (rnd n ((stepsOf us d).getD (placeOf us l n) 0) s) with
  | false =>
    rw [if_neg Bool.false_ne_true]
    rfl
  | true =>
    rw [if_pos rfl]
    show rnd n ((stepsOf us d).getD (placeOf us l n + 1) 0) s * (stepsOf us d).getD (placeOf us l n + 1) 0 = _
    have hp1 := isCar_lt ec
    have hlt := next_thr g h0 hp1
    have hT : (thrsOf us l).getD (placeOf us l n + 1) 0 ≤ rnd n (stOf us d l n) s * stOf us d l n := by
      unfold isCar at ec
      rw [Bool.and_eq_true, Bool.and_eq_true] at ec
      exact of_decide_eq_true ec.2.2
    have eT : (thrsOf us l).getD (placeOf us l n + 1) 0 = szOf us (placeOf us l n + 1) * l := by rw [List.getD_eq_getElem?_getD, thr_at (by omega) hp1]; rfl
    have hz1 := sz_step g (k := placeOf us l n + 1) (by omega) hp1
    have hst' := (steps_ok g hp1).2
    have hmod0 := Int.emod_nonneg n (b := stOf us d l n) (by omega)
    have hmod1 := Int.emod_lt_of_pos n sp
    have hdm := Int.mul_ediv_add_emod n (stOf us d l n)
    -- so many steps are the threshold
    have hdiv : ∃ q : Int, szOf us (placeOf us l n + 1) = stOf us d l n * q ∧ (1 ≤ placeOf us l n → stOf us d l n < (stepsOf us d).getD (placeOf us l n + 1) 0) ∧ (placeOf us l n = 0 → stOf us d l n = 1) := by
      rcases Nat.eq_zero_or_pos (placeOf us l n) with z | z
      · refine ⟨szOf us (placeOf us l n + 1), ?_, fun y => by omega, fun _ => ?_⟩
        · have : stOf us d l n = 1 := by unfold stOf; rw [z]; rfl
          rw [this, Int.one_mul]
        · unfold stOf
          rw [z]
          rfl
      · obtain ⟨q, hq⟩ := sz_dvd g.u hp1
        have hz0 := sz_step g (k := placeOf us l n) z hpl
        have hup := sz_up g.u hp1
        refine ⟨10 ^ d * q, ?_, fun _ => ?_, fun y => by omega⟩
        · rw [hq, hz0, Int.mul_assoc]
          rfl
        · have hp := pow_lo d
          rw [hz0, hz1] at hup
          exact Int.lt_of_mul_lt_mul_right hup (Int.le_of_lt hp)
    obtain ⟨q, hq, hbig, hone⟩ := hdiv
    have eT2 : szOf us (placeOf us l n + 1) * l = (q * l) * stOf us d l n := by rw [hq, Int.mul_assoc, Int.mul_comm]
    have eT3 : szOf us (placeOf us l n + 1) * l = (10 ^ d * l) * (stepsOf us d).getD (placeOf us l n + 1) 0 := by rw [hz1, Int.mul_assoc, Int.mul_comm]
    rw [eT, eT2] at hlt hT
    generalize (stepsOf us d).getD (placeOf us l n + 1) 0 = st' at hst' hbig eT3 ⊢
    rw [eT2] at eT3
    generalize q * l = Q at hlt hT eT3
    generalize (10 ^ d * l : Int) = Q' at eT3
    generalize stOf us d l n = st at *
    have hr := rnd_of (n := n) (st := st) (b := n / st) (r := n % st) (s := s) hmod0 hmod1 (by rw [Int.mul_comm (n / st) st]; omega)
    generalize n / st = b at *
    generalize n % st = r at *
    have hbQ : b < Q := by
      rcases Int.lt_or_le b Q with z | z
      · exact z
      · exfalso
        have h1 : Q * st ≤ b * st := Int.mul_le_mul_of_nonneg_right z (by omega)
        rw [Int.mul_comm b st] at h1
        omega
    cases eg : goesUp b r st s with
    | false =>
      rw [eg, if_neg Bool.false_ne_true] at hr
      rw [hr] at hT
      exfalso
      rw [Int.mul_comm b st] at hT
      omega
    | true =>
      rw [eg, if_pos rfl] at hr
      rw [hr] at hT ⊢
      have hQb : b + 1 = Q := by
        have h1 : Q ≤ b + 1 := by
          rcases Int.lt_or_le (b + 1) Q with z | z
          · exfalso
            have h1 : (b + 1 + 1) * st ≤ Q * st := Int.mul_le_mul_of_nonneg_right (by omega) (by omega)
            have h2 : (b + 1 + 1) * st = (b + 1) * st + st := by rw [Int.add_mul, Int.one_mul]
            omega
          · exact z
        omega
      rw [hQb, eT3]
      -- the rest to the threshold
      have hk : Q * st = st * b + st := by rw [← hQb, Int.add_mul, Int.one_mul, Int.mul_comm b st]
      have e' : n = (Q' - 1) * st' + (st' - (st - r)) := by
        rw [Int.sub_mul, Int.one_mul, ← eT3, hk]
        omega
      have hr0 : 0 < r := by
        rcases goes_cases b r st s with ⟨_, h⟩ | ⟨_, h⟩ | ⟨_, h⟩ | ⟨_, _, _, h⟩ <;> rw [h] at eg
        · exact of_decide_eq_true eg
        · have := of_decide_eq_true eg
          omega
        · rw [Bool.or_eq_true, Bool.and_eq_true] at eg
          rcases eg with y | y
          · have := of_decide_eq_true y
            omega
          · have := of_decide_eq_true y.1
            omega
        · cases eg
      have hb1 : 1 ≤ placeOf us l n := by
        rcases Nat.eq_zero_or_pos (placeOf us l n) with z | z
        · have := hone z
          omega
        · exact z
      have hlt' := hbig hb1
      have hr2 := rnd_of (n := n) (st := st') (b := Q' - 1) (r := st' - (st - r)) (s := s) (by omega) (by omega) e'
      have eg' : goesUp (Q' - 1) (st' - (st - r)) st' s = true := by
        rcases goes_cases b r st s with ⟨hs, h⟩ | ⟨hs, h⟩ | ⟨hs, h⟩ | ⟨_, _, _, h⟩ <;> rw [h] at eg
        · rcases goes_cases (Q' - 1) (st' - (st - r)) st' s with ⟨_, h'⟩ | ⟨z, _⟩ | ⟨z, _⟩ | ⟨z, _⟩
          · rw [h']; exact decide_eq_true (by omega)
          · rw [hs] at z; exact absurd z (by decide +kernel)
          · rw [hs] at z; exact absurd z (by decide +kernel)
          · exact absurd hs z
        · have h2 := of_decide_eq_true eg
          rcases goes_cases (Q' - 1) (st' - (st - r)) st' s with ⟨z, _⟩ | ⟨_, h'⟩ | ⟨z, _⟩ | ⟨_, z, _⟩
          · rw [hs] at z; exact absurd z (by decide +kernel)
          · rw [h']; exact decide_eq_true (by omega)
          · rw [hs] at z; exact absurd z (by decide +kernel)
          · exact absurd hs z
        · have h2 : st ≤ 2 * r := by
            rw [Bool.or_eq_true, Bool.and_eq_true] at eg
            rcases eg with y | y
            · have := of_decide_eq_true y
              omega
            · have := of_decide_eq_true y.1
              omega
          rcases goes_cases (Q' - 1) (st' - (st - r)) st' s with ⟨z, _⟩ | ⟨z, _⟩ | ⟨_, h'⟩ | ⟨_, _, z, _⟩
          · rw [hs] at z; exact absurd z (by decide +kernel)
          · rw [hs] at z; exact absurd z (by decide +kernel)
          · rw [h', Bool.or_eq_true]; exact .inl (decide_eq_true (by omega))
          · exact absurd hs z
        · cases eg
      rw [hr2, eg', if_pos rfl, Int.sub_add_cancel]
end My

namespace My
open PySem PySem.Spec PyProof.Rows L2
theorem goes_down (b r st : Int) : goesUp b r st "down" = false := by
  rcases goes_cases b r st "down" with ⟨z, _⟩ | ⟨z, _⟩ | ⟨z, _⟩ | ⟨_, _, _, h⟩
  · exact absurd z (by decide +kernel)
  · exact absurd z (by decide +kernel)
  · exact absurd z (by decide +kernel)
  · exact h
theorem goes_zero {b st : Int} {s : Str} (h : 0 < st) : goesUp b 0 st s = false := by
  rcases goes_cases b 0 st s with ⟨_, e⟩ | ⟨_, e⟩ | ⟨_, e⟩ | ⟨_, _, _, e⟩ <;> rw [e]
  · rfl
  · exact decide_eq_false (by omega)
  · rw [decide_eq_false (show ¬ st < 2 * 0 by omega), decide_eq_false (show ¬ (2 : Int) * 0 = st by omega)]
    rfl
theorem placed_down {us : List (Str × Int)} {d : Nat} {s : Str} {c : Bool} {l n : Int} (g : Good us d s l) (h0 : 0 ≤ n) : placedM us d "down" c l n = (placeOf us l n, n / stOf us d l n) := by
  obtain ⟨sp, _⟩ := st_pos g h0
  have er : rnd n (stOf us d l n) "down" = n / stOf us d l n := by
    unfold rnd
    rw [goes_down, if_neg Bool.false_ne_true]
  unfold placedM
  show (if isCar us d c l (placeOf us l n) (rnd n (stOf us d l n) "down") = true then _ else (placeOf us l n, rnd n (stOf us d l n) "down")) = _
  rw [er, down_not g h0 (Int.ediv_mul_le n (by omega)), if_neg Bool.false_ne_true]
theorem place_back {us : List (Str × Int)} {d : Nat} {s : Str} {l n : Int} (g : Good us d s l) (h0 : 0 ≤ n) : 0 ≤ n / stOf us d l n * stOf us d l n ∧ n / stOf us d l n * stOf us d l n ≤ n ∧ placeOf us l (n / stOf us d l n * stOf us d l n) = placeOf us l n := by
  obtain ⟨sp, _⟩ := st_pos g h0
  have hpl := place_lt g h0
  have h1 : n / stOf us d l n * stOf us d l n ≤ n := Int.ediv_mul_le n (by omega)
  have h2 : 0 ≤ n / stOf us d l n * stOf us d l n := Int.mul_nonneg (Int.ediv_nonneg h0 (by omega)) (by omega)
  refine ⟨h2, h1, ?_⟩
  have hv := place_lt g h2
  have a1 : placeOf us l (n / stOf us d l n * stOf us d l n) ≤ placeOf us l n := by
    refine (reached (n := n) g.u g.l1 h0 hv).mp ?_
    rcases (reached g.u g.l1 h2 hv).mpr (Nat.le_refl _) with y | y
    · exact .inl y
    · exact .inr (Int.le_trans y h1)
  have a2 : placeOf us l n ≤ placeOf us l (n / stOf us d l n * stOf us d l n) := by
    refine (reached g.u g.l1 h2 hpl).mp ?_
    rcases (reached g.u g.l1 h0 hpl).mpr (Nat.le_refl _) with y | y
    · exact .inl y
    · rcases Nat.eq_zero_or_pos (placeOf us l n) with z | z
      · exact .inl z
      · refine .inr ?_
        have e := sz_step g z hpl
        have e2 : szOf us (placeOf us l n) * l = (10 ^ d * l) * stOf us d l n := by
          rw [e, Int.mul_assoc, Int.mul_comm]
          rfl
        rw [e2] at y ⊢
        exact Int.mul_le_mul_of_nonneg_right ((Int.le_ediv_iff_mul_le sp).mpr y) (by omega)
  omega
theorem placed_back {us : List (Str × Int)} {d : Nat} {s : Str} {c : Bool} {l n : Int} (g : Good us d s l) (h0 : 0 ≤ n) : placedM us d s c l (n / stOf us d l n * stOf us d l n) = (placeOf us l n, n / stOf us d l n) := by
  obtain ⟨sp, _⟩ := st_pos g h0
  obtain ⟨v0, v1, ev⟩ := place_back g h0
  have es : stOf us d l (n / stOf us d l n * stOf us d l n) = stOf us d l n := by
    unfold stOf
    unfold stOf at ev
    rw [ev]
  have er : rnd (n / stOf us d l n * stOf us d l n) (stOf us d l n) s = n / stOf us d l n := by
    rw [rnd_of (b := n / stOf us d l n) (r := 0) (Int.le_refl 0) sp (by omega), goes_zero sp, if_neg Bool.false_ne_true]
  have hn := down_not (c := c) g v0 (m := n / stOf us d l n) (by rw [es]; exact Int.le_refl _)
  unfold placedM
  show (if isCar us d c l (placeOf us l (n / stOf us d l n * stOf us d l n)) (rnd _ (stOf us d l (n / stOf us d l n * stOf us d l n)) s) = true then _ else (placeOf us l (n / stOf us d l n * stOf us d l n), rnd _ (stOf us d l (n / stOf us d l n * stOf us d l n)) s)) = _
  rw [es, er, hn, if_neg Bool.false_ne_true, ev]
theorem worth_val {us : List (Str × Int)} {d : Nat} {s : Str} {c : Bool} {l n : Int} (g : Good us d s l) (h0 : 0 ≤ n) :
    worthM us d s c l n = if goesUp (n / stOf us d l n) (n % stOf us d l n) (stOf us d l n) s = true then n / stOf us d l n * stOf us d l n + stOf us d l n else n / stOf us d l n * stOf us d l n := by
  rw [worth_core g h0]
  unfold rnd
  split
  · rw [Int.add_mul, Int.one_mul]
  · rfl
theorem Good.sort {us : List (Str × Int)} {d : Nat} {s t : Str} {l : Int} (g : Good us d s l) (h : t ∈ sorts) : Good us d t l := ⟨g.u, g.d3, g.div, h, g.l1, g.l2⟩
theorem cmp_abs {n st b r B w0 w1 w2 w3 : Int} (sp : 0 < st) (m0 : 0 ≤ r) (m1 : r < st) (hdm : B + r = n) (e0 : w0 = B)
    (e1 : w1 = if st ≤ 2 * r then B + st else B) (e2 : w2 = if st < 2 * r ∨ 2 * r = st ∧ b % 2 = 1 then B + st else B) (e3 : w3 = if 0 < r then B + st else B) :
    (w0 ≤ w1 ∧ w1 ≤ w3) ∧ (w0 ≤ w2 ∧ w2 ≤ w3) ∧ (w3 - w0 = if w0 = n then 0 else st) ∧ (w1 ≠ w2 → 2 * (n - w0) = st ∧ ¬ b % 2 = 1 ∧ w2 = w0) := by
  have f1 : (st ≤ 2 * r ∧ w1 = B + st) ∨ (¬ st ≤ 2 * r ∧ w1 = B) := by
    split at e1
    · exact .inl ⟨‹_›, e1⟩
    · exact .inr ⟨‹_›, e1⟩
  have f2 : ((st < 2 * r ∨ 2 * r = st ∧ b % 2 = 1) ∧ w2 = B + st) ∨ (¬ (st < 2 * r ∨ 2 * r = st ∧ b % 2 = 1) ∧ w2 = B) := by
    split at e2
    · exact .inl ⟨‹_›, e2⟩
    · exact .inr ⟨‹_›, e2⟩
  have f3 : (0 < r ∧ w3 = B + st) ∨ (¬ 0 < r ∧ w3 = B) := by
    split at e3
    · exact .inl ⟨‹_›, e3⟩
    · exact .inr ⟨‹_›, e3⟩
  clear e1 e2 e3
  refine ⟨by omega, by omega, ?_, fun hne => by omega⟩
  split <;> omega
/-- what is asked of the four worths, their base b * st, the rest r -/
structure Cmp (n st : Int) (w0 w1 w2 w3 : Int) : Prop where
  e0 : w0 = n / st * st
  o1 : w0 ≤ w1 ∧ w1 ≤ w3
  o2 : w0 ≤ w2 ∧ w2 ≤ w3
  e3 : w3 - w0 = if w0 = n then 0 else st
  ne : w1 ≠ w2 → 2 * (n - w0) = st ∧ ¬ n / st % 2 = 1 ∧ w2 = w0
theorem cmp_ok {us : List (Str × Int)} {d : Nat} {s : Str} {c : Bool} {l n : Int} (g : Good us d s l) (h0 : 0 ≤ n) : Cmp n (stOf us d l n) (worthM us d "down" c l n) (worthM us d "near" c l n) (worthM us d "even" c l n) (worthM us d "up" c l n) := by
  obtain ⟨sp, _⟩ := st_pos g h0
  have e0 := worth_val (c := c) (g.sort (t := "down") (by simp [sorts])) h0
  have e1 := worth_val (c := c) (g.sort (t := "near") (by simp [sorts])) h0
  have e2 := worth_val (c := c) (g.sort (t := "even") (by simp [sorts])) h0
  have e3 := worth_val (c := c) (g.sort (t := "up") (by simp [sorts])) h0
  have m0 := Int.emod_nonneg n (b := stOf us d l n) (by omega)
  have m1 := Int.emod_lt_of_pos n sp
  have hdm := Int.mul_ediv_add_emod n (stOf us d l n)
  rw [Int.mul_comm] at hdm
  rw [goes_down, if_neg Bool.false_ne_true] at e0
  have u1 : goesUp (n / stOf us d l n) (n % stOf us d l n) (stOf us d l n) "near" = decide (stOf us d l n ≤ 2 * (n % stOf us d l n)) := by
    unfold goesUp
    rw [if_neg (by decide +kernel), if_pos rfl]
  have u2 : goesUp (n / stOf us d l n) (n % stOf us d l n) (stOf us d l n) "even" = (decide (stOf us d l n < 2 * (n % stOf us d l n)) || (decide (2 * (n % stOf us d l n) = stOf us d l n) && decide (n / stOf us d l n % 2 = 1))) := by
    unfold goesUp
    rw [if_neg (by decide +kernel), if_neg (by decide +kernel), if_pos rfl]
  have u3 : goesUp (n / stOf us d l n) (n % stOf us d l n) (stOf us d l n) "up" = decide (0 < n % stOf us d l n) := by
    unfold goesUp
    rw [if_pos rfl]
  rw [u1] at e1
  rw [u2] at e2
  rw [u3] at e3
  simp only [decide_eq_true_eq, Bool.or_eq_true, Bool.and_eq_true] at e1 e2 e3
  obtain ⟨q1, q2, q3, q4⟩ := cmp_abs sp m0 m1 hdm e0 e1 e2 e3
  exact ⟨e0, q1, q2, q3, q4⟩
end My

namespace My
open PySem PySem.Spec PyProof.Rows L2
/-! ### stretches -/
abbrev sFirstR : Stmt := top 40
abbrev sStartOf : Stmt := top 41
abbrev sNums : Stmt := top 42
theorem scFirstR : FnScope ["mark", "step", "rounding", "middle"] ["mark", "step", "rounding"] (defScope sFirstR) := ⟨rfl, rfl, rfl, by decide +kernel, rfl, by decide +kernel, by decide +kernel⟩
theorem scStartOf : FnScope ["ladder", "place", "threshold", "step"] ["ladder", "place"] (defScope sStartOf) := ⟨rfl, rfl, rfl, by decide +kernel, rfl, by decide +kernel, by decide +kernel⟩
theorem scNums : FnScope ["ladder", "place", "mark", "step", "low", "high"] ["ladder", "place", "mark"] (defScope sNums) := ⟨rfl, rfl, rfl, by decide +kernel, rfl, by decide +kernel, by decide +kernel⟩
/-- the first number that is rounded to a mark -/
def firstR (m st : Int) (s : Str) : Int :=
  if m = 0 ∨ st = 1 ∨ s = "down" then m * st else if s = "up" then (m - 1) * st + 1 else if s = "even" ∧ m % 2 = 1 then m * st - st / 2 + 1 else m * st - st / 2
/-- the first number that is shown with the unit at p -/
def startM (us : List (Str × Int)) (d : Nat) (s : Str) (c : Bool) (l : Int) (p : Nat) : Int :=
  if p = 0 ∨ c = false then (thrsOf us l).getD p 0 else firstR ((thrsOf us l).getD p 0 / (stepsOf us d).getD (p - 1) 0) ((stepsOf us d).getD (p - 1) 0) s
def max2 (x y : Int) : Int := if y > x then y else x
def min2 (x y : Int) : Int := if y < x then y else x
def lowM (us : List (Str × Int)) (d : Nat) (s : Str) (c : Bool) (l : Int) (p : Nat) (m : Int) : Int := max2 (firstR m ((stepsOf us d).getD p 0) s) (startM us d s c l p)
def highM (us : List (Str × Int)) (d : Nat) (s : Str) (c : Bool) (l : Int) (p : Nat) (m : Int) : Int :=
  if p + 1 < us.length then min2 (firstR (m + 1) ((stepsOf us d).getD p 0) s - 1) (startM us d s c l (p + 1) - 1) else firstR (m + 1) ((stepsOf us d).getD p 0) s - 1
def spFirstR : Sp := fun vs H Q _ => ∃ (m st : Int) (s : Str), vs = [.int m, .int st, .str s] ∧ 0 < st ∧ st ≤ 1000000000000000000 ∧ Q (.int (firstR m st s)) H
def spStartOf (K : PySem.W.Frag) (C : Addr) : Sp := fun vs H Q _ => ∃ (a : Addr) (us : List (Str × Int)) (d : Nat) (s : Str) (c : Bool) (l : Int) (p : Nat), vs = [.ref a, .int (p : Int)] ∧ LadAt K C H a us d s c l ∧ Good us d s l ∧ p < us.length ∧ Q (.int (startM us d s c l p)) H
def spNums (K : PySem.W.Frag) (C : Addr) : Sp := fun vs H Q _ => ∃ (a : Addr) (us : List (Str × Int)) (d : Nat) (s : Str) (c : Bool) (l : Int) (p : Nat) (m : Int), vs = [.ref a, .int (p : Int), .int m] ∧ LadAt K C H a us d s c l ∧ Good us d s l ∧ p < us.length ∧
  (highM us d s c l p m < lowM us d s c l p m → Q .non H) ∧ (lowM us d s c l p m ≤ highM us d s c l p m → ∀ (r : Addr) (H' : Hp), Same H H' → SqT K H' r [.int (lowM us d s c l p m), .int (highM us d s c l p m)] → Q (.ref r) H')
theorem thr_get {us : List (Str × Int)} {d : Nat} {s : Str} {l : Int} (g : Good us d s l) {p : Nat} (hp : p < us.length) : (thrsOf us l)[p]? = some ((thrsOf us l).getD p 0) := by
  have e := len_thrs us l g.u.lo
  have h1 : (thrsOf us l)[p]? = some (thrsOf us l)[p] := List.getElem?_eq_getElem (by omega)
  rw [List.getD_eq_getElem?_getD, h1]
  rfl
theorem divw_small {i j : Int} (h : 0 < j) (hj : j ≤ 1000000000000000000) : CDivW i j := ⟨h, Nat.lt_of_lt_of_le (PySem.Flt.log2_lt_of (k := 64) (by decide) (by omega)) (by decide)⟩
section
variable {P : Program} {w : World} {K : PySem.W.Frag} {mg : Str → Option Value} {base : Heap}
theorem ok_firstr (d : Dd K mg "first_rounded" sFirstR ["mark", "step", "rounding"]) : FnOk P w K mg base CX0 2 d.f d.fd ["mark", "step", "rounding"] spFirstR := by
  refine d.F.ok scFirstR (fun vs H Q E h => ?_) (fun cdv A outer s H vs Q E hr h => ?_)
  · obtain ⟨_, _, _, rfl, _⟩ := h
    rfl
  · obtain ⟨m, st, z, rfl, h0, h1, q⟩ := h
    have nd := scFirstR.nd
    refine ⟨_, pss_cons (ps_if (PW.pt (pw_or (pt_cmpR op_eq (pv 0) pe_int (nomark _)) (pw_or (pt_cmpR op_eq (pv 1) pe_int (nomark _)) (pw_or1 (pt_cmpR op_eq (pv 2) pe_str (nomark _)))))) (pss_one (ps_ret (pe_op op_mul (pv 0) (pv 1)))) pss_nil)
      (pss_cons (ps_if (pt_cmpR op_eq (pv 2) pe_str (nomark _)) (pss_one (ps_ret (pe_op op_add (pe_op op_mul (pe_op op_sub (pv 0) pe_int) (pv 1)) pe_int))) pss_nil)
      (pss_cons (ps_set (i := 3) nd rfl (.inl rfl) (pe_op op_sub (pe_op op_mul (pv 0) (pv 1)) (pe_op op_fdiv (pv 1) pe_int)))
      (pss_cons (ps_if (PW.pt (pw_and (pt_cmpR op_eq (pv 2) pe_str (nomark _)) (pw_and1 (pt_cmpR op_eq (pe_op op_mod (pv 0) pe_int) pe_int (nomark _))))) (pss_one (ps_ret (pe_op op_add (pv 3) pe_int))) pss_nil)
      (pss_one (ps_ret (pv 3)))))), ?_⟩
    have hd : ∀ x : Str, decide (V.str z = V.str x) = true → z = x := fun x e => V.str.inj (of_decide_eq_true e)
    have hn : ∀ x : Str, ¬ decide (V.str z = V.str x) = true → ¬ z = x := fun x e y => e (decide_eq_true (congrArg V.str y))
    have hi : ∀ x y : Int, decide (V.int x = V.int y) = true → x = y := fun x y e => V.int.inj (of_decide_eq_true e)
    have hni : ∀ x y : Int, ¬ decide (V.int x = V.int y) = true → ¬ x = y := fun x y e k => e (decide_eq_true (congrArg V.int k))
    have first : (m = 0 ∨ st = 1 ∨ z = "down") → Q (.int (m * st)) H := fun e => by
      unfold firstR at q
      rw [if_pos e] at q
      exact q
    refine ⟨_, rfl, rfl, _, rfl, ite2 (fun e => ?_) (fun e => ?_)⟩
    · refine iteT ?_
      exact ⟨_, rfl, _, rfl, m, st, rfl, rfl, .inr ⟨by omega, by omega⟩, first (.inl (hi _ _ e))⟩
    refine ⟨_, rfl, rfl, _, rfl, ite2 (fun e1 => ?_) (fun e1 => ?_)⟩
    · refine iteT ?_
      exact ⟨_, rfl, _, rfl, m, st, rfl, rfl, .inr ⟨by omega, by omega⟩, first (.inr (.inl (hi _ _ e1)))⟩
    refine ⟨_, rfl, rfl, _, rfl, ite2 (fun e2 => ?_) (fun e2 => ?_)⟩
    · exact ⟨_, rfl, _, rfl, m, st, rfl, rfl, .inr ⟨by omega, by omega⟩, first (.inr (.inr (hd _ e2)))⟩
    unfold firstR at q
    rw [if_neg (fun y => y.elim (hni _ _ e) (fun y => y.elim (hni _ _ e1) (hn _ e2)))] at q
    refine ⟨_, rfl, rfl, _, rfl, ite2 (fun e3 => ?_) (fun e3 => ?_)⟩
    · rw [if_pos (hd _ e3)] at q
      exact ⟨_, rfl, m, 1, rfl, rfl, _, rfl, _, st, rfl, rfl, .inr ⟨by omega, by omega⟩, _, _, rfl, rfl, q⟩
    rw [if_neg (hn _ e3)] at q
    refine ⟨_, rfl, _, rfl, m, st, rfl, rfl, .inr ⟨by omega, by omega⟩, _, rfl, st, 2, rfl, rfl, ⟨by decide, by decide⟩, _, _, rfl, rfl, ?_⟩
    refine ⟨_, rfl, rfl, _, rfl, ite2 (fun e4 => ?_) (fun e4 => ?_)⟩
    · refine ⟨_, rfl, m, 2, rfl, rfl, (by show (0 : Int) < 2; decide), rfl, _, rfl, ite2 (fun e5 => ?_) (fun e5 => ?_)⟩
      · rw [if_pos ⟨hd _ e4, hi _ _ e5⟩] at q
        exact ⟨_, rfl, _, 1, rfl, rfl, q⟩
      · rw [if_neg (fun y => hni _ _ e5 y.2)] at q
        exact ⟨_, rfl, q⟩
    · rw [if_neg (fun y => hn _ e4 y.1)] at q
      exact ⟨_, rfl, q⟩
theorem ok_startof (d : Dd K mg "start_of" sStartOf ["ladder", "place"]) (dR : Dd K mg "first_rounded" sFirstR ["mark", "step", "rounding"]) (L : LadC K mg) : FnOk P w K mg base CX0 3 d.f d.fd ["ladder", "place"] (spStartOf K L.C) := by
  have GR : FnOk P w K mg base CX0 2 dR.f dR.fd ["mark", "step", "rounding"] spFirstR := ok_firstr dR
  refine d.F.ok scStartOf (fun vs H Q E h => ?_) (fun cdv A outer s H vs Q E hr h => ?_)
  · obtain ⟨_, _, _, _, _, _, _, rfl, _⟩ := h
    rfl
  · obtain ⟨a, us, dn, z, c, l, p, rfl, ⟨dx, ua, t, st, th, hp, hua, ht, hs, hth⟩, g, hlt, q⟩ := h
    have nd := scStartOf.nd
    refine ⟨_, pss_cons (ps_set (i := 2) nd rfl (.inl rfl) (pe_ix ix_tup (pe_fld (pv 0) rfl) (pv 1) (fun _ _ => rfl)))
      (pss_cons (ps_if (PW.pt (pw_or (pt_cmpR op_eq (pv 1) pe_int (nomark _)) (pw_or1 (pt_not (pt_val (pe_fld (pv 0) rfl)))))) (pss_one (ps_ret (pv 2))) pss_nil)
      (pss_cons (ps_set (i := 3) nd rfl (.inl rfl) (pe_ix ix_tup (pe_fld (pv 0) rfl) (pe_op op_sub (pv 1) pe_int) (fun _ _ => rfl)))
      (pss_one (ps_ret (pe_call GR hr (by rfl) dR.g dR.F.kp dR.b .nil pass0 (pa_cons (pe_op op_fdivW (pv 2) (pv 3)) (pa_cons (pv 3) (pa_cons (pe_fld (pv 0) rfl) pa_nil)))))))), ?_⟩
    have ht0 := thr_get g hlt
    unfold startM at q
    refine ⟨_, rfl, a, L.C, dx, _, _, rfl, hp, L.cl, L.nThr, fl_thr .., _, rfl, th, _, p, .int ((thrsOf us l).getD p 0), rfl, rfl, hth, atI_nat (by rw [List.getElem?_map, ht0]; rfl), ?_⟩
    refine ⟨_, rfl, rfl, _, rfl, ite2 (fun e => ?_) (fun e => ?_)⟩
    · have e0 : p = 0 := by have := V.int.inj (of_decide_eq_true e); omega
      rw [if_pos (.inl e0)] at q
      exact iteT ⟨_, rfl, q⟩
    have e0 : ¬ p = 0 := fun y => e (decide_eq_true (by rw [y]; rfl))
    refine ⟨_, rfl, a, L.C, dx, _, _, rfl, hp, L.cl, L.nCarry, fl_carry .., _, rfl, ?_⟩
    cases c with
    | false =>
      rw [if_pos (.inr rfl)] at q
      exact iteT ⟨_, rfl, q⟩
    | true =>
      rw [if_neg (fun y => y.elim e0 (fun y => Bool.noConfusion y))] at q
      refine iteF ?_
      obtain ⟨k1, k2, k3⟩ := steps_ok g (p := p - 1) (by omega)
      have ep : (p : Int) - 1 = ((p - 1 : Nat) : Int) := by omega
      refine ⟨_, rfl, a, L.C, dx, _, _, rfl, hp, L.cl, L.nSteps, fl_steps .., _, rfl, p, 1, rfl, rfl, st, _, ((p - 1 : Nat) : Int), .int ((stepsOf us dn).getD (p - 1) 0), rfl, congrArg V.int ep, hs, atI_nat (by rw [List.getElem?_map, k1]; rfl), ?_⟩
      refine ⟨_, rfl, _, rfl, _, _, rfl, rfl, divw_small k2 k3, _, rfl, _, rfl, a, L.C, dx, _, _, rfl, hp, L.cl, L.nRnd, fl_rnd .., _, _, z, rfl, k2, k3, q⟩
theorem ok_nums (d : Dd K mg "numbers_shown" sNums ["ladder", "place", "mark"]) (dS : Dd K mg "start_of" sStartOf ["ladder", "place"]) (dR : Dd K mg "first_rounded" sFirstR ["mark", "step", "rounding"]) (L : LadC K mg) (B : Bt mg) : FnOk P w K mg base CX0 4 d.f d.fd ["ladder", "place", "mark"] (spNums K L.C) := by
  have GR : FnOk P w K mg base CX0 2 dR.f dR.fd ["mark", "step", "rounding"] spFirstR := ok_firstr dR
  have GS : FnOk P w K mg base CX0 3 dS.f dS.fd ["ladder", "place"] (spStartOf K L.C) := ok_startof dS dR L
  refine d.F.ok scNums (fun vs H Q E h => ?_) (fun cdv A outer s H vs Q E hr h => ?_)
  · obtain ⟨_, _, _, _, _, _, _, _, rfl, _⟩ := h
    rfl
  · obtain ⟨a, us, dn, z, c, l, p, m, rfl, hL, g, hlt, q0, q1⟩ := h
    have nd := scNums.nd
    have hr1 : Room 2 _ := hr.mono (by decide)
    refine ⟨_, pss_cons (ps_set (i := 3) nd rfl (.inl rfl) (pe_ix ix_tup (pe_fld (pv 0) rfl) (pv 1) (fun _ _ => rfl)))
      (pss_cons (ps_set (i := 4) nd rfl (.inl rfl) (pe_callB (call_max2 rfl) (by rfl) B.max (by decide +kernel) (pa_cons (pe_call GR hr1 (by rfl) dR.g dR.F.kp dR.b .nil pass0 (pa_cons (pv 2) (pa_cons (pv 3) (pa_cons (pe_fld (pv 0) rfl) pa_nil)))) (pa_cons (pe_call GS hr (by rfl) dS.g dS.F.kp dS.b .nil pass0 (pa_cons (pv 0) (pa_cons (pv 1) pa_nil))) pa_nil))))
      (pss_cons (ps_set (i := 5) nd rfl (.inl rfl) (pe_op op_sub (pe_call GR hr1 (by rfl) dR.g dR.F.kp dR.b .nil pass0 (pa_cons (pe_op op_add (pv 2) pe_int) (pa_cons (pv 3) (pa_cons (pe_fld (pv 0) rfl) pa_nil)))) pe_int))
      (pss_cons (ps_if (pt_cmpR op_lt (pe_op op_add (pv 1) pe_int) (pe_callB call_len_seq (by rfl) B.len PySem.boot_len (pa_cons (pe_fld (pv 0) rfl) pa_nil)) (nomark _))
          (pss_one (ps_set (i := 5) nd rfl (.inl rfl) (pe_callB (call_min2 rfl) (by rfl) B.min (by decide +kernel) (pa_cons (pv 5) (pa_cons (pe_op op_sub (pe_call GS hr (by rfl) dS.g dS.F.kp dS.b .nil pass0 (pa_cons (pv 0) (pa_cons (pe_op op_add (pv 1) pe_int) pa_nil))) pe_int) pa_nil))))) pss_nil)
      (pss_cons (ps_if (pt_cmpR op_gt (pv 4) (pv 5) (nomark _)) (pss_one (ps_ret pe_non)) pss_nil)
      (pss_one (ps_ret (pe_tup (pa_cons (pv 4) (pa_cons (pv 5) pa_nil))))))))), ?_⟩
    obtain ⟨dx, ua, t, st, th, hp, ⟨ps, hua, hu⟩, ht, hs, hth⟩ := id hL
    have el := UP.len hu
    obtain ⟨k1, k2, k3⟩ := steps_ok g hlt
    refine ⟨_, rfl, a, L.C, dx, _, _, rfl, hp, L.cl, L.nSteps, fl_steps .., _, rfl, st, _, p, .int ((stepsOf us dn).getD p 0), rfl, rfl, hs, atI_nat (by rw [List.getElem?_map, k1]; rfl), ?_⟩
    refine ⟨_, rfl, _, rfl, _, rfl, a, L.C, dx, _, _, rfl, hp, L.cl, L.nRnd, fl_rnd .., m, _, z, rfl, k2, k3, ?_⟩
    refine ⟨_, rfl, _, rfl, a, us, dn, z, c, l, p, rfl, hL, g, hlt, ?_⟩
    refine ⟨_, _, rfl, ?_⟩
    refine ⟨_, rfl, m, 1, rfl, rfl, _, rfl, _, rfl, a, L.C, dx, _, _, rfl, hp, L.cl, L.nRnd, fl_rnd .., _, _, z, rfl, k2, k3, _, 1, rfl, rfl, ?_⟩
    refine ⟨_, rfl, p, 1, rfl, rfl, _, rfl, a, L.C, dx, _, _, rfl, hp, L.cl, L.nUnits, fl_units .., ua, _, rfl, .inr hua, _, _, rfl, rfl, _, rfl, ite2 (fun e => ?_) (fun e => ?_)⟩
    · have e1 : ((p : Int) + 1 < ((ps.map V.ref).length : Int)) := of_decide_eq_true e
      rw [List.length_map, el] at e1
      have hp1 : p + 1 < us.length := by omega
      have ep : (p : Int) + 1 = ((p + 1 : Nat) : Int) := by omega
      unfold highM at q0 q1
      rw [if_pos hp1] at q0 q1
      refine ⟨_, rfl, _, rfl, _, rfl, p, 1, rfl, rfl, a, us, dn, z, c, l, p + 1, rfl, hL, g, hp1, _, 1, rfl, rfl, _, _, rfl, ?_⟩
      refine ⟨_, rfl, _, rfl, _, _, rfl, rfl, _, rfl, ite2 (fun e2 => ?_) (fun e2 => ?_)⟩
      · exact q0 (of_decide_eq_true e2)
      · refine ⟨_, rfl, _, rfl, (by show 2 ≤ sizeLine; decide), fun r nr => ?_⟩
        exact q1 (Int.not_lt.mp fun y => e2 (decide_eq_true y)) r _ (same_upd nr) (SqT.of upd_same)
    · have e1 : ¬ ((p : Int) + 1 < ((ps.map V.ref).length : Int)) := fun y => e (decide_eq_true y)
      rw [List.length_map, el] at e1
      have hp1 : ¬ p + 1 < us.length := by omega
      unfold highM at q0 q1
      rw [if_neg hp1] at q0 q1
      refine ⟨_, rfl, _, rfl, _, _, rfl, rfl, _, rfl, ite2 (fun e2 => ?_) (fun e2 => ?_)⟩
      · exact q0 (of_decide_eq_true e2)
      · refine ⟨_, rfl, _, rfl, (by show 2 ≤ sizeLine; decide), fun r nr => ?_⟩
        exact q1 (Int.not_lt.mp fun y => e2 (decide_eq_true y)) r _ (same_upd nr) (SqT.of upd_same)
end
end My

namespace My
open PySem PySem.Spec PyProof.Rows L2
def spHidden (K : PySem.W.Frag) (C : Addr) : Sp := fun vs H Q _ => ∃ (a : Addr) (us : List (Str × Int)) (d : Nat) (s : Str) (c : Bool) (l n : Int), vs = [.ref a, .int n] ∧ LadAt K C H a us d s c l ∧ Good us d s l ∧ 0 ≤ n ∧ n ≤ 1000000000000000000 ∧
  lowM us d s c l (placedM us d s c l n).1 (placedM us d s c l n).2 ≤ highM us d s c l (placedM us d s c l n).1 (placedM us d s c l n).2 ∧
  ∀ (r : Addr) (H' : Hp), Same H H' → SqT K H' r [.int (n - lowM us d s c l (placedM us d s c l n).1 (placedM us d s c l n).2), .int (highM us d s c l (placedM us d s c l n).1 (placedM us d s c l n).2 - n)] → Q (.ref r) H'
section
variable {P : Program} {w : World} {K : PySem.W.Frag} {mg : Str → Option Value} {base : Heap}
end
end My

namespace My
open PySem PySem.Spec PyProof.Rows L2
theorem small_place {us : List (Str × Int)} {d : Nat} {s : Str} {l n : Int} (g : Good us d s l) (h0 : 0 ≤ n) (h : us.length = 1 ∨ n < l * szOf us 1) : placeOf us l n = 0 := by
  have hpl := place_lt g h0
  rcases Nat.eq_zero_or_pos (placeOf us l n) with z | z
  · exact z
  · exfalso
    have h1 : 1 < us.length := by omega
    have hr := (reached (n := n) g.u g.l1 h0 h1).mpr z
    rcases hr with y | y
    · cases y
    · rcases h with k | k
      · omega
      · rw [Int.mul_comm] at y
        omega
theorem step_zero (us : List (Str × Int)) (d : Nat) : (stepsOf us d).getD 0 0 = 1 := rfl
theorem thr_zero (us : List (Str × Int)) (l : Int) : (thrsOf us l).getD 0 0 = 0 := rfl
theorem firstR_one (m : Int) (s : Str) : firstR m 1 s = m := by
  unfold firstR
  rw [if_pos (.inr (.inl rfl)), Int.mul_one]
theorem start_one (us : List (Str × Int)) (d : Nat) (s : Str) (c : Bool) (l : Int) : startM us d s c l 1 = (thrsOf us l).getD 1 0 := by
  unfold startM
  split
  · rfl
  · rw [Nat.sub_self, step_zero, firstR_one, Int.ediv_one]
theorem ends_small {us : List (Str × Int)} {d : Nat} {s : Str} {c : Bool} {l n : Int} (g : Good us d s l) (h0 : 0 ≤ n) (h : placeOf us l n = 0) : lowM us d s c l 0 n = n ∧ highM us d s c l 0 n = n := by
  constructor
  · unfold lowM
    have e : startM us d s c l 0 = 0 := by
      unfold startM
      rw [if_pos (.inl rfl)]
      rfl
    rw [step_zero, firstR_one, e]
    unfold max2
    split <;> omega
  · unfold highM
    rw [step_zero, firstR_one]
    split
    · rename_i h1
      have hn := next_thr g h0 (by rw [h]; exact h1)
      rw [h] at hn
      have hn' : n < (thrsOf us l).getD 1 0 := hn
      rw [start_one]
      unfold min2
      split <;> omega
    · omega
/-- steps ascend -/
theorem step_up {us : List (Str × Int)} {d : Nat} {s : Str} {l : Int} (g : Good us d s l) {p : Nat} (h : p + 1 < us.length) : (stepsOf us d).getD p 0 ≤ (stepsOf us d).getD (p + 1) 0 := by
  have h1 := (steps_ok g h).2.1
  rcases Nat.eq_zero_or_pos p with z | z
  · subst z
    rw [step_zero]
    omega
  · have hz0 := sz_step g (k := p) z (by omega)
    have hz1 := sz_step g (k := p + 1) (by omega) h
    have hup := sz_up g.u h
    rw [hz0, hz1] at hup
    exact Int.le_of_lt (Int.lt_of_mul_lt_mul_right hup (Int.le_of_lt (pow_lo d)))
theorem placed_step {us : List (Str × Int)} {d : Nat} {s : Str} {c : Bool} {l n : Int} (g : Good us d s l) (h0 : 0 ≤ n) : stOf us d l n ≤ (stepsOf us d).getD (placedM us d s c l n).1 0 := by
  unfold placedM
  split
  · rename_i e
    exact step_up g (isCar_lt e)
  · exact Int.le_refl _
theorem dist47 {us : List (Str × Int)} {d : Nat} {s : Str} {c : Bool} {l n : Int} (g : Good us d s l) (h0 : 0 ≤ n) : n - stOf us d l n < worthM us d s c l n ∧ worthM us d s c l n < n + stOf us d l n ∧ (stOf us d l n = 1 → worthM us d s c l n = n) := by
  obtain ⟨sp, _⟩ := st_pos g h0
  have e0 := worth_val (c := c) g h0
  have m0 := Int.emod_nonneg n (b := stOf us d l n) (by omega)
  have m1 := Int.emod_lt_of_pos n sp
  have hdm := Int.mul_ediv_add_emod n (stOf us d l n)
  rw [Int.mul_comm] at hdm
  have hz : n % stOf us d l n = 0 → goesUp (n / stOf us d l n) (n % stOf us d l n) (stOf us d l n) s = false := fun y => by rw [y]; exact goes_zero sp
  split at e0
  · rename_i hg
    have hr : n % stOf us d l n ≠ 0 := fun y => by
      rw [hz y] at hg
      cases hg
    refine ⟨by omega, by omega, fun y => by omega⟩
  · refine ⟨by omega, by omega, fun y => by omega⟩
/-- the step of the law -/
theorem law_step {us : List (Str × Int)} {d p : Nat} (hp : p < us.length) : (stepsOf us d).getD p 0 = if p = 0 then 1 else szOf us p / 10 ^ d := by
  split
  · rename_i h
    subst h
    rfl
  · exact step_at (by omega) hp
theorem last_place {us : List (Str × Int)} {d : Nat} {s : Str} {l n : Int} (g : Good us d s l) (h0 : 0 ≤ n) (h : szOf us (us.length - 1) * l ≤ n) : placeOf us l n = us.length - 1 := by
  have hlo := g.u.lo
  have h1 := (reached (n := n) g.u g.l1 h0 (show us.length - 1 < us.length by omega)).mp (.inr h)
  have h2 := place_lt g h0
  omega
theorem last_sz_pos {us : List (Str × Int)} (g : GoodUs us) {i : Nat} (h : i < us.length) : 1 ≤ szOf us i ∧ szOf us i ≤ 1000000000000000000 := by
  have h1 : us[i]? = some us[i] := List.getElem?_eq_getElem h
  rw [szOf_at h1]
  have := g.each i _ h1
  exact ⟨this.2.1, this.2.2.1⟩
theorem last_same {us : List (Str × Int)} {d : Nat} {s : Str} {c : Bool} {l l2 n : Int} (g : Good us d s l) (g2 : Good us d s l2) (hl : l ≤ l2) (h0 : 0 ≤ n) (h : l2 * szOf us (us.length - 1) ≤ n) : shown us d s c l2 n = shown us d s c l n := by
  have hlo := g.u.lo
  have hs := (last_sz_pos g.u (show us.length - 1 < us.length by omega)).1
  rw [Int.mul_comm] at h
  have a2 := last_place g2 h0 h
  have h' : szOf us (us.length - 1) * l ≤ szOf us (us.length - 1) * l2 := Int.mul_le_mul_of_nonneg_left hl (by omega)
  have a1 := last_place g h0 (by omega)
  have nc : ∀ l' m, isCar us d c l' (us.length - 1) m = false := fun l' m => by
    unfold isCar
    rw [decide_eq_false (show ¬ us.length - 1 + 1 < us.length by omega), Bool.false_and, Bool.and_false]
  have e : placedM us d s c l2 n = placedM us d s c l n := by
    unfold placedM
    rw [a1, a2, nc, nc]
  unfold shown
  rw [e]
theorem unit_mono {us : List (Str × Int)} {d : Nat} {s : Str} {c : Bool} {l l2 n : Int} (g : Good us d s l) (g2 : Good us d s l2) (hl : l ≤ l2) (h0 : 0 ≤ n) : (placedM us d s c l2 n).1 ≤ (placedM us d s c l n).1 := by
  have hpl2 := place_lt g2 h0
  have hle : placeOf us l2 n ≤ placeOf us l n := by
    have h2 := (reached (n := n) g2.u g2.l1 h0 hpl2).mpr (Nat.le_refl _)
    refine (reached (n := n) g.u g.l1 h0 hpl2).mp ?_
    rcases h2 with y | y
    · exact .inl y
    · have hs := (last_sz_pos g.u hpl2).1
      have h' : szOf us (placeOf us l2 n) * l ≤ szOf us (placeOf us l2 n) * l2 := Int.mul_le_mul_of_nonneg_left hl (by omega)
      exact .inr (by omega)
  have b1 : placeOf us l n ≤ (placedM us d s c l n).1 := by
    unfold placedM
    split
    · exact Nat.le_succ _
    · exact Nat.le_refl _
  rcases Nat.lt_or_ge (placeOf us l2 n) (placeOf us l n) with z | z
  · have b2 : (placedM us d s c l2 n).1 ≤ placeOf us l2 n + 1 := by
      unfold placedM
      split
      · exact Nat.le_refl _
      · exact Nat.le_succ _
    omega
  · have ee : placeOf us l2 n = placeOf us l n := by omega
    unfold placedM
    rw [ee]
    cases ec2 : isCar us d c l2 (placeOf us l n) (rnd n ((stepsOf us d).getD (placeOf us l n) 0) s) with
    | false =>
      rw [if_neg Bool.false_ne_true]
      split
      · exact Nat.le_succ _
      · exact Nat.le_refl _
    | true =>
      rw [if_pos rfl]
      have hp1 := isCar_lt ec2
      have ec1 : isCar us d c l (placeOf us l n) (rnd n ((stepsOf us d).getD (placeOf us l n) 0) s) = true := by
        unfold isCar at ec2 ⊢
        rw [Bool.and_eq_true, Bool.and_eq_true] at ec2 ⊢
        refine ⟨ec2.1, ec2.2.1, decide_eq_true ?_⟩
        have h2 := of_decide_eq_true ec2.2.2
        have t1 : (thrsOf us l).getD (placeOf us l n + 1) 0 = szOf us (placeOf us l n + 1) * l := by rw [List.getD_eq_getElem?_getD, thr_at (by omega) hp1]; rfl
        have t2 : (thrsOf us l2).getD (placeOf us l n + 1) 0 = szOf us (placeOf us l n + 1) * l2 := by rw [List.getD_eq_getElem?_getD, thr_at (by omega) hp1]; rfl
        rw [t2] at h2
        rw [t1]
        have hs := (last_sz_pos g.u hp1).1
        have h' : szOf us (placeOf us l n + 1) * l ≤ szOf us (placeOf us l n + 1) * l2 := Int.mul_le_mul_of_nonneg_left hl (by omega)
        omega
      rw [ec1, if_pos rfl]
      exact Nat.le_refl _
/-- another name for the first unit -/
def oneU : Str × Int := ("one", 1)
def plainUs (us : List (Str × Int)) : List (Str × Int) := oneU :: us.drop 1
theorem plain_len {us : List (Str × Int)} (h : 1 ≤ us.length) : (plainUs us).length = us.length := by
  unfold plainUs
  rw [List.length_cons, List.length_drop]
  omega
theorem plain_get (us : List (Str × Int)) (k : Nat) : (plainUs us)[k + 1]? = us[k + 1]? := by
  unfold plainUs
  rw [List.getElem?_cons_succ, List.getElem?_drop, Nat.add_comm 1 k]
theorem plain_take (us : List (Str × Int)) (k : Nat) : ∀ v ∈ (plainUs us).take (k + 1), v = oneU ∨ v ∈ us.take (k + 1) := by
  intro v hv
  unfold plainUs at hv
  rw [List.take_succ_cons] at hv
  rcases List.mem_cons.mp hv with z | z
  · exact .inl z
  · right
    cases us with
    | nil => simp at z
    | cons u r =>
      rw [List.take_succ_cons]
      exact List.mem_cons_of_mem _ z
theorem good_one : GoodN "one" := ⟨by decide +kernel, by decide +kernel, by decide +kernel, by decide +kernel⟩
theorem first_size {us : List (Str × Int)} (g : GoodUs us) : ∃ u, us[0]? = some u ∧ u.2 = 1 := by
  have h00 : 0 < us.length := g.lo
  have h : us[0]? = some us[0] := List.getElem?_eq_getElem h00
  refine ⟨_, h, ?_⟩
  obtain ⟨_, _, _, hf⟩ := g.each 0 _ h
  rcases hf with ⟨_, e⟩ | ⟨l, hl, hne, _⟩
  · exact e
  · exact absurd rfl hne
theorem plain_good {us : List (Str × Int)} {d : Nat} {s : Str} {l : Int} (g : Good us d s l) (hn : NoOne us) : Good (plainUs us) d s l := by
  have hlen := plain_len g.u.lo
  refine ⟨⟨by rw [hlen]; exact g.u.lo, by rw [hlen]; exact g.u.hi, fun i u hu => ?_⟩, g.d3, g.div, g.srt, g.l1, g.l2⟩
  cases i with
  | zero =>
    have e : oneU = u := Option.some.inj hu
    subst e
    exact ⟨good_one, by decide, by decide, .inl ⟨rfl, rfl⟩⟩
  | succ k =>
    rw [plain_get] at hu
    obtain ⟨k1, k2, k3, hf⟩ := g.u.each (k + 1) u hu
    refine ⟨k1, k2, k3, ?_⟩
    have hk : k + 1 < us.length := (List.getElem?_eq_some_iff.mp hu).1
    have el : (us.take (k + 1)).length = k + 1 := by rw [List.length_take]; omega
    have el2 : ((plainUs us).take (k + 1)).length = k + 1 := by rw [List.length_take, hlen]; omega
    rcases hf with ⟨e, _⟩ | ⟨w, hw, hne, h0, h1, h2, h3⟩
    · rw [e] at el
      cases el
    · rw [el, Nat.add_sub_cancel, List.getElem?_take, if_pos (Nat.lt_succ_self k)] at hw
      have hnm : ∀ v ∈ (plainUs us).take (k + 1), v.1 ≠ u.1 := fun v hv => by
        rcases plain_take us k v hv with z | z
        · subst z
          exact fun e => (hn u (List.mem_of_getElem? hu)).1.1 e.symm
        · exact h3 v z
      have hne2 : (plainUs us).take (k + 1) ≠ [] := fun e => by
        rw [e] at el2
        cases el2
      refine .inr ?_
      rw [el2, Nat.add_sub_cancel, List.getElem?_take, if_pos (Nat.lt_succ_self k)]
      cases k with
      | zero =>
        obtain ⟨u0, e0, e1⟩ := first_size g.u
        rw [e0] at hw
        have ew : u0 = w := Option.some.inj hw
        subst ew
        refine ⟨oneU, rfl, hne2, by decide, ?_, Int.emod_one _, hnm⟩
        show (1 : Int) < u.2
        omega
      | succ j =>
        rw [plain_get]
        exact ⟨w, hw, hne2, h0, h1, h2, hnm⟩
theorem plain_shown {us : List (Str × Int)} {d : Nat} {s : Str} {c : Bool} {l n : Int} (g : Good us d s l) (hp : 0 < (placedM us d s c l n).1) : shown (plainUs us) d s c l n = shown us d s c l n := by
  have hlen := plain_len g.u.lo
  have ec : ∀ p m, isCar (plainUs us) d c l p m = isCar us d c l p m := fun p m => by
    unfold isCar
    rw [hlen]
    rfl
  have ep : placedM (plainUs us) d s c l n = placedM us d s c l n := by
    unfold placedM
    rw [ec]
    rfl
  unfold shown
  rw [ep]
  generalize placedM us d s c l n = pm at hp
  obtain ⟨p, m⟩ := pm
  obtain ⟨j, rfl⟩ : ∃ j, p = j + 1 := ⟨p - 1, by show p = p - 1 + 1; have : 0 < p := hp; omega⟩
  have en : ((plainUs us).getD (j + 1) ("", 0)).1 = (us.getD (j + 1) ("", 0)).1 := by
    rw [List.getD_eq_getElem?_getD, List.getD_eq_getElem?_getD, plain_get]
  unfold writ
  rw [en]
end My

namespace My
open PySem PySem.Spec PyProof.Rows L2
/-! ### ranges -/
theorem rnd_ge_core {b r st m X : Int} {s : Str} (hs : s ∈ sorts) (h2 : st % 2 = 0) (h0 : 0 < st) (r0 : 0 ≤ r) (r1 : r < st) (m0 : 1 ≤ m)
    (k1 : m ≤ b → X ≤ b * st) (k2 : m = b + 1 → X = b * st + st) (k3 : b + 2 ≤ m → b * st + 2 * st ≤ X) :
    m ≤ (if goesUp b r st s = true then b + 1 else b) ↔ (if s = "down" then X else if s = "up" then X - st + 1 else if s = "even" ∧ m % 2 = 1 then X - st / 2 + 1 else X - st / 2) ≤ b * st + r := by
  generalize b * st = B at k1 k2 k3 ⊢
  have hh : st = 2 * (st / 2) := by omega
  generalize st / 2 = h at hh ⊢
  unfold sorts at hs
  simp only [List.mem_cons, List.not_mem_nil, or_false] at hs
  rcases goes_cases b r st s with ⟨e, eg⟩ | ⟨e, eg⟩ | ⟨e, eg⟩ | ⟨n1, n2, n3, eg⟩
  · subst e
    rw [eg, if_neg (show ¬ (("up" : Str) = "down") by decide +kernel), if_pos rfl]
    by_cases c : 0 < r
    · rw [decide_eq_true c, if_pos rfl]
      omega
    · rw [decide_eq_false c, if_neg Bool.false_ne_true]
      omega
  · subst e
    have e3 : ¬ (("near" : Str) = "even" ∧ m % 2 = 1) := fun y => absurd y.1 (by decide +kernel)
    rw [eg, if_neg (show ¬ (("near" : Str) = "down") by decide +kernel), if_neg (show ¬ (("near" : Str) = "up") by decide +kernel), if_neg e3]
    by_cases c : st ≤ 2 * r
    · rw [decide_eq_true c, if_pos rfl]
      omega
    · rw [decide_eq_false c, if_neg Bool.false_ne_true]
      omega
  · subst e
    rw [eg, if_neg (show ¬ (("even" : Str) = "down") by decide +kernel), if_neg (show ¬ (("even" : Str) = "up") by decide +kernel)]
    by_cases c : st < 2 * r
    · rw [decide_eq_true c, Bool.true_or, if_pos rfl]
      split <;> omega
    · rw [decide_eq_false c, Bool.false_or]
      by_cases c2 : 2 * r = st
      · rw [decide_eq_true c2, Bool.true_and]
        by_cases c3 : b % 2 = 1
        · rw [decide_eq_true c3, if_pos rfl]
          split <;> rename_i c4
          · have := c4.2
            omega
          · have : ¬ m % 2 = 1 := fun y => c4 ⟨rfl, y⟩
            omega
        · rw [decide_eq_false c3, if_neg Bool.false_ne_true]
          split <;> rename_i c4
          · have := c4.2
            omega
          · have : ¬ m % 2 = 1 := fun y => c4 ⟨rfl, y⟩
            omega
      · rw [decide_eq_false c2, Bool.false_and, if_neg Bool.false_ne_true]
        split <;> omega
  · rcases hs with e | e | e | e
    · subst e
      rw [eg, if_neg Bool.false_ne_true, if_pos rfl]
      omega
    · exact absurd e n1
    · exact absurd e n2
    · exact absurd e n3
theorem rnd_nn {n st : Int} {s : Str} (h0 : 0 ≤ n) (h1 : 0 < st) : 0 ≤ rnd n st s := (rnd_lo h0 h1).1
/-- a number is rounded to m or more exactly from the first one on -/
theorem rnd_ge {n st m : Int} {s : Str} (hs : s ∈ sorts) (h2 : st = 1 ∨ st % 2 = 0) (h0 : 0 < st) (n0 : 0 ≤ n) (m0 : 0 ≤ m) : m ≤ rnd n st s ↔ firstR m st s ≤ n := by
  rcases Int.lt_or_le 0 m with hm | hm
  · rcases h2 with h2 | h2
    · subst h2
      rw [rnd_one, firstR_one]
    · have m1 := Int.emod_nonneg n (b := st) (by omega)
      have m2 := Int.emod_lt_of_pos n h0
      have hdm := Int.mul_ediv_add_emod n st
      rw [Int.mul_comm] at hdm
      have core := rnd_ge_core (b := n / st) (r := n % st) (X := m * st) hs h2 h0 m1 m2 (by omega) (fun y => Int.mul_le_mul_of_nonneg_right y (by omega))
        (fun y => by rw [y, Int.add_mul, Int.one_mul]) (fun y => by
          have := Int.mul_le_mul_of_nonneg_right (c := st) y (by omega)
          rw [Int.add_mul] at this
          exact this)
      rw [hdm] at core
      have e : firstR m st s = (if s = "down" then m * st else if s = "up" then m * st - st + 1 else if s = "even" ∧ m % 2 = 1 then m * st - st / 2 + 1 else m * st - st / 2) := by
        unfold firstR
        have e1 : ¬ m = 0 := by omega
        have e2 : ¬ st = 1 := by omega
        by_cases c : s = "down"
        · rw [if_pos (.inr (.inr c)), if_pos c]
        · rw [if_neg (fun y => y.elim e1 (fun y => y.elim e2 c)), if_neg c, Int.sub_mul, Int.one_mul]
      rw [e]
      exact core
  · have e : m = 0 := by omega
    subst e
    have e2 : firstR 0 st s = 0 := by
      unfold firstR
      rw [if_pos (.inl rfl), Int.zero_mul]
    rw [e2]
    exact ⟨fun _ => n0, fun _ => rnd_nn n0 h0⟩
theorem firstR_nn {m st : Int} {s : Str} (h0 : 0 < st) (m0 : 0 ≤ m) : 0 ≤ firstR m st s := by
  have hm := Int.mul_nonneg m0 (show 0 ≤ st by omega)
  unfold firstR
  split
  · exact hm
  · rename_i c
    have m1 : 1 ≤ m := by
      rcases Int.lt_or_le 0 m with z | z
      · omega
      · exact absurd (.inl (by omega)) c
    have h1 : 1 * st ≤ m * st := Int.mul_le_mul_of_nonneg_right m1 (by omega)
    have h2 : 0 ≤ (m - 1) * st := Int.mul_nonneg (by omega) (by omega)
    have h3 : st / 2 ≤ st := Int.ediv_le_self _ (by omega)
    split
    · omega
    · split <;> omega
theorem step_even {us : List (Str × Int)} {d : Nat} {s : Str} {l : Int} (g : Good us d s l) {p : Nat} (hp : p < us.length) : (stepsOf us d).getD p 0 = 1 ∨ (stepsOf us d).getD p 0 % 2 = 0 := by
  rcases Nat.eq_zero_or_pos p with z | z
  · subst z
    exact .inl rfl
  · right
    rw [step_at z hp]
    obtain ⟨j, rfl⟩ : ∃ j, p = j + 1 := ⟨p - 1, by omega⟩
    have hu : us[j + 1]? = some us[j + 1] := List.getElem?_eq_getElem hp
    have hm : us[j + 1] ∈ us.drop 1 := List.mem_of_getElem? (i := j) (by rw [List.getElem?_drop, Nat.add_comm 1 j]; exact hu)
    have hz := g.div _ hm
    rw [szOf_at hu]
    have hp := pow_lo d
    obtain ⟨q, hq⟩ := Int.dvd_of_emod_eq_zero hz
    have e4 : us[j + 1].2 / 10 ^ d = 2 * q := by
      rw [hq, show (2 * 10 ^ d * q : Int) = 2 * q * 10 ^ d by rw [Int.mul_assoc, Int.mul_assoc, Int.mul_comm (10 ^ d) q]]
      exact Int.mul_ediv_cancel _ (by omega)
    rw [e4]
    omega
theorem thr_eq {us : List (Str × Int)} {l : Int} {p : Nat} (h1 : 1 ≤ p) (hp : p < us.length) : (thrsOf us l).getD p 0 = szOf us p * l := by
  rw [List.getD_eq_getElem?_getD, thr_at h1 hp]
  rfl
/-- a threshold is so many steps, of its own unit and of the one before -/
theorem thr_steps {us : List (Str × Int)} {d : Nat} {s : Str} {l : Int} (g : Good us d s l) {p : Nat} (h1 : 1 ≤ p) (hp : p < us.length) :
    (∃ k : Int, 0 ≤ k ∧ (thrsOf us l).getD p 0 = k * (stepsOf us d).getD p 0) ∧ ∃ k : Int, 0 ≤ k ∧ (thrsOf us l).getD p 0 = k * (stepsOf us d).getD (p - 1) 0 := by
  have hl := g.l1
  have hsz := (last_sz_pos g.u hp).1
  have pw := pow_lo d
  rw [thr_eq h1 hp]
  constructor
  · refine ⟨10 ^ d * l, Int.mul_nonneg (by omega) (by omega), ?_⟩
    rw [sz_step g h1 hp, Int.mul_assoc, Int.mul_comm]
  · obtain ⟨j, rfl⟩ : ∃ j, p = j + 1 := ⟨p - 1, by omega⟩
    rw [Nat.add_sub_cancel]
    rcases Nat.eq_zero_or_pos j with z | z
    · subst z
      have hsz1 : 1 ≤ szOf us 1 := hsz
      refine ⟨szOf us 1 * l, Int.mul_nonneg (by omega) (by omega), ?_⟩
      rw [step_zero, Int.mul_one]
    · obtain ⟨q, hq⟩ := sz_dvd g.u hp
      have hst := (steps_ok g (show j < us.length by omega)).2.1
      have hz0 := sz_step g z (show j < us.length by omega)
      have hsz0 := (last_sz_pos g.u (show j < us.length by omega)).1
      have hq0 : 0 ≤ q := by
        rcases Int.lt_or_le q 0 with y | y
        · exfalso
          have : szOf us j * q ≤ 0 := Int.mul_nonpos_of_nonneg_of_nonpos (by omega) (by omega)
          omega
        · exact y
      refine ⟨10 ^ d * q * l, Int.mul_nonneg (Int.mul_nonneg (by omega) hq0) (by omega), ?_⟩
      rw [hq, hz0]
      rw [Int.mul_assoc, Int.mul_assoc, Int.mul_assoc, Int.mul_assoc, Int.mul_comm ((stepsOf us d).getD j 0), Int.mul_assoc, Int.mul_assoc]
theorem placed_snd (us : List (Str × Int)) (d : Nat) (s : Str) (c : Bool) (l n : Int) : (placedM us d s c l n).2 = rnd n ((stepsOf us d).getD (placedM us d s c l n).1 0) s := by
  unfold placedM
  split <;> rfl
theorem placed_ge (us : List (Str × Int)) (d : Nat) (s : Str) (c : Bool) (l n : Int) : placeOf us l n ≤ (placedM us d s c l n).1 ∧ (placedM us d s c l n).1 ≤ placeOf us l n + 1 := by
  unfold placedM
  split
  · exact ⟨Nat.le_succ _, Nat.le_refl _⟩
  · exact ⟨Nat.le_refl _, Nat.le_succ _⟩
theorem placed_nocarry {us : List (Str × Int)} {d : Nat} {s : Str} {l n : Int} : (placedM us d s false l n).1 = placeOf us l n := by
  unfold placedM
  have e : isCar us d false l (placeOf us l n) (rnd n ((stepsOf us d).getD (placeOf us l n) 0) s) = false := by
    unfold isCar
    rw [Bool.false_and]
  rw [e, if_neg Bool.false_ne_true]
theorem rnd_below {n st k : Int} {s : Str} (h0 : 0 < st) (h : n < k * st) : rnd n st s ≤ k := by
  have hb : n / st < k := Int.ediv_lt_of_lt_mul h0 h
  unfold rnd
  split <;> omega
theorem rnd_above {n st k : Int} {s : Str} (h0 : 0 < st) (h : k * st ≤ n) : k ≤ rnd n st s := by
  have hb : k ≤ n / st := (Int.le_ediv_iff_mul_le h0).mpr h
  unfold rnd
  split <;> omega
/-- a unit is reached exactly from its first number on -/
theorem place_ge {us : List (Str × Int)} {d : Nat} {s : Str} {c : Bool} {l n : Int} (g : Good us d s l) (n0 : 0 ≤ n) {p : Nat} (hp : p < us.length) : p ≤ (placedM us d s c l n).1 ↔ startM us d s c l p ≤ n := by
  rcases Nat.eq_zero_or_pos p with z | z
  · subst z
    have e : startM us d s c l 0 = 0 := by
      unfold startM
      rw [if_pos (.inl rfl)]
      rfl
    rw [e]
    exact ⟨fun _ => n0, fun _ => Nat.zero_le _⟩
  · have hre := reached (n := n) g.u g.l1 n0 hp
    cases c with
    | false =>
      have e : startM us d s false l p = szOf us p * l := by
        unfold startM
        rw [if_pos (.inr rfl), thr_eq z hp]
      rw [e, placed_nocarry, ← hre]
      exact ⟨fun y => y.elim (fun y => by omega) id, .inr⟩
    | true =>
      obtain ⟨⟨k', hk0', hk'⟩, k, hk0, hk⟩ := thr_steps g z hp
      obtain ⟨_, s1, _⟩ := steps_ok g (show p - 1 < us.length by omega)
      have e : startM us d s true l p = firstR k ((stepsOf us d).getD (p - 1) 0) s := by
        unfold startM
        rw [if_neg (fun y => y.elim (fun y => by omega) (fun y => Bool.noConfusion y)), hk, Int.mul_ediv_cancel _ (by omega)]
      have gal := rnd_ge (n := n) (m := k) (s := s) g.srt (step_even g (show p - 1 < us.length by omega)) s1 n0 hk0
      rw [e, ← gal]
      obtain ⟨ge1, ge2⟩ := placed_ge us d s true l n
      have hpl := place_lt g n0
      constructor
      · intro hle
        rcases Nat.lt_or_ge (placeOf us l n) p with y | y
        · have ep : p = placeOf us l n + 1 := by omega
          -- it was carried
          cases ec : isCar us d true l (placeOf us l n) (rnd n ((stepsOf us d).getD (placeOf us l n) 0) s) with
          | false =>
            exfalso
            unfold placedM at hle
            rw [ec, if_neg Bool.false_ne_true] at hle
            have : p ≤ placeOf us l n := hle
            omega
          | true =>
            unfold isCar at ec
            rw [Bool.and_eq_true, Bool.and_eq_true] at ec
            have h1 := of_decide_eq_true ec.2.2
            rw [← ep, hk, show placeOf us l n = p - 1 by omega] at h1
            exact Int.le_of_mul_le_mul_right h1 s1
        · have h1 := hre.mpr y
          rcases h1 with h1 | h1
          · omega
          · rw [← thr_eq z hp, hk] at h1
            exact rnd_above s1 h1
      · intro hle
        rcases Nat.lt_or_ge (placeOf us l n) p with y | y
        · have hnt := next_thr g n0 (show placeOf us l n + 1 < us.length by omega)
          rcases Nat.lt_or_ge (placeOf us l n + 1) p with y2 | y2
          · exfalso
            -- the threshold of p - 1 is not reached
            have hp1 : p - 1 < us.length := by omega
            obtain ⟨⟨j, hj0, hj⟩, _⟩ := thr_steps g (show 1 ≤ p - 1 by omega) hp1
            have hn1 : n < (thrsOf us l).getD (p - 1) 0 := by
              rw [thr_eq (by omega) hp1]
              rcases Int.lt_or_le n (szOf us (p - 1) * l) with w | w
              · exact w
              · have := (reached (n := n) g.u g.l1 n0 hp1).mp (.inr w)
                omega
            rw [hj] at hn1
            have hb := rnd_below (s := s) s1 hn1
            have hlt : (thrsOf us l).getD (p - 1) 0 < (thrsOf us l).getD p 0 := by
              rw [thr_eq (by omega) hp1, thr_eq z hp]
              have hup := sz_up g.u (i := p - 1) (by omega)
              rw [show p - 1 + 1 = p by omega] at hup
              exact Int.mul_lt_mul_of_pos_right hup (by have := g.l1; omega)
            rw [hj, hk] at hlt
            have := Int.lt_of_mul_lt_mul_right hlt (by omega)
            omega
          · have ep : p = placeOf us l n + 1 := by omega
            have ec : isCar us d true l (placeOf us l n) (rnd n ((stepsOf us d).getD (placeOf us l n) 0) s) = true := by
              unfold isCar
              rw [Bool.true_and, Bool.and_eq_true]
              refine ⟨decide_eq_true (by omega), decide_eq_true ?_⟩
              rw [← ep, hk, show placeOf us l n = p - 1 by omega]
              exact Int.mul_le_mul_of_nonneg_right hle (by omega)
            unfold placedM
            rw [ec, if_pos rfl]
            show p ≤ placeOf us l n + 1
            omega
        · omega
theorem max2_le {x y n : Int} : max2 x y ≤ n ↔ x ≤ n ∧ y ≤ n := by
  unfold max2
  split <;> omega
theorem le_min2 {x y n : Int} : n ≤ min2 x y ↔ n ≤ x ∧ n ≤ y := by
  unfold min2
  split <;> omega
/-- the numbers of a figure are those from its low end to its high end -/
theorem range_iff {us : List (Str × Int)} {d : Nat} {s : Str} {c : Bool} {l n : Int} (g : Good us d s l) (n0 : 0 ≤ n) {p : Nat} {m : Int} (hp : p < us.length) (m0 : 0 ≤ m) :
    placedM us d s c l n = (p, m) ↔ lowM us d s c l p m ≤ n ∧ n ≤ highM us d s c l p m := by
  have h1 := place_ge (c := c) g n0 hp
  obtain ⟨_, s1, _⟩ := steps_ok g hp
  have r1 := rnd_ge (n := n) (m := m) (s := s) g.srt (step_even g hp) s1 n0 m0
  have r2 := rnd_ge (n := n) (m := m + 1) (s := s) g.srt (step_even g hp) s1 n0 (by omega)
  have hlt := (placedM_ok (c := c) g n0).1
  have es := placed_snd us d s c l n
  unfold lowM highM
  rw [max2_le]
  constructor
  · intro e
    rw [e] at h1 es
    have h1' := h1.mp (Nat.le_refl _)
    have es' : m = rnd n ((stepsOf us d).getD p 0) s := es
    refine ⟨⟨r1.mp (by omega), h1'⟩, ?_⟩
    have hr : ¬ firstR (m + 1) ((stepsOf us d).getD p 0) s ≤ n := fun y => by have := r2.mpr y; omega
    split
    · rename_i hp1
      have h2 := place_ge (c := c) g n0 hp1
      rw [e] at h2
      have : ¬ startM us d s c l (p + 1) ≤ n := fun y => by have : p + 1 ≤ p := h2.mpr y; omega
      rw [le_min2]
      omega
    · omega
  · rintro ⟨⟨h3, h4⟩, h5⟩
    have ge := h1.mpr h4
    have h6 : n < firstR (m + 1) ((stepsOf us d).getD p 0) s ∧ (p + 1 < us.length → n < startM us d s c l (p + 1)) := by
      split at h5
      · rw [le_min2] at h5
        exact ⟨by omega, fun _ => by omega⟩
      · rename_i hc
        exact ⟨by omega, fun y => absurd y hc⟩
    have le : (placedM us d s c l n).1 ≤ p := by
      rcases Nat.lt_or_ge p (placedM us d s c l n).1 with y | y
      · exfalso
        have hp1 : p + 1 < us.length := by omega
        have h2 := (place_ge (c := c) g n0 hp1).mp y
        have := h6.2 hp1
        omega
      · exact y
    have e1 : (placedM us d s c l n).1 = p := by omega
    rw [e1] at es
    have e2 : (placedM us d s c l n).2 = m := by
      have a1 := r1.mpr h3
      have a2 : ¬ m + 1 ≤ rnd n ((stepsOf us d).getD p 0) s := fun y => by have := r2.mp y; omega
      omega
    rw [← e1, ← e2]
theorem start_nn {us : List (Str × Int)} {d : Nat} {s : Str} {c : Bool} {l : Int} (g : Good us d s l) {p : Nat} (hp : p < us.length) : 0 ≤ startM us d s c l p := by
  have ht : 0 ≤ (thrsOf us l).getD p 0 := by
    rcases Nat.eq_zero_or_pos p with z | z
    · subst z
      exact Int.le_refl 0
    · rw [thr_eq z hp]
      have := (last_sz_pos g.u hp).1
      have := g.l1
      exact Int.mul_nonneg (by omega) (by omega)
  unfold startM
  split
  · exact ht
  · have hs := (steps_ok g (show p - 1 < us.length by omega)).2.1
    exact firstR_nn hs (Int.ediv_nonneg ht (by omega))
theorem low_nn {us : List (Str × Int)} {d : Nat} {s : Str} {c : Bool} {l : Int} (g : Good us d s l) {p : Nat} (hp : p < us.length) (m : Int) : 0 ≤ lowM us d s c l p m := by
  have := start_nn (c := c) g hp
  unfold lowM max2
  split <;> omega
end My

namespace My
open PySem PySem.Spec PyProof.Rows L2
/-! ### figures are told apart -/
theorem name_at {us : List (Str × Int)} {p : Nat} (hp : p < us.length) : (us.getD p ("", 0)).1 = us[p].1 := by
  rw [List.getD_eq_getElem?_getD, List.getElem?_eq_getElem hp]
  rfl
theorem writ_ahead {us : List (Str × Int)} {d p : Nat} {m : Int} (g : GoodUs us) (hp : p < us.length) (hm : 0 ≤ m) : (Txt.rstripChars (writ us d p m) letters).cps.toList = ahead d p m := by
  have hu : us[p]? = some us[p] := List.getElem?_eq_getElem hp
  have gn := (g.each p _ hu).1
  have wc := writ_codes (us := us) (d := d) (p := p) (m := m)
  rw [name_at hp] at wc
  refine rstrip_name wc (fun c hc => ?_) (ahead_last hm)
  have := gn.2.2.2
  rw [List.all_eq_true] at this
  exact this c hc
theorem writ_inj {us : List (Str × Int)} {d p p' : Nat} {m m' : Int} (g : GoodUs us) (hd : d ≤ 3) (hp : p < us.length) (hp' : p' < us.length) (hm : 0 ≤ m) (hm' : 0 ≤ m') (h1 : m < 10 ^ 40) (h2 : m' < 10 ^ 40) (e : writ us d p m = writ us d p' m') : p = p' ∧ m = m' := by
  have ea : ahead d p m = ahead d p' m' := by rw [← writ_ahead g hp hm, ← writ_ahead g hp' hm', e]
  have wc := writ_codes (us := us) (d := d) (p := p) (m := m)
  have wc' := writ_codes (us := us) (d := d) (p := p') (m := m')
  rw [e, ea, wc'] at wc
  have en : (us.getD p' ("", 0)).1.cps.toList = (us.getD p ("", 0)).1.cps.toList := List.append_cancel_left wc
  rw [name_at hp, name_at hp'] at en
  have en2 : us[p'].1 = us[p].1 := str_ext en
  constructor
  · rcases Nat.lt_trichotomy p p' with y | y | y
    · exact absurd en2.symm (names_apart g y (List.getElem?_eq_getElem hp) (List.getElem?_eq_getElem hp'))
    · exact y
    · exact absurd en2 (names_apart g y (List.getElem?_eq_getElem hp') (List.getElem?_eq_getElem hp))
  · obtain ⟨n, ef, hn⟩ := ahead_filter (d := d) (p := p) hm
    obtain ⟨n', ef', hn'⟩ := ahead_filter (d := d) (p := p') hm'
    rw [ea, ef'] at ef
    have l1 := dg_small (m := m) (by omega)
    have l2 := dg_small (m := m') (by omega)
    have b1 := int_back (t := ⟨(List.replicate n 48 ++ dg m).toArray⟩) (n := n) hm rfl (by
      rw [str_len]
      show (List.replicate n 48 ++ dg m).length ≤ 4300
      rw [List.length_append, List.length_replicate]
      omega)
    have b2 := int_back (t := ⟨(List.replicate n 48 ++ dg m).toArray⟩) (n := n') hm' ef.symm (by
      rw [str_len]
      show (List.replicate n 48 ++ dg m).length ≤ 4300
      rw [List.length_append, List.length_replicate]
      omega)
    rw [b1] at b2
    exact Option.some.inj b2
/-! ### range_of, next_figure, previous_figure -/
def spRangeOf (K : PySem.W.Frag) (C : Addr) : Sp := fun vs H Q _ => ∃ (a : Addr) (us : List (Str × Int)) (d : Nat) (s : Str) (c : Bool) (l : Int) (p : Nat) (m : Int), vs = [.ref a, .str (writ us d p m)] ∧ LadAt K C H a us d s c l ∧ Good us d s l ∧ p < us.length ∧ 0 ≤ m ∧ m < 10 ^ 24 ∧
  (highM us d s c l p m < lowM us d s c l p m → ∀ H', Same H H' → Q .non H') ∧ (lowM us d s c l p m ≤ highM us d s c l p m → ∀ (r : Addr) (H' : Hp), Same H H' → SqT K H' r [.int (lowM us d s c l p m), .int (highM us d s c l p m)] → Q (.ref r) H')
/-- of a figure that is shown -/
def spRShown (K : PySem.W.Frag) (C : Addr) : Sp := fun vs H Q _ => ∃ (a : Addr) (us : List (Str × Int)) (d : Nat) (s : Str) (c : Bool) (l : Int) (p : Nat) (m : Int), vs = [.ref a, .str (writ us d p m)] ∧ LadAt K C H a us d s c l ∧ Good us d s l ∧ p < us.length ∧ 0 ≤ m ∧ m < 10 ^ 24 ∧
  lowM us d s c l p m ≤ highM us d s c l p m ∧ ∀ (r : Addr) (H' : Hp), Same H H' → SqT K H' r [.int (lowM us d s c l p m), .int (highM us d s c l p m)] → Q (.ref r) H'
section
variable {P : Program} {w : World} {K : PySem.W.Frag} {mg : Str → Option Value} {base : Heap}
end
end My

namespace My
open PySem PySem.Spec PyProof.Rows L2
theorem firstR_hi {m st : Int} {s : Str} (h0 : 0 < st) : firstR m st s ≤ m * st := by
  have h3 : 0 ≤ st / 2 := by omega
  unfold firstR
  split
  · exact Int.le_refl _
  · rename_i c
    split
    · rw [Int.sub_mul, Int.one_mul]
      omega
    · have h4 : st ≠ 1 := fun y => c (.inr (.inl y))
      split <;> omega
theorem firstR_lo {m st : Int} {s : Str} (h0 : 0 < st) : m * st - st ≤ firstR m st s := by
  have h3 : st / 2 ≤ st := Int.ediv_le_self _ (by omega)
  unfold firstR
  split
  · omega
  · split
    · rw [Int.sub_mul, Int.one_mul]
      omega
    · split <;> omega
theorem ends_width {us : List (Str × Int)} {d : Nat} {s : Str} {c : Bool} {l : Int} (g : Good us d s l) {p : Nat} (hp : p < us.length) (m : Int) : highM us d s c l p m + 1 - lowM us d s c l p m ≤ 2000000000000000000 := by
  obtain ⟨_, s1, s2⟩ := steps_ok g hp
  have h1 := firstR_hi (m := m + 1) (s := s) s1
  have h2 := firstR_lo (m := m) (s := s) s1
  rw [Int.add_mul, Int.one_mul] at h1
  have h3 : highM us d s c l p m ≤ firstR (m + 1) ((stepsOf us d).getD p 0) s - 1 := by
    unfold highM
    split
    · unfold min2
      split <;> omega
    · exact Int.le_refl _
  have h4 : firstR m ((stepsOf us d).getD p 0) s ≤ lowM us d s c l p m := by
    unfold lowM max2
    split <;> omega
  omega
theorem in_range {us : List (Str × Int)} {d : Nat} {s : Str} {c : Bool} {l n : Int} (g : Good us d s l) (n0 : 0 ≤ n) {p : Nat} {m : Int} (e : placedM us d s c l n = (p, m)) : lowM us d s c l p m ≤ n ∧ n ≤ highM us d s c l p m := by
  obtain ⟨k1, k2, k3⟩ := placedM_ok (c := c) g n0
  rw [e] at k1 k2
  exact (range_iff g n0 k1 k2).mp e
theorem shown_in {us : List (Str × Int)} {d : Nat} {s : Str} {c : Bool} {l x : Int} (g : Good us d s l) (x0 : 0 ≤ x) {p : Nat} {m : Int} (hp : p < us.length) (hm : 0 ≤ m) (h1 : lowM us d s c l p m ≤ x) (h2 : x ≤ highM us d s c l p m) : shown us d s c l x = writ us d p m := by
  have e := (range_iff g x0 hp hm).mpr ⟨h1, h2⟩
  unfold shown
  rw [e]
theorem shown_is {us : List (Str × Int)} {d : Nat} {s : Str} {c : Bool} {l x : Int} (g : Good us d s l) (x0 : 0 ≤ x) (x1 : x ≤ 1000000000000000000000000000000) {p : Nat} {m : Int} (hp : p < us.length) (hm : 0 ≤ m) (hm2 : m < 10 ^ 40) (e : shown us d s c l x = writ us d p m) : lowM us d s c l p m ≤ x ∧ x ≤ highM us d s c l p m := by
  obtain ⟨k1, k2, k3⟩ := placedM_ok (c := c) g x0
  unfold shown at e
  obtain ⟨e1, e2⟩ := writ_inj g.u g.d3 k1 hp k2 hm (by omega) hm2 e
  exact (range_iff g x0 hp hm).mp (by rw [← e1, ← e2])
theorem shown_out {us : List (Str × Int)} {d : Nat} {s : Str} {c : Bool} {l x : Int} (g : Good us d s l) (x0 : 0 ≤ x) (x1 : x ≤ 1000000000000000000000000000000) {p : Nat} {m : Int} (hp : p < us.length) (hm : 0 ≤ m) (hm2 : m < 10 ^ 40) (h : x < lowM us d s c l p m ∨ highM us d s c l p m < x) : shown us d s c l x ≠ writ us d p m := fun e => by
  have := shown_is g x0 x1 hp hm hm2 e
  omega
end My

namespace My
open PySem PySem.Spec PyProof.Rows L2
/-! ### places of figures -/
theorem firstR_strict {m st : Int} {s : Str} (h0 : 0 < st) (h2 : st = 1 ∨ st % 2 = 0) (m0 : 0 ≤ m) : firstR m st s < firstR (m + 1) st s := by
  have e : (m + 1) * st = m * st + st := by rw [Int.add_mul, Int.one_mul]
  have e' : (m + 1 - 1) * st = m * st := by rw [Int.add_sub_cancel]
  rcases h2 with h2 | h2
  · subst h2
    rw [firstR_one, firstR_one]
    omega
  · have hh : st = 2 * (st / 2) := by omega
    have z : m = 0 → m * st = 0 := fun y => by rw [y, Int.zero_mul]
    unfold firstR
    rw [e, e']
    have e3 : (m - 1) * st = m * st - st := by rw [Int.sub_mul, Int.one_mul]
    rw [e3]
    generalize m * st = X at *
    split <;> rename_i c1
    · have c1' : m = 0 ∨ s = "down" := by
        rcases c1 with y | y | y
        · exact .inl y
        · omega
        · exact .inr y
      split <;> rename_i c2
      · omega
      · rcases c1' with y | y
        · have := z y
          (repeat' split) <;> omega
        · exact absurd (.inr (.inr y)) c2
    · have c2 : ¬ (m + 1 = 0 ∨ st = 1 ∨ s = "down") := fun y => y.elim (fun y => by omega) (fun y => c1 (.inr y))
      rw [if_neg c2]
      (repeat' split) <;> omega
theorem rnd_mono {n n' st : Int} {s : Str} (hs : s ∈ sorts) (h2 : st = 1 ∨ st % 2 = 0) (h0 : 0 < st) (n0 : 0 ≤ n) (h : n ≤ n') : rnd n st s ≤ rnd n' st s := by
  have r0 := rnd_nn (s := s) n0 h0
  have h1 := (rnd_ge hs h2 h0 n0 r0).mp (Int.le_refl _)
  exact (rnd_ge hs h2 h0 (by omega) r0).mpr (by omega)
theorem rnd_succ {n st : Int} {s : Str} (hs : s ∈ sorts) (h2 : st = 1 ∨ st % 2 = 0) (h0 : 0 < st) (n0 : 0 ≤ n) : rnd n st s ≤ rnd (n + 1) st s ∧ rnd (n + 1) st s ≤ rnd n st s + 1 := by
  refine ⟨rnd_mono hs h2 h0 n0 (by omega), ?_⟩
  have r0 := rnd_nn (s := s) n0 h0
  rcases Int.lt_or_le (rnd n st s + 1) (rnd (n + 1) st s) with y | y
  · exfalso
    have h1 := (rnd_ge (m := rnd n st s + 1 + 1) hs h2 h0 (show 0 ≤ n + 1 by omega) (by omega)).mp (by omega)
    have h3 := firstR_strict (m := rnd n st s + 1) (s := s) h0 h2 (by omega)
    have h4 := (rnd_ge (m := rnd n st s + 1) hs h2 h0 n0 (by omega)).mpr (by omega)
    omega
  · exact y
section
variable {us : List (Str × Int)} {d : Nat} {s : Str} {c : Bool} {l : Int}
/-- the first mark and the last mark of a unit -/
def fmM (us : List (Str × Int)) (d : Nat) (l : Int) (p : Nat) : Int := (thrsOf us l).getD p 0 / (stepsOf us d).getD p 0
def lmM (us : List (Str × Int)) (d : Nat) (s : Str) (c : Bool) (l : Int) (p : Nat) : Int := rnd (startM us d s c l (p + 1) - 1) ((stepsOf us d).getD p 0) s
def FU (us : List (Str × Int)) (d : Nat) (s : Str) (c : Bool) (l : Int) : Nat → Int
  | 0 => 0
  | p + 1 => FU us d s c l p + (lmM us d s c l p - fmM us d l p + 1)
def idxM (us : List (Str × Int)) (d : Nat) (s : Str) (c : Bool) (l : Int) (pm : Nat × Int) : Int := FU us d s c l pm.1 + pm.2 - fmM us d l pm.1
def fbM (us : List (Str × Int)) (d : Nat) (s : Str) (c : Bool) (l n : Int) : Int := idxM us d s c l (placedM us d s c l n)
theorem thr_fm (g : Good us d s l) {p : Nat} (hp : p < us.length) : (thrsOf us l).getD p 0 = fmM us d l p * (stepsOf us d).getD p 0 ∧ 0 ≤ fmM us d l p := by
  unfold fmM
  obtain ⟨_, s1, _⟩ := steps_ok g hp
  rcases Nat.eq_zero_or_pos p with z | z
  · subst z
    exact ⟨rfl, by show (0 : Int) ≤ 0 / 1; decide⟩
  · obtain ⟨⟨k, hk0, hk⟩, _⟩ := thr_steps g z hp
    rw [hk, Int.mul_ediv_cancel _ (by omega)]
    exact ⟨rfl, hk0⟩
theorem fm_le (g : Good us d s l) {p : Nat} (hp : p < us.length) : fmM us d l p ≤ 1000000 := by
  rcases Nat.eq_zero_or_pos p with z | z
  · subst z
    show (0 : Int) / 1 ≤ _
    decide
  · unfold fmM
    obtain ⟨_, s1, _⟩ := steps_ok g hp
    rw [thr_eq z hp, sz_step g z hp, Int.mul_assoc, Int.mul_ediv_cancel_left _ (by omega)]
    have h1 := pow_hi g.d3
    have h2 := g.l2
    have h3 := g.l1
    have h4 := pow_lo d
    have : (10 ^ d * l : Int) ≤ 1000 * 1000 := Int.mul_le_mul h1 h2 (by omega) (by decide)
    omega
/-- a unit begins with the mark of its threshold -/
theorem start_le_thr (g : Good us d s l) {p : Nat} (hp : p < us.length) : startM us d s c l p ≤ (thrsOf us l).getD p 0 := by
  unfold startM
  split
  · exact Int.le_refl _
  · rename_i hc
    have z : 1 ≤ p := by
      rcases Nat.eq_zero_or_pos p with y | y
      · exact absurd (.inl y) hc
      · exact y
    obtain ⟨_, s1, _⟩ := steps_ok g (show p - 1 < us.length by omega)
    obtain ⟨_, k, hk0, hk⟩ := thr_steps g z hp
    rw [hk, Int.mul_ediv_cancel _ (by omega)]
    exact firstR_hi s1
theorem start_mark (g : Good us d s l) {p : Nat} (hp : p < us.length) : rnd (startM us d s c l p) ((stepsOf us d).getD p 0) s = fmM us d l p := by
  obtain ⟨_, s1, _⟩ := steps_ok g hp
  obtain ⟨ht, hf0⟩ := thr_fm g hp
  have h2 := step_even g hp
  have hle := start_le_thr (c := c) g hp
  have hnn := start_nn (c := c) g hp
  have a1 : ¬ fmM us d l p + 1 ≤ rnd (startM us d s c l p) ((stepsOf us d).getD p 0) s := fun y => by
    have h3 := (rnd_ge g.srt h2 s1 hnn (by omega)).mp y
    have h4 := firstR_strict (s := s) s1 h2 hf0
    have h5 := firstR_lo (m := fmM us d l p + 1) (s := s) s1
    rw [Int.add_mul, Int.one_mul] at h5
    rcases h2 with e1 | e1
    · rw [e1, firstR_one] at h3
      rw [e1, Int.mul_one] at ht
      omega
    · have h6 : fmM us d l p * (stepsOf us d).getD p 0 < firstR (fmM us d l p + 1) ((stepsOf us d).getD p 0) s := by
        have e3 : (fmM us d l p + 1) * (stepsOf us d).getD p 0 = fmM us d l p * (stepsOf us d).getD p 0 + (stepsOf us d).getD p 0 := by rw [Int.add_mul, Int.one_mul]
        have e4 : (fmM us d l p + 1 - 1) * (stepsOf us d).getD p 0 = fmM us d l p * (stepsOf us d).getD p 0 := by rw [Int.add_sub_cancel]
        unfold firstR
        rw [e3, e4]
        split
        · omega
        · split
          · omega
          · split <;> omega
      omega
  have a2 : fmM us d l p ≤ rnd (startM us d s c l p) ((stepsOf us d).getD p 0) s := by
    refine (rnd_ge g.srt h2 s1 hnn hf0).mpr ?_
    unfold startM
    split
    · rw [ht]
      exact firstR_hi s1
    · rename_i hc
      have z : 1 ≤ p := by
        rcases Nat.eq_zero_or_pos p with y | y
        · exact absurd (.inl y) hc
        · exact y
      have hp' : p - 1 < us.length := by omega
      obtain ⟨_, t1, _⟩ := steps_ok g hp'
      obtain ⟨_, k, hk0, hk⟩ := thr_steps g z hp
      have hup := step_up g (p := p - 1) (by omega)
      rw [show p - 1 + 1 = p by omega] at hup
      have he' := step_even g hp'
      rw [hk, Int.mul_ediv_cancel _ (by omega)]
      rw [hk] at ht
      rcases Nat.eq_zero_or_pos (p - 1) with y | y
      · rw [y, step_zero, firstR_one]
        rw [y, step_zero, Int.mul_one] at ht
        rw [ht]
        exact firstR_hi s1
      · -- both steps are even
        have hlt : (stepsOf us d).getD (p - 1) 0 < (stepsOf us d).getD p 0 := by
          have hz0 := sz_step g y hp'
          have hz1 := sz_step g z hp
          have hupz := sz_up g.u (i := p - 1) (by omega)
          rw [show p - 1 + 1 = p by omega, hz0, hz1] at hupz
          exact Int.lt_of_mul_lt_mul_right hupz (Int.le_of_lt (pow_lo d))
        have ev : ∀ {q : Nat}, 1 ≤ q → q < us.length → (stepsOf us d).getD q 0 % 2 = 0 := fun {q} q1 q2 => by
          rcases step_even g q2 with w | w
          · exfalso
            have hh := step_at (d := d) q1 q2
            obtain ⟨i, rfl⟩ : ∃ i, q = i + 1 := ⟨q - 1, by omega⟩
            have hu : us[i + 1]? = some us[i + 1] := List.getElem?_eq_getElem q2
            have hm : us[i + 1] ∈ us.drop 1 := List.mem_of_getElem? (i := i) (by rw [List.getElem?_drop, Nat.add_comm 1 i]; exact hu)
            have hz := g.div _ hm
            obtain ⟨r, hr⟩ := Int.dvd_of_emod_eq_zero hz
            have hpw := pow_lo d
            rw [szOf_at hu, hr, show (2 * 10 ^ d * r : Int) = 2 * r * 10 ^ d by rw [Int.mul_assoc, Int.mul_assoc, Int.mul_comm (10 ^ d) r], Int.mul_ediv_cancel _ (by omega)] at hh
            omega
          · exact w
        have e1 := ev y hp'
        have e2 := ev z hp
        generalize (stepsOf us d).getD (p - 1) 0 = a at *
        generalize (stepsOf us d).getD p 0 = b at *
        generalize fmM us d l p = f at *
        have ea : a = 2 * (a / 2) := by omega
        have eb : b = 2 * (b / 2) := by omega
        have fz : f = 0 → f * b = 0 := fun w => by rw [w, Int.zero_mul]
        have kz : k = 0 → k * a = 0 := fun w => by rw [w, Int.zero_mul]
        have f3 : (f - 1) * b = f * b - b := by rw [Int.sub_mul, Int.one_mul]
        have k3 : (k - 1) * a = k * a - a := by rw [Int.sub_mul, Int.one_mul]
        have fp : 0 < f → b ≤ f * b := fun w => by
          have := Int.mul_le_mul_of_nonneg_right (c := b) (show 1 ≤ f by omega) (by omega)
          omega
        have kp : 0 < k → a ≤ k * a := fun w => by
          have := Int.mul_le_mul_of_nonneg_right (c := a) (show 1 ≤ k by omega) (by omega)
          omega
        unfold firstR
        rw [f3, k3]
        generalize f * b = X at *
        generalize k * a = Y at *
        have hf : f = 0 ∨ 0 < f := by omega
        have hk' : k = 0 ∨ 0 < k := by omega
        split <;> rename_i c1
        · split <;> rename_i c2
          · omega
          · split
            · have : 0 < k := by
                rcases hk' with w | w
                · exact absurd (.inl w) c2
                · exact w
              have := kp this
              rcases c1 with w | w | w
              · have := fz w
                omega
              · omega
              · exact absurd (.inr (.inr w)) c2
            · have : 0 < k := by
                rcases hk' with w | w
                · exact absurd (.inl w) c2
                · exact w
              have := kp this
              rcases c1 with w | w | w
              · have := fz w
                omega
              · omega
              · exact absurd (.inr (.inr w)) c2
        · have hfp : 0 < f := by
            rcases hf with w | w
            · exact absurd (.inl w) c1
            · exact w
          have hb1 := fp hfp
          have c2 : ¬ (k = 0 ∨ a = 1 ∨ s = "down") := fun w => w.elim (fun w => by have := kz w; omega) (fun w => w.elim (fun w => by omega) (fun w => c1 (.inr (.inr w))))
          rw [if_neg c2]
          (repeat' split) <;> omega
  omega
theorem start_strict (g : Good us d s l) {p : Nat} (hp : p + 1 < us.length) : startM us d s c l p < startM us d s c l (p + 1) := by
  have hnn := start_nn (c := c) g hp
  rcases Int.lt_or_le (startM us d s c l p) (startM us d s c l (p + 1)) with y | y
  · exact y
  · exfalso
    have hp0 : p < us.length := by omega
    have h0 := start_nn (c := c) g hp0
    -- the start of the next unit is shown with it, and this one too
    have h1 := start_le_thr (c := c) g hp0
    have h2 : (thrsOf us l).getD p 0 < startM us d s c l (p + 1) := by
      unfold startM
      split
      · rcases Nat.eq_zero_or_pos p with z | z
        · subst z
          rw [thr_eq (by omega) hp]
          have := (last_sz_pos g.u hp).1
          have := g.l1
          show (0 : Int) < szOf us (0 + 1) * l
          exact Int.mul_pos (by omega) (by omega)
        · rw [thr_eq z hp0, thr_eq (by omega) hp]
          exact Int.mul_lt_mul_of_pos_right (sz_up g.u hp) (by have := g.l1; omega)
      · rw [Nat.add_sub_cancel]
        obtain ⟨_, s1, _⟩ := steps_ok g hp0
        obtain ⟨ht, hf0⟩ := thr_fm g hp0
        obtain ⟨_, k, hk0, hk⟩ := thr_steps g (show 1 ≤ p + 1 by omega) hp
        rw [Nat.add_sub_cancel] at hk
        rw [hk, Int.mul_ediv_cancel _ (by omega)]
        -- k is greater than the first mark
        have hlt : fmM us d l p < k := by
          have h3 : (thrsOf us l).getD p 0 < (thrsOf us l).getD (p + 1) 0 := by
            rcases Nat.eq_zero_or_pos p with z | z
            · subst z
              rw [thr_eq (by omega) hp]
              have := (last_sz_pos g.u hp).1
              have := g.l1
              show (0 : Int) < szOf us (0 + 1) * l
              exact Int.mul_pos (by omega) (by omega)
            · rw [thr_eq z hp0, thr_eq (by omega) hp]
              exact Int.mul_lt_mul_of_pos_right (sz_up g.u hp) (by have := g.l1; omega)
          rw [ht, hk] at h3
          exact Int.lt_of_mul_lt_mul_right h3 (by omega)
        have he := step_even g hp0
        have h4 : firstR (fmM us d l p + 1) ((stepsOf us d).getD p 0) s ≤ firstR k ((stepsOf us d).getD p 0) s := by
          have hkk : ∀ (j : Nat), firstR (fmM us d l p + 1) ((stepsOf us d).getD p 0) s ≤ firstR (fmM us d l p + 1 + (j : Int)) ((stepsOf us d).getD p 0) s := by
            intro j
            induction j with
            | zero => rw [show fmM us d l p + 1 + ((0 : Nat) : Int) = fmM us d l p + 1 by omega]; exact Int.le_refl _
            | succ j ih =>
              have := firstR_strict (m := fmM us d l p + 1 + (j : Int)) (s := s) s1 he (by omega)
              rw [show fmM us d l p + 1 + ((j + 1 : Nat) : Int) = fmM us d l p + 1 + (j : Int) + 1 by omega]
              omega
          have := hkk (k - (fmM us d l p + 1)).toNat
          rw [show fmM us d l p + 1 + ((k - (fmM us d l p + 1)).toNat : Int) = k by omega] at this
          exact this
        have h5 : fmM us d l p * (stepsOf us d).getD p 0 < firstR (fmM us d l p + 1) ((stepsOf us d).getD p 0) s := by
          rcases he with e1 | e1
          · rw [e1, firstR_one]
            omega
          · have e3 : (fmM us d l p + 1) * (stepsOf us d).getD p 0 = fmM us d l p * (stepsOf us d).getD p 0 + (stepsOf us d).getD p 0 := by rw [Int.add_mul, Int.one_mul]
            have e4 : (fmM us d l p + 1 - 1) * (stepsOf us d).getD p 0 = fmM us d l p * (stepsOf us d).getD p 0 := by rw [Int.add_sub_cancel]
            unfold firstR
            rw [e3, e4]
            split
            · omega
            · split
              · omega
              · split <;> omega
        omega
    omega
end
end My

namespace My
open PySem PySem.Spec PyProof.Rows L2
section
variable {us : List (Str × Int)} {d : Nat} {s : Str} {c : Bool} {l : Int}
theorem place_mono (g : Good us d s l) {n n' : Int} (n0 : 0 ≤ n) (h : n ≤ n') : (placedM us d s c l n).1 ≤ (placedM us d s c l n').1 := by
  have hlt := (placedM_ok (c := c) g n0).1
  have h1 := (place_ge (c := c) g n0 hlt).mp (Nat.le_refl _)
  exact (place_ge (c := c) g (by omega) hlt).mpr (by omega)
/-- where a unit begins -/
theorem placed_start (g : Good us d s l) {p : Nat} (hp : p < us.length) : placedM us d s c l (startM us d s c l p) = (p, fmM us d l p) := by
  have h0 := start_nn (c := c) g hp
  have h1 := (place_ge (c := c) g h0 hp).mpr (Int.le_refl _)
  have h2 : (placedM us d s c l (startM us d s c l p)).1 ≤ p := by
    have hlt := (placedM_ok (c := c) g h0).1
    rcases Nat.lt_or_ge p (placedM us d s c l (startM us d s c l p)).1 with y | y
    · exfalso
      have hp1 : p + 1 < us.length := by omega
      have h3 := (place_ge (c := c) g h0 hp1).mp y
      have := start_strict (c := c) g hp1
      omega
    · exact y
  have e1 : (placedM us d s c l (startM us d s c l p)).1 = p := by omega
  have e2 := placed_snd us d s c l (startM us d s c l p)
  rw [e1, start_mark g hp] at e2
  exact Prod.ext e1 e2
/-- where a unit ends -/
theorem placed_end (g : Good us d s l) {p : Nat} (hp : p + 1 < us.length) : placedM us d s c l (startM us d s c l (p + 1) - 1) = (p, lmM us d s c l p) := by
  have hs := start_strict (c := c) g hp
  have hp0 : p < us.length := by omega
  have h0 := start_nn (c := c) g hp0
  have h1 := (place_ge (c := c) (n := startM us d s c l (p + 1) - 1) g (by omega) hp0).mpr (by omega)
  have h2 : (placedM us d s c l (startM us d s c l (p + 1) - 1)).1 ≤ p := by
    rcases Nat.lt_or_ge p (placedM us d s c l (startM us d s c l (p + 1) - 1)).1 with y | y
    · exfalso
      have h3 := (place_ge (c := c) (n := startM us d s c l (p + 1) - 1) g (by omega) hp).mp y
      omega
    · exact y
  have e1 : (placedM us d s c l (startM us d s c l (p + 1) - 1)).1 = p := by omega
  have e2 := placed_snd us d s c l (startM us d s c l (p + 1) - 1)
  rw [e1] at e2
  have e3 : (placedM us d s c l (startM us d s c l (p + 1) - 1)).2 = lmM us d s c l p := e2
  exact Prod.ext e1 e3
theorem lm_ge (g : Good us d s l) {p : Nat} (hp : p + 1 < us.length) : fmM us d l p ≤ lmM us d s c l p := by
  have hp0 : p < us.length := by omega
  have hs := start_strict (c := c) g hp
  have h0 := start_nn (c := c) g hp0
  obtain ⟨_, s1, _⟩ := steps_ok g hp0
  rw [← start_mark (c := c) g hp0]
  unfold lmM
  exact rnd_mono g.srt (step_even g hp0) s1 h0 (by omega)
/-- one number further: the same figure, or the next place -/
theorem fb_succ (g : Good us d s l) {n : Int} (n0 : 0 ≤ n) : (placedM us d s c l (n + 1) = placedM us d s c l n) ∨ (placedM us d s c l (n + 1) ≠ placedM us d s c l n ∧ fbM us d s c l (n + 1) = fbM us d s c l n + 1) := by
  have hlt := (placedM_ok (c := c) g n0).1
  have hlt' := (placedM_ok (c := c) (n := n + 1) g (by omega)).1
  have hm := place_mono (c := c) g n0 (show n ≤ n + 1 by omega)
  have es := placed_snd us d s c l n
  have es' := placed_snd us d s c l (n + 1)
  rcases Nat.lt_or_ge (placedM us d s c l n).1 (placedM us d s c l (n + 1)).1 with y | y
  · right
    -- a new unit begins at n + 1
    have hp1 : (placedM us d s c l n).1 + 1 < us.length := by omega
    have h1 : n < startM us d s c l ((placedM us d s c l n).1 + 1) := by
      rcases Int.lt_or_le n (startM us d s c l ((placedM us d s c l n).1 + 1)) with w | w
      · exact w
      · have := (place_ge (c := c) g n0 hp1).mpr w
        omega
    have h2 := (place_ge (c := c) (n := n + 1) g (by omega) hp1).mp (by omega)
    have en : n + 1 = startM us d s c l ((placedM us d s c l n).1 + 1) := by omega
    have e1 := placed_start (c := c) g hp1
    have e2 := placed_end (c := c) g hp1
    rw [← en] at e1
    rw [← en, Int.add_sub_cancel] at e2
    refine ⟨fun w => ?_, ?_⟩
    · rw [w] at y
      omega
    · unfold fbM
      rw [e1]
      generalize (placedM us d s c l n).1 = p at *
      rw [e2]
      show FU us d s c l p + (lmM us d s c l p - fmM us d l p + 1) + fmM us d l (p + 1) - fmM us d l (p + 1) = FU us d s c l p + lmM us d s c l p - fmM us d l p + 1
      omega
  · have ep : (placedM us d s c l (n + 1)).1 = (placedM us d s c l n).1 := by omega
    obtain ⟨_, s1, _⟩ := steps_ok g hlt
    obtain ⟨r1, r2⟩ := rnd_succ (s := s) g.srt (step_even g hlt) s1 n0
    rw [ep] at es'
    rw [← es, ← es'] at r1 r2
    rcases Int.lt_or_le (placedM us d s c l n).2 (placedM us d s c l (n + 1)).2 with w | w
    · right
      refine ⟨fun v => ?_, ?_⟩
      · rw [v] at w
        omega
      · unfold fbM idxM
        rw [ep]
        omega
    · left
      exact Prod.ext ep (by omega)
theorem fb_mono (g : Good us d s l) {n : Int} (n0 : 0 ≤ n) : ∀ k : Nat, fbM us d s c l n ≤ fbM us d s c l (n + (k : Int)) := by
  intro k
  induction k with
  | zero => rw [show n + ((0 : Nat) : Int) = n by omega]; exact Int.le_refl _
  | succ k ih =>
    rw [show n + ((k + 1 : Nat) : Int) = n + (k : Int) + 1 by omega]
    rcases fb_succ (c := c) (n := n + (k : Int)) g (by omega) with e | ⟨_, e⟩
    · have e2 : fbM us d s c l (n + (k : Int) + 1) = fbM us d s c l (n + (k : Int)) := by unfold fbM; rw [e]
      omega
    · omega
theorem fb_le (g : Good us d s l) {n n' : Int} (n0 : 0 ≤ n) (h : n ≤ n') : fbM us d s c l n ≤ fbM us d s c l n' := by
  have := fb_mono (c := c) g n0 (n' - n).toNat
  rw [show n + ((n' - n).toNat : Int) = n' by omega] at this
  exact this
/-- the figure behind the range of a figure -/
theorem next_place (g : Good us d s l) {p : Nat} {m : Int} (hp : p < us.length) (hm : 0 ≤ m) (hle : lowM us d s c l p m ≤ highM us d s c l p m) :
    lowM us d s c l (placedM us d s c l (highM us d s c l p m + 1)).1 (placedM us d s c l (highM us d s c l p m + 1)).2 = highM us d s c l p m + 1 ∧ idxM us d s c l (placedM us d s c l (highM us d s c l p m + 1)) = idxM us d s c l (p, m) + 1 := by
  have h0 := low_nn (c := c) g hp m
  have hh : 0 ≤ highM us d s c l p m := by omega
  have e0 := (range_iff (c := c) g hh hp hm).mpr ⟨hle, Int.le_refl _⟩
  have e1 : placedM us d s c l (highM us d s c l p m + 1) ≠ (p, m) := fun e => by
    have := (range_iff (c := c) (n := highM us d s c l p m + 1) g (by omega) hp hm).mp e
    omega
  constructor
  · have hin := in_range (c := c) (n := highM us d s c l p m + 1) g (by omega) (p := (placedM us d s c l (highM us d s c l p m + 1)).1) (m := (placedM us d s c l (highM us d s c l p m + 1)).2) rfl
    obtain ⟨k1, k2, _⟩ := placedM_ok (c := c) (n := highM us d s c l p m + 1) g (by omega)
    rcases Int.lt_or_le (lowM us d s c l (placedM us d s c l (highM us d s c l p m + 1)).1 (placedM us d s c l (highM us d s c l p m + 1)).2) (highM us d s c l p m + 1) with y | y
    · exfalso
      have := (range_iff (c := c) g hh k1 k2).mpr ⟨by omega, by omega⟩
      rw [e0] at this
      exact e1 this.symm
    · omega
  · rcases fb_succ (c := c) g hh with e | ⟨_, e⟩
    · rw [e0] at e
      exact absurd e e1
    · unfold fbM at e
      rw [e0] at e
      exact e
/-- which figures are shown -/
theorem is_shown (g : Good us d s l) {p : Nat} {m : Int} (hp : p < us.length) (h1 : fmM us d l p ≤ m) (h2 : p + 1 < us.length → m ≤ lmM us d s c l p) : lowM us d s c l p m ≤ highM us d s c l p m := by
  obtain ⟨_, s1, _⟩ := steps_ok g hp
  have he := step_even g hp
  have hf0 := (thr_fm g hp).2
  have h0 := start_nn (c := c) g hp
  suffices h : ∃ x, 0 ≤ x ∧ placedM us d s c l x = (p, m) by
    obtain ⟨x, x0, ex⟩ := h
    have := (range_iff (c := c) g x0 hp (by omega)).mp ex
    omega
  rcases Int.lt_or_le (fmM us d l p) m with y | y
  · refine ⟨firstR m ((stepsOf us d).getD p 0) s, firstR_nn s1 (by omega), ?_⟩
    have x0 := firstR_nn (m := m) (st := (stepsOf us d).getD p 0) (s := s) s1 (by omega)
    have hgt : startM us d s c l p < firstR m ((stepsOf us d).getD p 0) s := by
      rcases Int.lt_or_le (startM us d s c l p) (firstR m ((stepsOf us d).getD p 0) s) with w | w
      · exact w
      · exfalso
        have := (rnd_ge g.srt he s1 h0 (show 0 ≤ m by omega)).mpr w
        rw [start_mark g hp] at this
        omega
    have hlt : p + 1 < us.length → firstR m ((stepsOf us d).getD p 0) s < startM us d s c l (p + 1) := fun hp1 => by
      have hs := start_strict (c := c) g hp1
      have := (rnd_ge (n := startM us d s c l (p + 1) - 1) g.srt he s1 (by omega) (show 0 ≤ m by omega)).mp (h2 hp1)
      omega
    have a1 := (place_ge (c := c) g x0 hp).mpr (by omega)
    have a2 : (placedM us d s c l (firstR m ((stepsOf us d).getD p 0) s)).1 ≤ p := by
      have hlt2 := (placedM_ok (c := c) g x0).1
      rcases Nat.lt_or_ge p (placedM us d s c l (firstR m ((stepsOf us d).getD p 0) s)).1 with w | w
      · exfalso
        have hp1 : p + 1 < us.length := by omega
        have := (place_ge (c := c) g x0 hp1).mp w
        have := hlt hp1
        omega
      · exact w
    have e1 : (placedM us d s c l (firstR m ((stepsOf us d).getD p 0) s)).1 = p := by omega
    have e2 := placed_snd us d s c l (firstR m ((stepsOf us d).getD p 0) s)
    rw [e1] at e2
    have e3 : rnd (firstR m ((stepsOf us d).getD p 0) s) ((stepsOf us d).getD p 0) s = m := by
      have b1 := (rnd_ge (n := firstR m ((stepsOf us d).getD p 0) s) g.srt he s1 x0 (show 0 ≤ m by omega)).mpr (Int.le_refl _)
      have b2 : ¬ m + 1 ≤ rnd (firstR m ((stepsOf us d).getD p 0) s) ((stepsOf us d).getD p 0) s := fun w => by
        have := (rnd_ge (n := firstR m ((stepsOf us d).getD p 0) s) (m := m + 1) g.srt he s1 x0 (by omega)).mp w
        have := firstR_strict (m := m) (s := s) s1 he (by omega)
        omega
      omega
    rw [e3] at e2
    exact Prod.ext e1 e2
  · refine ⟨_, h0, ?_⟩
    rw [placed_start g hp, show m = fmM us d l p by omega]
theorem FU_up (g : Good us d s l) {p : Nat} (hp : p + 1 < us.length) : FU us d s c l p < FU us d s c l (p + 1) := by
  have := lm_ge (c := c) g hp
  show FU us d s c l p < FU us d s c l p + (lmM us d s c l p - fmM us d l p + 1)
  omega
theorem FU_mono (g : Good us d s l) : ∀ {q p : Nat}, p ≤ q → q < us.length → FU us d s c l p ≤ FU us d s c l q := by
  intro q
  induction q with
  | zero => intro p h _; rw [show p = 0 by omega]; exact Int.le_refl _
  | succ q ih =>
    intro p h hq
    rcases Nat.lt_or_ge p (q + 1) with y | y
    · have := ih (p := p) (by omega) (by omega)
      have := FU_up (c := c) g hq
      omega
    · rw [show p = q + 1 by omega]
      exact Int.le_refl _
theorem FU_nn (g : Good us d s l) {p : Nat} (hp : p < us.length) : 0 ≤ FU us d s c l p := FU_mono (c := c) g (Nat.zero_le p) hp
/-- all that is asked of the unit that figure_at finds -/
theorem at_place (g : Good us d s l) {k : Int} {p : Nat} (hp : p < us.length) (h1 : FU us d s c l p ≤ k) (h2 : p + 1 < us.length → k < FU us d s c l (p + 1)) :
    fmM us d l p ≤ fmM us d l p + k - FU us d s c l p ∧ lowM us d s c l p (fmM us d l p + k - FU us d s c l p) ≤ highM us d s c l p (fmM us d l p + k - FU us d s c l p) ∧ idxM us d s c l (p, fmM us d l p + k - FU us d s c l p) = k := by
  refine ⟨by omega, is_shown g hp (by omega) (fun hp1 => ?_), ?_⟩
  · have h3 := h2 hp1
    have h4 : FU us d s c l (p + 1) = FU us d s c l p + (lmM us d s c l p - fmM us d l p + 1) := rfl
    omega
  · show FU us d s c l p + (fmM us d l p + k - FU us d s c l p) - fmM us d l p = k
    omega
/-- the worth never falls -/
theorem worth_succ (g : Good us d s l) {n : Int} (n0 : 0 ≤ n) : worthM us d s c l n ≤ worthM us d s c l (n + 1) := by
  have hlt := (placedM_ok (c := c) g n0).1
  have hlt' := (placedM_ok (c := c) (n := n + 1) g (by omega)).1
  have hm := place_mono (c := c) g n0 (show n ≤ n + 1 by omega)
  have es := placed_snd us d s c l n
  have es' := placed_snd us d s c l (n + 1)
  obtain ⟨_, s1, _⟩ := steps_ok g hlt
  unfold worthM
  rcases Nat.lt_or_ge (placedM us d s c l n).1 (placedM us d s c l (n + 1)).1 with y | y
  · have hp1 : (placedM us d s c l n).1 + 1 < us.length := by omega
    have h1 : n < startM us d s c l ((placedM us d s c l n).1 + 1) := by
      rcases Int.lt_or_le n (startM us d s c l ((placedM us d s c l n).1 + 1)) with w | w
      · exact w
      · have := (place_ge (c := c) g n0 hp1).mpr w
        omega
    have h2 := (place_ge (c := c) (n := n + 1) g (by omega) hp1).mp (by omega)
    have en : n + 1 = startM us d s c l ((placedM us d s c l n).1 + 1) := by omega
    have e1 := placed_start (c := c) g hp1
    rw [← en] at e1
    have hthr := start_le_thr (c := c) g hp1
    rw [← en] at hthr
    have ht := (thr_fm g hp1).1
    obtain ⟨_, k, hk0, hk⟩ := thr_steps g (show 1 ≤ (placedM us d s c l n).1 + 1 by omega) hp1
    rw [Nat.add_sub_cancel] at hk
    rw [e1]
    generalize (placedM us d s c l n).1 = p at *
    rw [es]
    show rnd n ((stepsOf us d).getD p 0) s * (stepsOf us d).getD p 0 ≤ fmM us d l (p + 1) * (stepsOf us d).getD (p + 1) 0
    rw [← ht, hk]
    rw [hk] at hthr
    exact Int.mul_le_mul_of_nonneg_right (rnd_below s1 (by omega)) (by omega)
  · have ep : (placedM us d s c l (n + 1)).1 = (placedM us d s c l n).1 := by omega
    obtain ⟨r1, r2⟩ := rnd_succ (s := s) g.srt (step_even g hlt) s1 n0
    rw [ep] at es'
    rw [← es, ← es'] at r1
    rw [ep]
    exact Int.mul_le_mul_of_nonneg_right r1 (by omega)
theorem worth_mono (g : Good us d s l) {n : Int} (n0 : 0 ≤ n) : ∀ k : Nat, worthM us d s c l n ≤ worthM us d s c l (n + (k : Int)) := by
  intro k
  induction k with
  | zero => rw [show n + ((0 : Nat) : Int) = n by omega]; exact Int.le_refl _
  | succ k ih =>
    have := worth_succ (c := c) (n := n + (k : Int)) g (by omega)
    rw [show n + ((k + 1 : Nat) : Int) = n + (k : Int) + 1 by omega]
    omega
theorem worth_le (g : Good us d s l) {n n' : Int} (n0 : 0 ≤ n) (h : n ≤ n') : worthM us d s c l n ≤ worthM us d s c l n' := by
  have := worth_mono (c := c) g n0 (n' - n).toNat
  rw [show n + ((n' - n).toNat : Int) = n' by omega] at this
  exact this
/-- figures are the same exactly if their places are -/
theorem same_iff (g : Good us d s l) {n n' : Int} (n0 : 0 ≤ n) (h : n ≤ n') : placedM us d s c l n = placedM us d s c l n' ↔ fbM us d s c l n = fbM us d s c l n' := by
  constructor
  · intro e
    unfold fbM
    rw [e]
  · intro e
    have key : ∀ k : Nat, n + (k : Int) ≤ n' → placedM us d s c l (n + (k : Int)) = placedM us d s c l n := by
      intro k
      induction k with
      | zero => intro _; rw [show n + ((0 : Nat) : Int) = n by omega]
      | succ k ih =>
        intro hk
        have i1 := ih (by omega)
        rw [show n + ((k + 1 : Nat) : Int) = n + (k : Int) + 1 by omega]
        rcases fb_succ (c := c) (n := n + (k : Int)) g (by omega) with e1 | ⟨_, e1⟩
        · rw [e1, i1]
        · exfalso
          have h1 := fb_le (c := c) (n := n + (k : Int) + 1) (n' := n') g (by omega) (by omega)
          have h2 : fbM us d s c l (n + (k : Int)) = fbM us d s c l n := by unfold fbM; rw [i1]
          omega
    have := key (n' - n).toNat (by omega)
    rw [show n + ((n' - n).toNat : Int) = n' by omega] at this
    exact this.symm
end
end My

namespace My
open PySem PySem.Spec PyProof.Rows L2
theorem low_hi {us : List (Str × Int)} {d : Nat} {s : Str} {c : Bool} {l : Int} (g : Good us d s l) {p : Nat} (hp : p < us.length) {m : Int} (m0 : 0 ≤ m) (m1 : m ≤ 2000000000) : lowM us d s c l p m ≤ 2000000000000000000000000000 := by
  obtain ⟨_, s1, s2⟩ := steps_ok g hp
  have h1 := firstR_hi (m := m) (s := s) s1
  have h2 : m * (stepsOf us d).getD p 0 ≤ 2000000000 * 1000000000000000000 := Int.mul_le_mul m1 s2 (by omega) (by decide)
  have h3 := start_le_thr (c := c) g hp
  have h4 : (thrsOf us l).getD p 0 ≤ 1000 * 1000000000000000000 := by
    rcases Nat.eq_zero_or_pos p with z | z
    · subst z
      show (0 : Int) ≤ _
      decide
    · rw [thr_eq z hp]
      have b1 := last_sz_pos g.u hp
      have b2 := g.l1
      have b3 := g.l2
      have : szOf us p * l ≤ 1000000000000000000 * 1000 := Int.mul_le_mul b1.2 b3 (by omega) (by decide)
      omega
  unfold lowM max2
  split <;> omega
/-- the mark of a figure with this place -/
theorem mark_le {us : List (Str × Int)} {d : Nat} {s : Str} {c : Bool} {l : Int} (g : Good us d s l) {p : Nat} (hp : p < us.length) {m : Int} : m ≤ idxM us d s c l (p, m) + 1000000 := by
  have h1 := FU_nn (c := c) g hp
  have h2 := fm_le g hp
  show m ≤ FU us d s c l p + m - fmM us d l p + 1000000
  omega
theorem low_place {us : List (Str × Int)} {d : Nat} {s : Str} {c : Bool} {l : Int} (g : Good us d s l) {p : Nat} (hp : p < us.length) {m : Int} (m0 : 0 ≤ m) (hle : lowM us d s c l p m ≤ highM us d s c l p m) : placedM us d s c l (lowM us d s c l p m) = (p, m) :=
  (range_iff g (low_nn g hp m) hp m0).mpr ⟨Int.le_refl _, hle⟩
theorem low_order {us : List (Str × Int)} {d : Nat} {s : Str} {c : Bool} {l : Int} (g : Good us d s l) {p p' : Nat} (hp : p < us.length) (hp' : p' < us.length) {m m' : Int} (m0 : 0 ≤ m) (m0' : 0 ≤ m') (hle : lowM us d s c l p m ≤ highM us d s c l p m) (hle' : lowM us d s c l p' m' ≤ highM us d s c l p' m')
    (h : idxM us d s c l (p, m) ≤ idxM us d s c l (p', m')) : lowM us d s c l p m ≤ lowM us d s c l p' m' := by
  have e := low_place (c := c) g hp m0 hle
  have e' := low_place (c := c) g hp' m0' hle'
  have n0 := low_nn (c := c) g hp' m'
  rcases Int.lt_or_le (lowM us d s c l p' m') (lowM us d s c l p m) with y | y
  · exfalso
    have h1 := fb_le (c := c) g n0 (Int.le_of_lt y)
    have h2 : fbM us d s c l (lowM us d s c l p' m') = fbM us d s c l (lowM us d s c l p m) := by
      unfold fbM at h1 ⊢
      rw [e, e'] at h1 ⊢
      omega
    have h3 := (same_iff (c := c) g n0 (Int.le_of_lt y)).mpr h2
    rw [e, e'] at h3
    rw [← Prod.mk.inj h3 |>.1, ← Prod.mk.inj h3 |>.2] at y
    omega
  · exact y
end My

namespace My
open PySem PySem.Spec PyProof.Rows L2
/-! ### when two ladders show the same -/
/-- what a step and a rounding may be -/
structure Stp (st : Int) (s : Str) : Prop where
  pos : 0 < st
  even : st = 1 ∨ st % 2 = 0
  srt : s ∈ sorts
theorem Good.stp {us : List (Str × Int)} {d : Nat} {s : Str} {l : Int} (g : Good us d s l) {p : Nat} (hp : p < us.length) : Stp ((stepsOf us d).getD p 0) s := ⟨(steps_ok g hp).2.1, step_even g hp, g.srt⟩
/-- two marks further it goes on alike -/
theorem firstR_two {m st : Int} {s : Str} (h : Stp st s) (m1 : 1 ≤ m) : firstR (m + 2) st s = firstR m st s + 2 * st := by
  have e : (m + 2) * st = m * st + 2 * st := by rw [Int.add_mul]
  have e' : (m + 2 - 1) * st = (m - 1) * st + 2 * st := by rw [show m + 2 - 1 = (m - 1) + 2 by omega, Int.add_mul]
  have c1 : (m + 2 = 0 ∨ st = 1 ∨ s = "down") ↔ (m = 0 ∨ st = 1 ∨ s = "down") := ⟨fun y => y.elim (fun y => by omega) .inr, fun y => y.elim (fun y => by omega) .inr⟩
  have c2 : (s = "even" ∧ (m + 2) % 2 = 1) ↔ (s = "even" ∧ m % 2 = 1) := ⟨fun y => ⟨y.1, by omega⟩, fun y => ⟨y.1, by omega⟩⟩
  unfold firstR
  rw [e, e']
  by_cases k1 : m = 0 ∨ st = 1 ∨ s = "down"
  · rw [if_pos (c1.mpr k1), if_pos k1]
  · rw [if_neg (fun y => k1 (c1.mp y)), if_neg k1]
    by_cases k2 : s = "up"
    · rw [if_pos k2, if_pos k2]
      omega
    · rw [if_neg k2, if_neg k2]
      by_cases k3 : s = "even" ∧ m % 2 = 1
      · rw [if_pos (c2.mpr k3), if_pos k3]
        omega
      · rw [if_neg (fun y => k3 (c2.mp y)), if_neg k3]
        omega
/-- what agrees at three marks in a row agrees at all -/
theorem firstR_agree {st st' m : Int} {s s' : Str} (h : Stp st s) (h' : Stp st' s') (m0 : 0 ≤ m) (e1 : firstR (m + 1) st s = firstR (m + 1) st' s') (e2 : firstR (m + 2) st s = firstR (m + 2) st' s') (e3 : firstR (m + 3) st s = firstR (m + 3) st' s') :
    ∀ k : Nat, firstR (m + 1 + (k : Int)) st s = firstR (m + 1 + (k : Int)) st' s' := by
  have a := firstR_two h (show 1 ≤ m + 1 by omega)
  have a' := firstR_two h' (show 1 ≤ m + 1 by omega)
  rw [show m + 1 + 2 = m + 3 by omega] at a a'
  have est : st = st' := by omega
  have key : ∀ k : Nat, firstR (m + 1 + (k : Int)) st s = firstR (m + 1 + (k : Int)) st' s' ∧ firstR (m + 1 + (k : Int) + 1) st s = firstR (m + 1 + (k : Int) + 1) st' s' := by
    intro k
    induction k with
    | zero =>
      rw [show m + 1 + ((0 : Nat) : Int) = m + 1 by omega, show m + 1 + 1 = m + 2 by omega]
      exact ⟨e1, e2⟩
    | succ k ih =>
      rw [show m + 1 + ((k + 1 : Nat) : Int) = m + 1 + (k : Int) + 1 by omega]
      refine ⟨ih.2, ?_⟩
      rw [show m + 1 + (k : Int) + 1 + 1 = m + 1 + (k : Int) + 2 by omega, firstR_two h (by omega), firstR_two h' (by omega), ih.1, est]
  exact fun k => (key k).1
theorem rnd_step_eq {n st m : Int} {s : Str} (h : Stp st s) (n0 : 0 ≤ n) (m0 : 0 ≤ m) (h1 : rnd n st s < m) (h2 : m ≤ rnd (n + 1) st s) : n + 1 = firstR m st s := by
  have a := (rnd_ge h.srt h.even h.pos (show 0 ≤ n + 1 by omega) m0).mp h2
  have b : ¬ firstR m st s ≤ n := fun y => by have := (rnd_ge h.srt h.even h.pos n0 m0).mpr y; omega
  omega
/-- marks that are equal up to a change, and not from there on: the change is one of the next three -/
theorem change_near {st st' a n : Int} {s s' : Str} (h : Stp st s) (h' : Stp st' s') (a0 : 0 ≤ a) (an : a < n) (hsame : ∀ x, a ≤ x → x < n → rnd x st s = rnd x st' s') (hinc : rnd (n - 1) st s < rnd n st s) (hst : rnd n st' s' ≤ rnd (n - 1) st' s') :
    ∃ j : Nat, j < 3 ∧ n = firstR (rnd a st s + 1 + (j : Int)) st s := by
  have r0 := rnd_nn (s := s) a0 h.pos
  have hm := rnd_mono h.srt h.even h.pos a0 (show a ≤ n - 1 by omega)
  have hn : n = firstR (rnd (n - 1) st s + 1) st s := by
    have := rnd_step_eq (n := n - 1) (m := rnd (n - 1) st s + 1) h (by omega) (by omega) (by omega) (by rw [Int.sub_add_cancel]; omega)
    omega
  rcases Int.lt_or_le (rnd (n - 1) st s) (rnd a st s + 3) with y | y
  · refine ⟨(rnd (n - 1) st s - rnd a st s).toNat, by omega, ?_⟩
    rw [show rnd a st s + 1 + ((rnd (n - 1) st s - rnd a st s).toNat : Int) = rnd (n - 1) st s + 1 by omega]
    exact hn
  · exfalso
    have ea := hsame a (Int.le_refl _) an
    have en := hsame (n - 1) (by omega) (by omega)
    -- a change of the one is a change of the other
    have both : ∀ i : Int, 1 ≤ i → i ≤ 3 → firstR (rnd a st s + i) st s = firstR (rnd a st s + i) st' s' := fun i i1 i2 => by
      have b1 := (rnd_ge (m := rnd a st s + i) h.srt h.even h.pos (show 0 ≤ n - 1 by omega) (by omega)).mp (by omega)
      have b2 : ¬ firstR (rnd a st s + i) st s ≤ a := fun w => by have := (rnd_ge (m := rnd a st s + i) h.srt h.even h.pos a0 (by omega)).mpr w; omega
      have c1 := hsame (firstR (rnd a st s + i) st s) (by omega) (by omega)
      have c2 := hsame (firstR (rnd a st s + i) st s - 1) (by omega) (by omega)
      have d1 := (rnd_ge (n := firstR (rnd a st s + i) st s) (m := rnd a st s + i) h.srt h.even h.pos (by omega) (by omega)).mpr (Int.le_refl _)
      have d2 : ¬ rnd a st s + i ≤ rnd (firstR (rnd a st s + i) st s - 1) st s := fun w => by
        have := (rnd_ge (n := firstR (rnd a st s + i) st s - 1) (m := rnd a st s + i) h.srt h.even h.pos (by omega) (by omega)).mp w
        omega
      have := rnd_step_eq (n := firstR (rnd a st s + i) st s - 1) (m := rnd a st s + i) h' (by omega) (by omega) (by omega) (by rw [Int.sub_add_cancel]; omega)
      omega
    have ag := firstR_agree h h' r0 (both 1 (by omega) (by omega)) (both 2 (by omega) (by omega)) (both 3 (by omega) (by omega)) (rnd (n - 1) st s - rnd a st s).toNat
    rw [show rnd a st s + 1 + ((rnd (n - 1) st s - rnd a st s).toNat : Int) = rnd (n - 1) st s + 1 by omega, ← hn] at ag
    have := (rnd_ge (n := n) (m := rnd (n - 1) st s + 1) h'.srt h'.even h'.pos (by omega) (by omega)).mpr (by omega)
    omega
/-! the form of a figure -/
theorem split_at {X X' Y Y' : List Nat} (h : 46 ∉ X) (h' : 46 ∉ X') (e : X ++ 46 :: Y = X' ++ 46 :: Y') : X = X' ∧ Y = Y' := by
  induction X generalizing X' with
  | nil =>
    cases X' with
    | nil => exact ⟨rfl, (List.cons.inj e).2⟩
    | cons x r =>
      have := (List.cons.inj e).1
      exact absurd (by rw [this]; exact List.mem_cons_self) h'
  | cons x r ih =>
    cases X' with
    | nil =>
      have := (List.cons.inj e).1
      exact absurd (by rw [this]; exact List.mem_cons_self) h
    | cons x' r' =>
      obtain ⟨e1, e2⟩ := List.cons.inj e
      obtain ⟨i1, i2⟩ := ih (X' := r') (fun w => h (List.mem_cons_of_mem _ w)) (fun w => h' (List.mem_cons_of_mem _ w)) e2
      exact ⟨by rw [e1, i1], i2⟩
theorem no46 {L : List Nat} (h : ∀ c ∈ L, 48 ≤ c ∧ c ≤ 57) : 46 ∉ L := fun w => by have := h 46 w; omega
theorem dg_inj {m m' : Int} {n n' : Nat} (hm : 0 ≤ m) (hm' : 0 ≤ m') (l1 : n + (dg m).length ≤ 4300) (e : List.replicate n 48 ++ dg m = List.replicate n' 48 ++ dg m') : m = m' := by
  have b1 := int_back (t := ⟨(List.replicate n 48 ++ dg m).toArray⟩) (n := n) hm rfl (by
    rw [str_len]
    show (List.replicate n 48 ++ dg m).length ≤ 4300
    rw [List.length_append, List.length_replicate]
    exact l1)
  have b2 := int_back (t := ⟨(List.replicate n 48 ++ dg m).toArray⟩) (n := n') hm' e (by
    rw [str_len]
    show (List.replicate n 48 ++ dg m).length ≤ 4300
    rw [List.length_append, List.length_replicate]
    exact l1)
  rw [b1] at b2
  exact Option.some.inj b2
theorem writ_form {us us' : List (Str × Int)} {d d' p p' : Nat} {m m' : Int} (g : GoodUs us) (g' : GoodUs us') (hd : d ≤ 3) (hd' : d' ≤ 3) (hp : p < us.length) (hp' : p' < us'.length) (hm : 0 ≤ m) (hm' : 0 ≤ m') (h1 : m < 10 ^ 40) (h2 : m' < 10 ^ 40) (e : writ us d p m = writ us' d' p' m') :
    m = m' ∧ ∀ k, writ us d p k = writ us' d' p' k := by
  have ea : ahead d p m = ahead d' p' m' := by rw [← writ_ahead g hp hm, ← writ_ahead g' hp' hm', e]
  have wc := writ_codes (us := us) (d := d) (p := p) (m := m)
  have wc' := writ_codes (us := us') (d := d') (p := p') (m := m')
  rw [e, ea, wc'] at wc
  have en : (us'.getD p' ("", 0)).1 = (us.getD p ("", 0)).1 := str_ext (List.append_cancel_left wc)
  have l1 := dg_small (m := m) (by omega)
  have l2 := dg_small (m := m') (by omega)
  have dz : ∀ {d : Nat} {m : Int}, 0 ≤ m → 46 ∉ zf d m := fun {d m} hm => no46 (zf_digits hm)
  by_cases c : p = 0 ∨ d = 0
  · by_cases c' : p' = 0 ∨ d' = 0
    · have ed : dg m = dg m' := by
        unfold ahead at ea
        rw [if_pos c, if_pos c'] at ea
        exact ea
      refine ⟨dg_inj (n := 0) (n' := 0) hm hm' (by omega) (by rw [List.replicate_zero, List.nil_append, List.nil_append]; exact ed), fun k => ?_⟩
      unfold writ
      rw [if_pos c, if_pos c', en]
    · exfalso
      unfold ahead at ea
      rw [if_pos c, if_neg c'] at ea
      have : 46 ∈ dg m := by
        rw [ea]
        unfold body
        exact List.mem_append_right _ List.mem_cons_self
      exact no46 (dg_digits hm) this
  · by_cases c' : p' = 0 ∨ d' = 0
    · exfalso
      unfold ahead at ea
      rw [if_neg c, if_pos c'] at ea
      have : 46 ∈ dg m' := by
        rw [← ea]
        unfold body
        exact List.mem_append_right _ List.mem_cons_self
      exact no46 (dg_digits hm') this
    · unfold ahead at ea
      rw [if_neg c, if_neg c'] at ea
      have eb := ea
      unfold body at eb
      obtain ⟨_, eY⟩ := split_at (fun w => dz hm (List.mem_of_mem_take w)) (fun w => dz hm' (List.mem_of_mem_take w)) eb
      have eL := congrArg List.length eY
      rw [List.length_drop, List.length_drop, zf_len, zf_len] at eL
      have hdd : d = d' := by omega
      have ef : zf d m = zf d' m' := by rw [← filter_body hm, ← filter_body hm', ea]
      refine ⟨?_, fun k => ?_⟩
      · unfold zf at ef
        exact dg_inj hm hm' (by omega) ef
      · unfold writ
        rw [if_neg c, if_neg c', en, hdd]
/-! the numbers that are tried -/
def chg (us : List (Str × Int)) (d : Nat) (s : Str) (c : Bool) (l n : Int) (k : Nat) : List Int := (List.range k).map fun (j : Nat) => firstR ((placedM us d s c l n).2 + (1 + (j : Int))) ((stepsOf us d).getD (placedM us d s c l n).1 0) s
def stars (us : List (Str × Int)) (d : Nat) (s : Str) (c : Bool) (l : Int) : List Int := (List.range us.length).map fun p => startM us d s c l p
theorem unit_in {us : List (Str × Int)} {d : Nat} {s : Str} {c : Bool} {l : Int} (g : Good us d s l) {n x : Int} (n0 : 0 ≤ n) (h1 : startM us d s c l (placedM us d s c l n).1 ≤ x) (h2 : x ≤ n) : (placedM us d s c l x).1 = (placedM us d s c l n).1 := by
  have hlt := (placedM_ok (c := c) g n0).1
  have hs := start_nn (c := c) g hlt
  have a := (place_ge (c := c) (n := x) g (by omega) hlt).mpr h1
  have b := place_mono (c := c) (n := x) (n' := n) g (by omega) h2
  omega
theorem chg_mem {us : List (Str × Int)} {d : Nat} {s : Str} {c : Bool} {l n : Int} {k j : Nat} (hj : j < k) {x : Int} (e : x = firstR ((placedM us d s c l n).2 + 1 + (j : Int)) ((stepsOf us d).getD (placedM us d s c l n).1 0) s) : x ∈ chg us d s c l n k := by
  refine List.mem_map.mpr ⟨j, List.mem_range.mpr hj, ?_⟩
  rw [e, Int.add_assoc]
/-- the first number that is shown differently is tried -/
theorem unlike_tried {us us' : List (Str × Int)} {d d' : Nat} {s s' : Str} {c c' : Bool} {l l' n : Int} (g : Good us d s l) (g' : Good us' d' s' l') (n0 : 0 ≤ n) (n1 : n < 10 ^ 39) (hne : shown us d s c l n ≠ shown us' d' s' c' l' n) (hmin : ∀ x, 0 ≤ x → x < n → shown us d s c l x = shown us' d' s' c' l' x) :
    ∃ a, (a ∈ stars us d s c l ∨ a ∈ stars us' d' s' c' l') ∧ (n = a ∨ n ∈ chg us d s c l a 3 ∨ n ∈ chg us' d' s' c' l' a 3) := by
  obtain ⟨k1, k2, k3⟩ := placedM_ok (c := c) g n0
  obtain ⟨j1, j2, j3⟩ := placedM_ok (c := c') g' n0
  have hA := (place_ge (c := c) g n0 k1).mp (Nat.le_refl _)
  have hB := (place_ge (c := c') g' n0 j1).mp (Nat.le_refl _)
  have sA0 := start_nn (c := c) g k1
  have sB0 := start_nn (c := c') g' j1
  have mA : startM us d s c l (placedM us d s c l n).1 ∈ stars us d s c l := List.mem_map.mpr ⟨_, List.mem_range.mpr k1, rfl⟩
  have mB : startM us' d' s' c' l' (placedM us' d' s' c' l' n).1 ∈ stars us' d' s' c' l' := List.mem_map.mpr ⟨_, List.mem_range.mpr j1, rfl⟩
  have uA := fun x (h1 : startM us d s c l (placedM us d s c l n).1 ≤ x) (h2 : x ≤ n) => unit_in (c := c) g n0 h1 h2
  have uB := fun x (h1 : startM us' d' s' c' l' (placedM us' d' s' c' l' n).1 ≤ x) (h2 : x ≤ n) => unit_in (c := c') g' n0 h1 h2
  have hpA := g.stp k1
  have hpB := g'.stp j1
  have sndA := fun x => placed_snd us d s c l x
  have sndB := fun x => placed_snd us' d' s' c' l' x
  obtain ⟨pA, epA⟩ : ∃ p, (placedM us d s c l n).1 = p := ⟨_, rfl⟩
  obtain ⟨pB, epB⟩ : ∃ p, (placedM us' d' s' c' l' n).1 = p := ⟨_, rfl⟩
  rw [epA] at hA sA0 mA uA hpA k1
  rw [epB] at hB sB0 mB uB hpB j1
  -- the later one of both starts
  obtain ⟨a, ha, ha1, ha2, han⟩ : ∃ a, (a ∈ stars us d s c l ∨ a ∈ stars us' d' s' c' l') ∧ startM us d s c l pA ≤ a ∧ startM us' d' s' c' l' pB ≤ a ∧ a ≤ n := by
    rcases Int.lt_or_le (startM us d s c l pA) (startM us' d' s' c' l' pB) with y | y
    · exact ⟨_, .inr mB, by omega, Int.le_refl _, hB⟩
    · exact ⟨_, .inl mA, Int.le_refl _, y, hA⟩
  refine ⟨a, ha, ?_⟩
  rcases Int.lt_or_le a n with y | y
  · right
    have a0 : 0 ≤ a := by omega
    -- marks in this stretch
    have wA : ∀ x, a ≤ x → x ≤ n → shown us d s c l x = writ us d pA (rnd x ((stepsOf us d).getD pA 0) s) := fun x h1 h2 => by
      unfold shown
      rw [sndA, uA x (by omega) h2]
    have wB : ∀ x, a ≤ x → x ≤ n → shown us' d' s' c' l' x = writ us' d' pB (rnd x ((stepsOf us' d').getD pB 0) s') := fun x h1 h2 => by
      unfold shown
      rw [sndB, uB x (by omega) h2]
    have bnd : ∀ {st : Int} {s : Str} (x : Int), 0 < st → 0 ≤ x → x ≤ n → 0 ≤ rnd x st s ∧ rnd x st s < 10 ^ 40 := fun {st s} x hst h1 h2 => by
      have := rnd_lo (s := s) h1 hst
      omega
    have form := fun x (h1 : a ≤ x) (h2 : x < n) => writ_form g.u g'.u g.d3 g'.d3 k1 j1 (bnd (s := s) x hpA.pos (by omega) (by omega)).1 (bnd (s := s') x hpB.pos (by omega) (by omega)).1 (bnd x hpA.pos (by omega) (by omega)).2 (bnd x hpB.pos (by omega) (by omega)).2 (by rw [← wA x h1 (by omega), ← wB x h1 (by omega)]; exact hmin x (by omega) h2)
    have same : ∀ x, a ≤ x → x < n → rnd x ((stepsOf us d).getD pA 0) s = rnd x ((stepsOf us' d').getD pB 0) s' := fun x h1 h2 => (form x h1 h2).1
    have fmt := (form a (Int.le_refl _) y).2
    have diff : rnd n ((stepsOf us d).getD pA 0) s ≠ rnd n ((stepsOf us' d').getD pB 0) s' := fun e => by
      refine hne ?_
      rw [wA n (by omega) (Int.le_refl _), wB n (by omega) (Int.le_refl _), e]
      exact fmt _
    have eP := same (n - 1) (by omega) (by omega)
    have incA := rnd_succ (n := n - 1) hpA.srt hpA.even hpA.pos (by omega)
    have incB := rnd_succ (n := n - 1) hpB.srt hpB.even hpB.pos (by omega)
    rw [Int.sub_add_cancel] at incA incB
    have eaA : (placedM us d s c l a).1 = pA := uA a ha1 han
    have eaB : (placedM us' d' s' c' l' a).1 = pB := uB a ha2 han
    rcases Int.lt_or_le (rnd (n - 1) ((stepsOf us d).getD pA 0) s) (rnd n ((stepsOf us d).getD pA 0) s) with w | w
    · left
      obtain ⟨j, hj, ej⟩ := change_near hpA hpB a0 y same w (by omega)
      exact chg_mem hj (by rw [sndA, eaA]; exact ej)
    · right
      obtain ⟨j, hj, ej⟩ := change_near hpB hpA a0 y (fun x h1 h2 => (same x h1 h2).symm) (by omega) w
      exact chg_mem hj (by rw [sndB, eaB]; exact ej)
  · exact .inl (by omega)
end My

/-! min(xs, default=d) of a list of ints -/
namespace MyM
open PySem PySem.W PyProof.Rows L2
section
variable {prog : Program} {w : World} {A : Around} {E : Value → Shared → Prop} {s : Shared} {l : Addr} {its : List Value} {ns : List Int} {d : Value} {Q : Value → Shared → Prop}
theorem min_intDefault {xs : Array (Int × Tok)} (hh : A.handled = none) (hl : s.heap.IsList l (intItems xs))
    (h0 : xs.size = 0 → ∀ h' tk, (∀ b o, s.heap.get? b = some o → h'.get? b = some o) → Q d { s with heap := h', toks := tk })
    (h : 0 < xs.size → ∀ v h' tk, (intItems xs)[argBest (fun i j => decide (numAt xs i < numAt xs j)) (xs.size - 1)]? = some v → (∀ b o, s.heap.get? b = some o → h'.get? b = some o) → Q v { s with heap := h', toks := tk }) :
    wpAny (model prog w) A (call (.builtin "min") [.ref l] [(Str.ofString "default", d)]) Q E s := by
  have hn : (intItems xs).size = xs.size := by simp [intItems]
  refine call_min_walkD (PySem.W.iter_listW (A := A.in1) hh hl fun s₂ e W st hfp hw hk => ?_)
  refine ⟨_, _, _, _, _, _, _, s.heap, (fun i j => decide (numAt xs i < numAt xs j)), rfl, W, st, hfp, hw, hk, fun hz s' m => ?_, fun hp => ⟨fun i j vi vj s Q E _ hi hj hq => CmpOf.ints_lt (numAt xs) (fun _ _ => intItems_at) i j vi vj s Q E hi hj hq, fun v s' hP m => ?_⟩⟩
  · obtain ⟨h', tk, rfl, hk'⟩ := PySem.W.moved_old e rfl m
    exact h0 (by omega) h' tk hk'
  · obtain ⟨h', tk, rfl, hk'⟩ := PySem.W.moved_old e rfl m
    rw [hn] at hP hp
    exact h hp v h' tk hP hk'
theorem min_rawD (hh : A.handled = none) (hl : s.heap.IsList l its.toArray) (hi : IntsAre its ns)
    (h0 : ns = [] → ∀ h' tk, (∀ b o, s.heap.get? b = some o → h'.get? b = some o) → Q d { s with heap := h', toks := tk })
    (h : ∀ h' tk M t', (∀ b o, s.heap.get? b = some o → h'.get? b = some o) → M ∈ ns → (∀ a, a ∈ ns → M ≤ a) → Q (.int M t') { s with heap := h', toks := tk }) : wpAny (model prog w) A (call (.builtin "min") [.ref l] [(Str.ofString "default", d)]) Q E s := by
  obtain ⟨xs, e⟩ := hi.allInts.items
  have hn : numsOf (intItems xs).toList = ns := by rw [← e]; exact hi.numsOf
  rw [nums_intItems] at hn
  subst hn
  rw [e] at hl
  refine min_intDefault hh hl (fun hz h' tk hk => h0 (by
    have : xs = #[] := Array.eq_empty_of_size_eq_zero hz
    subst this
    rfl) h' tk hk) fun hsz v h' tk hv hk => ?_
  obtain ⟨t, rfl⟩ := intItems_at hv
  obtain ⟨h1, h2⟩ := argBest_lt (numAt xs) (xs.size - 1)
  refine h h' tk _ t hk ?_ fun a ha => ?_
  · rw [numAt_eq]; exact PySem.getD_mem (by rw [List.length_map, Array.length_toList]; omega)
  · obtain ⟨j, hj, rfl⟩ := mem_getD ha
    rw [List.length_map, Array.length_toList] at hj
    rw [← numAt_eq]; exact h2 j (by omega)
end
def rMinD (K : PySem.W.Frag) : List V → List V → Hp → VK → Prop := fun vs zs H Q => ∃ (a : Addr) (ns : List Int) (dv : V), vs = [V.ref a] ∧ zs = [dv] ∧ SqL K H a (ns.map V.int) ∧ (ns = [] → Q dv H) ∧ ∀ m, m ∈ ns → (∀ y, y ∈ ns → m ≤ y) → Q (.int m) H
theorem cr_minD {X : Cx} (hc : X.calm = true) : CallRK X (.builtin "min") [Str.ofString "default"] (rMinD X.K) := by
  intro pins s σ H xs zs us ws Q I r rz h
  obtain ⟨a, ns, dv, rfl, rfl, hs, q0, q⟩ := h
  obtain ⟨its, rv, hl, _⟩ := I.list hs
  rw [Vals.ref1 r]
  cases rz with
  | cons rd t =>
    cases t
    exact min_rawD (I.ok.hd hc) hl.isList rv.ints (fun hn h' tk hk => ⟨dv, H, I.kept hk, rd, q0 hn⟩) fun h' tk m t' hk h1 h2 => ⟨.int _, H, I.kept hk, ⟨_, rfl⟩, q m h1 h2⟩
end MyM

namespace My
open PySem PySem.Spec PyProof.Rows L2
/-! ### starts, next changes -/
def spStarts (K : PySem.W.Frag) (C : Addr) : Sp := fun vs H Q _ => ∃ (a : Addr) (us : List (Str × Int)) (d : Nat) (s : Str) (c : Bool) (l : Int), vs = [.ref a] ∧ LadAt K C H a us d s c l ∧ Good us d s l ∧
  ∀ (p : Addr) (H' : Hp), Same H H' → H p = none → H' p = some (.lst ((stars us d s c l).map V.int)) → Q (.ref p) H'
def spNextC (K : PySem.W.Frag) (C : Addr) : Sp := fun vs H Q _ => ∃ (a : Addr) (us : List (Str × Int)) (d : Nat) (s : Str) (c : Bool) (l n : Int) (k : Nat), vs = [.ref a, .int n, .int (k : Int)] ∧ LadAt K C H a us d s c l ∧ Good us d s l ∧ 0 ≤ n ∧ k ≤ 100 ∧
  ∀ (p : Addr) (H' : Hp), Same H H' → H p = none → H' p = some (.lst ((chg us d s c l n k).map V.int)) → Q (.ref p) H'
theorem LadAt.butL {K : PySem.W.Frag} {C : Addr} {H H' : Hp} {N p : Addr} {xs : List V} {us : List (Str × Int)} {d : Nat} {s : Str} {c : Bool} {l : Int} (hN : H N = some (.lst xs)) (b : But N H H') (h : LadAt K C H p us d s c l) : LadAt K C H' p us d s c l := by
  obtain ⟨dx, ua, t, st, th, h1, h2, h3, h4, h5⟩ := h
  have npa : p ≠ N := ne_of h1 hN (by intro z; cases z)
  exact ⟨dx, ua, t, st, th, b _ _ h1 npa, UA.but hN rfl b h2, b.sqt hN rfl h3, b.sqt hN rfl h4, b.sqt hN rfl h5⟩
section
variable {P : Program} {w : World} {K : PySem.W.Frag} {mg : Str → Option Value} {base : Heap}
end
end My

namespace My
open PySem PySem.Spec PyProof.Rows L2
/-! ### first_unlike, are_alike -/
/-- what a ladder is made of -/
structure Lad where
  us : List (Str × Int)
  d : Nat
  s : Str
  c : Bool
  l : Int
abbrev Lad.At (A : Lad) (K : PySem.W.Frag) (C : Addr) (H : Hp) (p : Addr) : Prop := LadAt K C H p A.us A.d A.s A.c A.l
abbrev Lad.Ok (A : Lad) : Prop := Good A.us A.d A.s A.l
abbrev Lad.show (A : Lad) (n : Int) : Str := shown A.us A.d A.s A.c A.l n
abbrev Lad.stars (A : Lad) : List Int := My.stars A.us A.d A.s A.c A.l
abbrev Lad.chg (A : Lad) (n : Int) (k : Nat) : List Int := My.chg A.us A.d A.s A.c A.l n k
def possL (A B : Lad) (xs : List Int) : List Int := xs.flatMap fun x => x :: (A.chg x 3 ++ B.chg x 3)
def spPoss (K : PySem.W.Frag) (C : Addr) : Sp := fun vs H Q _ => ∃ (a b : Addr) (A B : Lad), vs = [.ref a, .ref b] ∧ A.At K C H a ∧ B.At K C H b ∧ A.Ok ∧ B.Ok ∧
  ∀ (p : Addr) (H' : Hp), Same H H' → H' p = some (.lst ((possL A B (A.stars ++ B.stars)).map V.int)) → Q (.ref p) H'
/-- the first number that is shown differently -/
def Unlike (A B : Lad) (r : Option Int) : Prop := match r with
  | none => ∀ x, 0 ≤ x → x < 10 ^ 38 → A.show x = B.show x
  | some n => 0 ≤ n ∧ n ≤ 100000000000000000000000 ∧ A.show n ≠ B.show n ∧ ∀ x, 0 ≤ x → x < n → A.show x = B.show x
def optV : Option Int → V
  | none => .non
  | some n => .int n
def spFirstU (K : PySem.W.Frag) (C : Addr) : Sp := fun vs H Q _ => ∃ (a b : Addr) (A B : Lad), vs = [.ref a, .ref b] ∧ A.At K C H a ∧ B.At K C H b ∧ A.Ok ∧ B.Ok ∧
  ∀ (r : Option Int) (H' : Hp), Same H H' → Unlike A B r → Q (optV r) H'
def spAlike (K : PySem.W.Frag) (C : Addr) : Sp := fun vs H Q _ => ∃ (a b : Addr) (A B : Lad), vs = [.ref a, .ref b] ∧ A.At K C H a ∧ B.At K C H b ∧ A.Ok ∧ B.Ok ∧
  ∀ (r : Option Int) (H' : Hp), Same H H' → Unlike A B r → Q (.bl r.isNone) H'
theorem stars_le {A : Lad} (g : A.Ok) {x : Int} (h : x ∈ A.stars) : 0 ≤ x ∧ x ≤ 1000000000000000000000 := by
  obtain ⟨p, hp, e⟩ := List.mem_map.mp h
  have hp' : p < A.us.length := List.mem_range.mp hp
  have h0 := start_nn (c := A.c) g hp'
  have h1 := start_le_thr (c := A.c) g hp'
  have h4 : (thrsOf A.us A.l).getD p 0 ≤ 1000 * 1000000000000000000 := by
    rcases Nat.eq_zero_or_pos p with z | z
    · subst z
      show (0 : Int) ≤ _
      decide
    · rw [thr_eq z hp']
      have b1 := last_sz_pos g.u hp'
      have b2 := g.l1
      have b3 := g.l2
      have : szOf A.us p * A.l ≤ 1000000000000000000 * 1000 := Int.mul_le_mul b1.2 b3 (by omega) (by decide)
      omega
  omega
theorem chg_le {A : Lad} (g : A.Ok) {n x : Int} {k : Nat} (n0 : 0 ≤ n) (hk : k ≤ 6) (h : x ∈ A.chg n k) : 0 ≤ x ∧ x ≤ n + 10000000000000000000 := by
  obtain ⟨j, hj, e⟩ := List.mem_map.mp h
  have hj' := List.mem_range.mp hj
  obtain ⟨k1, k2, k3⟩ := placedM_ok (c := A.c) g n0
  have hp := g.stp k1
  have hs := (steps_ok g k1).2.2
  have es := placed_snd A.us A.d A.s A.c A.l n
  have h1 := firstR_hi (m := (placedM A.us A.d A.s A.c A.l n).2 + (1 + (j : Int))) (s := A.s) hp.pos
  have h0 := firstR_nn (m := (placedM A.us A.d A.s A.c A.l n).2 + (1 + (j : Int))) (s := A.s) hp.pos (by omega)
  -- the mark of n stands for at most a step more than n
  have h2 := (rnd_ge (n := n) (m := (placedM A.us A.d A.s A.c A.l n).2) hp.srt hp.even hp.pos n0 k2).mp (by rw [← es]; exact Int.le_refl _)
  have h3 := firstR_lo (m := (placedM A.us A.d A.s A.c A.l n).2) (s := A.s) hp.pos
  generalize (stepsOf A.us A.d).getD (placedM A.us A.d A.s A.c A.l n).1 0 = st at *
  generalize (placedM A.us A.d A.s A.c A.l n).2 = m at *
  have e2 : (m + (1 + (j : Int))) * st = m * st + (1 + (j : Int)) * st := by rw [Int.add_mul]
  have h5 : (1 + (j : Int)) * st ≤ 6 * 1000000000000000000 := Int.mul_le_mul (by omega) hs (by have := hp.pos; omega) (by decide)
  rw [← e]
  omega
theorem poss_le {A B : Lad} (g : A.Ok) (g' : B.Ok) {x : Int} (h : x ∈ possL A B (A.stars ++ B.stars)) : 0 ≤ x ∧ x ≤ 100000000000000000000000 := by
  obtain ⟨y, hy, hx⟩ := List.mem_flatMap.mp h
  have by' : 0 ≤ y ∧ y ≤ 1000000000000000000000 := by
    rcases List.mem_append.mp hy with k | k
    · exact stars_le g k
    · exact stars_le g' k
  rcases List.mem_cons.mp hx with k | k
  · omega
  · rcases List.mem_append.mp k with k | k
    · have := chg_le g by'.1 (by omega) k
      omega
    · have := chg_le g' by'.1 (by omega) k
      omega
theorem least_exists {p : Int → Prop} {n : Int} (n0 : 0 ≤ n) (hn : p n) : ∃ m, 0 ≤ m ∧ m ≤ n ∧ p m ∧ ∀ x, 0 ≤ x → x < m → ¬ p x := by
  have key : ∀ k : Nat, ∀ n : Int, n = (k : Int) → p n → ∃ m, 0 ≤ m ∧ m ≤ n ∧ p m ∧ ∀ x, 0 ≤ x → x < m → ¬ p x := by
    intro k
    induction k using Nat.strongRecOn with
    | ind k ih =>
      intro n e hn
      by_cases h : ∃ x, 0 ≤ x ∧ x < n ∧ p x
      · obtain ⟨x, x0, x1, hx⟩ := h
        obtain ⟨m, m0, m1, hm, hl⟩ := ih x.toNat (by omega) x (by omega) hx
        exact ⟨m, m0, by omega, hm, hl⟩
      · exact ⟨n, by omega, Int.le_refl _, hn, fun x x0 x1 hx => h ⟨x, x0, x1, hx⟩⟩
  exact key n.toNat n (by omega) hn
/-- what is asked of the numbers that are tried -/
theorem unlike_all {A B : Lad} (g : A.Ok) (g' : B.Ok) (h : ∀ x ∈ possL A B (A.stars ++ B.stars), A.show x = B.show x) : Unlike A B none := by
  -- the marks have less than 40 digits up to here
  intro x x0 x1
  by_cases e : A.show x = B.show x
  · exact e
  · exfalso
    obtain ⟨m, m0, m1, hm, hl⟩ := least_exists (p := fun x => A.show x ≠ B.show x) x0 e
    obtain ⟨a, ha, hc⟩ := unlike_tried (c := A.c) (c' := B.c) g g' m0 (by omega) hm (fun x x0 x1 => Classical.not_not.mp (hl x x0 x1))
    refine hm (h m (List.mem_flatMap.mpr ⟨a, List.mem_append.mpr ha, ?_⟩))
    rcases hc with k | k | k
    · rw [k]
      exact List.mem_cons_self
    · exact List.mem_cons_of_mem _ (List.mem_append_left _ k)
    · exact List.mem_cons_of_mem _ (List.mem_append_right _ k)
theorem unlike_some {A B : Lad} (g : A.Ok) (g' : B.Ok) {n : Int} (hn : n ∈ possL A B (A.stars ++ B.stars)) (hne : A.show n ≠ B.show n) (hl : ∀ x ∈ possL A B (A.stars ++ B.stars), A.show x ≠ B.show x → n ≤ x) : Unlike A B (some n) := by
  have hb := poss_le g g' hn
  refine ⟨hb.1, hb.2, hne, fun x x0 x1 => ?_⟩
  by_cases e : A.show x = B.show x
  · exact e
  · exfalso
    obtain ⟨m, m0, m1, hm, hl2⟩ := least_exists (p := fun x => A.show x ≠ B.show x) x0 e
    obtain ⟨a, ha, hc⟩ := unlike_tried (c := A.c) (c' := B.c) g g' m0 (by omega) hm (fun x x0 x1 => Classical.not_not.mp (hl2 x x0 x1))
    have hmm : m ∈ possL A B (A.stars ++ B.stars) := by
      refine List.mem_flatMap.mpr ⟨a, List.mem_append.mpr ha, ?_⟩
      rcases hc with k | k | k
      · rw [k]
        exact List.mem_cons_self
      · exact List.mem_cons_of_mem _ (List.mem_append_left _ k)
      · exact List.mem_cons_of_mem _ (List.mem_append_right _ k)
    have := hl m hmm hm
    omega
end My

namespace My
open PySem PySem.Spec PyProof.Rows L2
/-! ### defs that are called while nothing is being displayed -/
/-- what a def keeps to, where no display of anything is under way -/
structure FnG (P : Program) (w : World) (K : PySem.W.Frag) (mg : Str → Option Value) (base : Heap) (k : Nat) (f : Addr) (fd : FuncData) (ps : List Str) (sp : Sp) : Prop where
  len : ∀ xs M Q E, sp xs M Q E → xs.length = ps.length
  run : ∀ (A : Around) (up : List Env) (t : Shared) (M : Hp) (given : Args) (us : List Value) (xs : List V) (Q : VK) (E : XK),
    A.guards = some [] → Room k A → Env0 P w K mg base A up t M → BindsTo t fd given (ps.zip us) → Vals xs us → sp xs M Q E → codeAny (model P w) A (.call (.ref f) given) (CR CX0 up P w M t Q E) t
section
variable {P : Program} {w : World} {K : PySem.W.Frag} {mg : Str → Option Value} {base : Heap}
theorem FnG.of {k : Nat} {f : Addr} {fd : FuncData} {ps : List Str} {sp : Sp} (F : FnOk P w K mg base CX0 k f fd ps sp) : FnG P w K mg base k f fd ps sp :=
  ⟨F.len, fun A up t M given us xs Q E _ => F.run A up t M given us xs Q E⟩
theorem Fun_okG {x qual : Str} {st : Stmt} {f : Addr} {fd : FuncData} {N ps : List Str} {k : Nat} {sp : Sp} (F : Fun K x qual st f fd) (S : FnScope N ps (defScope st)) (len : ∀ xs M Q E, sp xs M Q E → xs.length = ps.length)
    (body : ∀ (cdv : Value) (A : Around) (up : List Env) (s : Shared) (M : Hp) (xs : List V) (Q : VK) (E : XK), A.guards = some [] → Room k (A.deeper (envOfC qual (defScope st) s.heap.objs.size f cdv)) → sp xs M Q E →
      ∃ t, PSs (cxOf CX0 P w K mg base N qual (defScope st) f cdv A up s M E).nox (defBody st) t ∧ t { nx := fun _ M' => Q .non M', rt := Q } (start N xs) M) : FnG P w K mg base (k + 1) f fd ps sp := by
  obtain ⟨oc, od, kV, doc, pm, an, cdv, ct, osl, rfl, look, hc⟩ := F.ex
  refine ⟨len, fun A up s M given us xs Q E gd room en bd rel want => ?_⟩
  have inK : K.In s.heap := en.mod.kin.keeps fun b o e => (en.bs b o e).1
  have free := en.mod.nolimit.keeps (h' := s.heap) fun b o e => (en.bs b o e).1
  have many := len _ _ _ _ want
  have kinds : ∀ y ∈ ps.zip us, (defScope st).names.lookup y.1 = some .local ∨ ((defScope st).names.lookup y.1 = some .cell ∧ ((cellsFrom (s.heap.objs.size + 1) (defScope st).names []).lookup y.1).isSome = true) := by
    rintro ⟨n, v⟩ hy
    rcases S.par n (List.of_mem_zip hy).1 with z | z
    · exact .inl z
    · exact .inr ⟨z, PySem.W.cellsFrom_some _ _ _ (.inl z)⟩
  refine codeAny_call_function room.depth (inK _ _ look) rfl S.co S.gen rfl (PySem.W.codeRec_of inK hc) (bd _ _ _ _ ?_)
  refine wpAny_newFunctionEnv_cells S.kind kinds fun env same s1 made => ?_
  subst same
  refine ⟨free.keeps made.toInCall.keep, codeAny_func ?_⟩
  obtain ⟨t, h0, q⟩ := body cdv A up s M xs Q E gd (room.deeper _) want
  have h1 := h0.nox
  have J := inv_start (CX := CX0) (E := E) S room.hd en many rel made
  refine wpAny_mono (h1.run [] s1 (start N xs) M _ J q) (fun fl s' z => ?_) fun e s' z => z
  cases fl with
  | ret u =>
    obtain ⟨v, σ', M', I, rv, hq⟩ := z
    exact ⟨v, M', I.os, I.bare, I.base, I.hok, rv, hq⟩
  | next =>
    obtain ⟨σ', M', I, hq⟩ := z
    exact ⟨V.non, M', I.os, I.bare, I.base, I.hok, rfl, hq⟩
  | brk => exact z.elim fun _ z => z.elim fun _ z => z.2.elim
  | cont => exact z.elim fun _ z => z.elim fun _ z => z.2.elim
end
section
variable {X : Cx} {k : Nat} {f : Addr} {fd : FuncData} {ps : List Str} {sp : Sp} {E : XK}
/-- f(e, ..) of such a def -/
theorem pe_callG {x : Str} {e : Expr} {es : List Expr} {t : TA} {p pos : Pos} (F : FnG X.prog X.w X.K X.mg X.base k f fd ps sp) (gd : X.A.guards = some []) (hr : Room k X.A) (hg : Gl X x) (hm : X.mg x = some (.ref f)) (hk : PySem.W.keepIn X.K (.ref f) = true) (hb : Binds X.K fd ps [])
    (hx : Passes CX0 X E) (ha : PA X (e :: es) t) (hdb : (x == ("__debug__" : Str)) = false := by decide) (he : starEach (e :: es) X.env = (false, eval e X.env) :: starEach es X.env := by rfl) (hpl : (backTo pos (starEach es X.env)).any (·.1) = false := by rfl) :
    PE X (.Call (.Name x p) (e :: es) [] pos) (tCall sp [] E t) := by
  refine ⟨fun pins s σ M Q I h => wpAny_Call_Name_kw (ld_glob I hg hm ?_ hdb)⟩
  refine PySem.W.callWith_K (h₀ := X.base) I.ok.mod.kin hk (thn (ha.run pos pins s σ M _ I h) fun us s1 ⟨xs, M1, J, r, q⟩ => ⟨J.kIn, ?_⟩) he hpl
  have q : sp (xs ++ []) M1 Q E := q
  rw [List.append_nil] at q
  have hl : us.length = ps.length := by rw [← r.length]; exact F.len _ _ _ _ q
  have bd : BindsTo s1 fd ⟨us, []⟩ (ps.zip us) := by
    have z := hb s1 us J.kIn (by rw [List.append_nil]; exact hl)
    rw [List.append_nil] at z
    exact z
  refine wpAny_call (codeAny_mono (F.run X.A X.stack s1 M1 ⟨us, []⟩ us xs Q E gd hr J.env0 bd r q) fun res s' z => ?_)
  cases res with
  | error v => exact hx pins σ M1 s1 v s' J z
  | ok fl =>
    cases fl with
    | ret u => exact J.after z
    | next => exact z.elim
    | brk => exact z.elim
    | cont => exact z.elim
/-- repr of data -/
theorem call_reprD (gd : X.A.guards = some []) (hu : X.A.units + 66 < cLine) : CallR X (.builtin "repr") (fun xs M Q => ∃ (a : Addr) (d : PyData), xs = [.ref a] ∧ Dp X.K M (.ref a) d ∧ d.showable = true ∧ d.hasDict = false ∧ d.depth ≤ 64 ∧ d.shown.length ≤ sizeLine ∧ Q (.str d.shown) M) := by
  intro pins s σ M xs us Q I r h
  obtain ⟨a, d, rfl, hd, h1, h2, h3, h4, q⟩ := h
  obtain ⟨u, rfl, hu1⟩ := vals1 r
  cases hu1
  obtain ⟨as, rd⟩ := Dp.reads I d (.ref a) (.ref a) hd rfl
  refine repr_of_reads' rd h1 (PyData.noDict_hsm h2) gd (by omega) (fun _ _ e => e) (fun h' u tk hk => ?_) h4
  exact ⟨.str d.shown, M, I.kept hk, ⟨u, rfl⟩, q⟩
end
/-! ### the law's own promise, at the heap behind the top -/
theorem ints_vals : ∀ {vs : List Value} {ns : List Int}, IntsAre vs ns → Vals (ns.map V.int) vs
  | _, _, .nil => .nil
  | _, _, .cons _ tok more => .cons ⟨tok, rfl⟩ (ints_vals more)
/-- the law's def is called with the script -/
theorem head_G {P : Program} {w : World} {K : PySem.W.Frag} {mg mb : Str → Option Value} {k : Nat} {fa a : Addr} {fd : FuncData} {x : Str} {sp : Sp} {s1 : Shared} {vs : List Value} {ns : List Int}
    (inK : K.In s1.heap) (top : s1.heap.Ns mainGlobals mg) (blt : s1.heap.Ns builtinsNs mb) (boot : ∀ y : Str, y ≠ "__name__" → mb y = bootBuiltins y) (free : s1.heap.NoLimit) (quiet : s1.gens = #[])
    (obj : s1.heap.get? a = some { cls := .type "list", data := .seq vs.toArray }) (isI : IntsAre vs ns) (size : ns.length ≤ sizeLine) (room : Room k callerA)
    (F : ∀ base : Heap, K.In base → base.Ns mainGlobals mg → FnG P w K mg base k fa fd [x] sp) (bind : ∀ (s : Shared) (u : Value), BindsTo s fd ⟨[u], []⟩ [(x, u)])
    (want : ∀ M : Hp, Only M → SqL K M a (ns.map V.int) → sp [.ref a] M (fun v _ => v = .bl true) fun _ _ _ => False) (none_raised : ∀ M e s', CX0 [] M s1 (fun _ _ _ => False) e s' → False) :
    codeAny (model P w) callerA (.call (.ref fa) ⟨[.ref a], []⟩) (fun r s' => r = .ok (.ret (.bool true)) ∧ OldK s1.heap s'.heap ∧ s'.os = s1.os ∧ AllBare s'.gens) s1 := by
  have rel := ints_vals isI
  have go : ∀ M : Hp, Only M → SqL K M a (ns.map V.int) → HOk P w M s1.heap → (∀ b, M b ≠ none → b = a ∧ K.lookup a = none) →
      codeAny (model P w) callerA (.call (.ref fa) ⟨[.ref a], []⟩) (fun r s' => r = .ok (.ret (.bool true)) ∧ OldK s1.heap s'.heap ∧ s'.os = s1.os ∧ AllBare s'.gens) s1 := by
    intro M only seq ok just
    have is_a : ∀ {b : Addr} {o : Obj}, s1.heap.get? b = some o → (o = { cls := .type "list", data := .seq vs.toArray } → K.lookup a = none → False) → M b = none := fun {b o} e no => by
      rcases hb : M b with _ | y
      · rfl
      · obtain ⟨rfl, z⟩ := just b (by rw [hb]; exact fun z => nomatch z)
        rw [obj] at e
        exact (no (Option.some.inj e).symm z).elim
    have spaces : ∀ {b : Addr} {m : Str → Option Value}, s1.heap.Ns b m → (hidT s1.heap M).Ns b m := by
      rintro b m ⟨o, es, n, e, d, rest⟩
      refine ⟨o, es, n, hidT_get e (is_a e fun eo _ => ?_), d, rest⟩
      rw [eo] at d
      cases d
    have inB : K.In (hidT s1.heap M) := fun b o e => hidT_get (inK b o e) (by
      rcases hb : M b with _ | y
      · rfl
      · obtain ⟨rfl, z⟩ := just b (by rw [hb]; exact fun z => nomatch z)
        rw [z] at e
        cases e)
    have lim : ∃ mc, (hidT s1.heap M).Ns _ mc ∧ _ := free.elim fun mc z => ⟨mc, spaces z.1, z.2⟩
    have en : Env0 P w K mg (hidT s1.heap M) callerA [] s1 M :=
      ⟨rfl, ⟨inB, spaces top, ⟨mb, spaces blt, boot⟩, lim⟩, fun _ _ e => of_hidT e, Nat.le_of_eq (hidT_size _ _), trivial, fun b z => absurd (show b ∈ ([] : List Addr) from z) List.not_mem_nil, ok, .of_eq quiet⟩
    have ran := (F _ inB (spaces top)).run callerA [] s1 M ⟨[.ref a], []⟩ [.ref a] [.ref a] _ _ rfl room en (bind s1 (.ref a)) (.cons rfl .nil) (want M only seq)
    refine codeAny_mono ran fun r s' z => ?_
    rcases r with e | fl
    · exact (none_raised M e s' z).elim
    · rcases fl with _ | _ | _ | u
      · exact z.elim
      · exact z.elim
      · exact z.elim
      · obtain ⟨v, M', os, bare, un, ok', rv, hv⟩ := z
        have hv : v = .bl true := hv
        subst hv
        have hu : u = Value.bool true := rv
        subst hu
        refine ⟨rfl, OldK.of_keep fun b o e => ?_, os, bare⟩
        rcases hb : M b with _ | y
        · exact un.keep b o e hb (fun z => absurd (show b ∈ ([] : List Addr) from z) List.not_mem_nil) List.not_mem_nil
        · rcases only b with z | ⟨ob, xs, z⟩
          · rw [hb] at z
            cases z
          · have still := (ok' b _ (un.frzs b _ _ z)).1
            have old := (ok b _ z).1
            rw [e] at old
            cases old
            exact still
  rcases known : K.lookup a with _ | o
  · let M : Hp := fun b => if b = a then some (.frz { cls := .type "list", data := .seq vs.toArray } (.lst (ns.map V.int))) else none
    have at_a : M a = some (.frz { cls := .type "list", data := .seq vs.toArray } (.lst (ns.map V.int))) := if_pos rfl
    have off : ∀ b, b ≠ a → M b = none := fun b h => if_neg h
    refine go M (fun b => ?_) (.inl (.inr ⟨_, at_a⟩)) (fun b u z => ?_) (fun b z => ⟨?_, known⟩)
    · by_cases h : b = a
      · exact .inr ⟨_, _, by rw [h]; exact at_a⟩
      · exact .inl (off b h)
    · by_cases h : b = a
      · subst h
        have z' := at_a.symm.trans z
        cases z'
        exact ⟨obj, by rw [List.length_map]; exact size, vs, _, rel, obj⟩
      · rw [off b h] at z
        cases z
    · exact Classical.byContradiction fun h => z (off b h)
  · have e := inK a o known
    rw [obj] at e
    cases e
    exact go (fun _ => none) (fun _ => .inl rfl) (.inr ⟨_, vs.toArray, _, known, rfl, rfl, rfl, by rw [List.size_toArray, isI.length]; exact size, by simpa using rel⟩) (fun _ _ z => nomatch (show (none : Option HO) = some _ from z)) fun b z => absurd rfl z
theorem walk_G {l : PySem.W.OpenLaw} {n k : Nat} {q : Program} {loose : List Str} {XP : (Str → Option Value) → Heap → Prop} {YP : World → Heap → Prop} {d : DefRec} {K : Params → PySem.W.Frag} {sp : World → Sp} {x : Str}
    (most : l.most = some n) (most2 : n ≤ sizeLine) (plain : d.params.defaults = []) (room : Room k callerA) (part : ∀ (w : World) (h : Heap), YP w h → (K w.params).In h)
    (F : ∀ (w : World) (mg : Str → Option Value) (fa : Addr) (h : Heap), (K w.params).In h → h.Ns mainGlobals mg → mg d.name = some (.ref fa) → ∃ fd : FuncData,
      (∀ (s : Shared) (u : Value), BindsTo s fd ⟨[u], []⟩ [(x, u)]) ∧ ∀ base : Heap, (K w.params).In base → base.Ns mainGlobals mg → FnG l.prog w (K w.params) mg base k fa fd [x] (sp w))
    (want : ∀ (w : World) (M : Hp) (a : Addr) (ns : List Int), ns.length ≤ n → Only M → SqL (K w.params) M a (ns.map V.int) → sp w [.ref a] M (fun v _ => v = .bl true) fun _ _ _ => False) :
    PySem.W.WalkO q loose XP YP l.row.toRowW d [] (fun f vs => PySem.call f vs) := by
  refine Att.attach_call most plain fun w s₀ s₁ mg mb fa o pm cd doc a vs ns G Y ho hd hcd hmg hobj hints hlen hg => ?_
  have inK := part w _ Y
  obtain ⟨fd, bind, run⟩ := F w mg fa _ inK G.T.g hmg
  exact head_G inK G.T.g G.T.b G.T.builtins G.T.nolimit hg hobj hints (Nat.le_trans hlen most2) room run bind (fun M only seq => want w M a ns hlen only seq) fun _ _ _ z => z
end My

namespace My
open PySem PySem.Spec PyProof.Rows L2
section
variable {P : Program} {w : World} {K : PySem.W.Frag} {mg : Str → Option Value} {base : Heap}
theorem ok_lawG {kR : Nat} {f fS fR : Addr} {fd fdS fdR : FuncData} (F : Fun K "law" "law" sLaw f fd) (FS : Fun K "_law_spring" "_law_spring" sSpring fS fdS) (bS : Binds K fdS ["_law_script", "_law_k"] []) (gS : mg "_law_spring" = some (.ref fS))
    (kpR : PySem.W.keepIn K (.ref fR) = true) (GR : FnG P w K mg base (kR + 2) fR fdR ["_law_spring_here"] spRight) (bR : Binds K fdR ["_law_spring_here"] []) (gR : mg "_law_right" = some (.ref fR)) (B : Bt mg) :
    FnG P w K mg base (kR + 3) f fd ["_law_script"] (spLaw K) := by
  have GS : FnOk P w K mg base CX0 2 fS fdS ["_law_script", "_law_k"] (spSpring K) := ok_spring FS B
  refine Fun_okG F scLaw (fun vs H Q E h => ?_) (fun cdv A outer s H vs Q E gd hr h => ?_)
  · obtain ⟨a, xs, rfl, _⟩ := h
    rfl
  · obtain ⟨a, ns, rfl, hs, hlen, q⟩ := h
    have hr1 : Room 2 _ := hr.mono (by omega)
    refine ⟨_, pss_one (ps_ret (pe_callB (cr_all rfl) (by rfl) B.all (by decide +kernel) (pa_cons
      (pe_lc (own := [("_law_k", 1)]) (g := gName 1) (tt := tYes) rfl scLaw.nd
        (pi_range1 (by rfl) B.range (pa_cons (pe_callB (call_max2 rfl) (by rfl) B.max (by decide +kernel) (pa_cons pe_int (pa_cons (pe_callB (call_min2 rfl) (by rfl) B.min (by decide +kernel) (pa_cons (pe_callB call_len_seq (by rfl) B.len PySem.boot_len (pa_cons (pv 0) pa_nil)) (pa_cons pe_int pa_nil))) pa_nil))) pa_nil))
        (blkOk_by (own := [("_law_k", 1)]) (N := ["_law_script", "_law_k"]) (sc := defScope sLaw) (by decide +kernel)) (fun _ _ _ _ _ => pg_name (i := 1) scLaw.nd rfl (Or.inl rfl)) (fun _ _ _ _ _ => pts_nil)
        (fun _ _ _ _ _ => pe_callG GR gd hr (by rfl) gR kpR bR pass0 (pa_cons (pe_call GS hr1 (by rfl) gS FS.kp bS .nil pass0 (pa_cons (pv 0) (pa_cons (pv 1) pa_nil))) pa_nil)))
      pa_nil))), ?_⟩
    refine ⟨.ref a, rfl, a, _, rfl, .inl hs, _, 5, rfl, 2, _, rfl, _, rfl, ?_, ?_, ?_⟩
    · split <;> (try split) <;> rw [List.length_map] at * <;> omega
    · split <;> (try split) <;> rw [List.length_map] at * <;> omega
    · intro D nD
      refine lc_range (n := _) (fun i H2 => Same H H2 ∧ H2 D = some (.lst (List.replicate i (V.bl true)))) ⟨same_upd nD, upd_same⟩ ?_ ?_
      · rintro i H2 hi ⟨sm, hD⟩
        refine ⟨rfl, .ref a, rfl, .int (0 + (i : Int)), rfl, a, _, ns, rfl, sm.seq hs, by omega, hlen, fun p H3 sm3 np hp => ?_⟩
        have nDp : D ≠ p := ne_of_none hD np
        refine ⟨p, rfl, hp, fun H4 b4 => ?_⟩
        have hD4 : H4 D = some (.lst (List.replicate i (V.bl true))) := b4 _ _ (sm3 _ _ hD) nDp
        refine ⟨_, hD4, ?_, fun b o e => ?_, ?_⟩
        · rw [List.length_replicate]
          have hi2 : i < 6 := by
            revert hi
            split <;> (try split) <;> omega
          exact Nat.lt_of_lt_of_le hi2 (by decide)
        · have nbD : b ≠ D := ne_of_none e nD
          rw [upd_ne nbD]
          exact b4 _ _ (sm3 _ _ (sm _ _ e)) (ne_of_none (sm _ _ e) np)
        · rw [upd_same, List.replicate_succ']
      · rintro H2 ⟨sm, hD⟩
        obtain ⟨n, hD⟩ : ∃ n, H2 D = some (.lst (List.replicate n (V.bl true))) := ⟨_, hD⟩
        refine ⟨D, List.replicate n true, rfl, ?_, ?_⟩
        · rw [List.map_replicate]
          exact SqL.of hD
        · have e : (List.replicate n true).all id = true := by simp
          rw [e]
          exact q _
end
/-! ### how long the text of data is -/
mutual
def lenB : PyData → Nat
  | .none => 4
  | .bool _ => 5
  | .int _ => 41
  | .str x => 10 * x.length + 2
  | .list xs => lenBs xs + 3
  | .tuple xs => lenBs xs + 5
  | .dict _ => 0
def lenBs : List PyData → Nat
  | [] => 0
  | x :: r => lenB x + 2 + lenBs r
end
mutual
def plainD : PyData → Bool
  | .none => true
  | .bool _ => true
  | .int i => decide (i.natAbs < 10 ^ 40)
  | .str x => x.cps.toList.all fun c => decide (c < 0x110000)
  | .list xs => plainDs xs
  | .tuple xs => plainDs xs
  | .dict _ => false
def plainDs : List PyData → Bool
  | [] => true
  | x :: r => plainD x && plainDs r
end
mutual
theorem shown_le : ∀ d : PyData, plainD d = true → d.shown.length ≤ lenB d
  | .none, _ => by simp only [PyData.shown, lenB]; decide
  | .bool true, _ => by simp only [PyData.shown, lenB]; decide
  | .bool false, _ => by simp only [PyData.shown, lenB]; decide
  | .int i, h => by
    simp only [plainD] at h
    simp only [PyData.shown, lenB]
    have := int_text_length_le10 (a := i) (k := 40) (by decide) (of_decide_eq_true h)
    rw [PySem.ofString_length]
    exact this
  | .str x, h => by
    simp only [plainD, List.all_eq_true] at h
    simp only [PyData.shown, lenB]
    exact PySem.StrLaws.reprText_len x fun c hc => Nat.lt_of_lt_of_le (of_decide_eq_true (h c hc)) (by decide)
  | .list xs, h => by
    simp only [plainD] at h
    simp only [PyData.shown, lenB]
    have h1 := listText_len_le (PyData.shownAll xs)
    have h2 := showns_le xs h
    omega
  | .tuple xs, h => by
    simp only [plainD] at h
    simp only [PyData.shown, lenB]
    have h1 := tupleText_len_le (PyData.shownAll xs)
    have h2 := showns_le xs h
    omega
  | .dict _, h => by simp [plainD] at h
theorem showns_le : ∀ xs : List PyData, plainDs xs = true → ((PyData.shownAll xs).map (·.length)).sum + 2 * (PyData.shownAll xs).length ≤ lenBs xs
  | [], _ => by simp [PyData.shownAll, lenBs]
  | x :: r, h => by
    simp only [plainDs, Bool.and_eq_true] at h
    have h1 := shown_le x h.1
    have h2 := showns_le r h.2
    simp only [PyData.shownAll, lenBs, List.map_cons, List.sum_cons, List.length_cons]
    omega
end
mutual
theorem plain_show : ∀ d : PyData, plainD d = true → d.showable = true
  | .none, _ => by simp [PyData.showable]
  | .bool _, _ => by simp [PyData.showable]
  | .int i, h => by
    simp only [plainD] at h
    have h1 := of_decide_eq_true h
    simp only [PyData.showable]
    refine decide_eq_true ?_
    by_cases h0 : i.natAbs = 0
    · rw [h0]
      decide
    · exact (Nat.log2_lt h0).mpr (Nat.lt_trans h1 (by decide))
  | .str _, _ => by simp [PyData.showable]
  | .list xs, h => by
    simp only [plainD] at h
    simp only [PyData.showable]
    exact plain_shows xs h
  | .tuple xs, h => by
    simp only [plainD] at h
    simp only [PyData.showable]
    exact plain_shows xs h
  | .dict _, h => by simp [plainD] at h
theorem plain_shows : ∀ xs : List PyData, plainDs xs = true → PyData.showableAll xs = true
  | [], _ => by simp [PyData.showableAll]
  | x :: r, h => by
    simp only [plainDs, Bool.and_eq_true] at h
    simp only [PyData.showableAll, Bool.and_eq_true]
    exact ⟨plain_show x h.1, plain_shows r h.2⟩
end
mutual
theorem plain_flat : ∀ d : PyData, plainD d = true → d.hasDict = false
  | .none, _ => by simp [PyData.hasDict]
  | .bool _, _ => by simp [PyData.hasDict]
  | .int _, _ => by simp [PyData.hasDict]
  | .str _, _ => by simp [PyData.hasDict]
  | .list xs, h => by
    simp only [plainD] at h
    simp only [PyData.hasDict]
    exact plain_flats xs h
  | .tuple xs, h => by
    simp only [plainD] at h
    simp only [PyData.hasDict]
    exact plain_flats xs h
  | .dict _, h => by simp [plainD] at h
theorem plain_flats : ∀ xs : List PyData, plainDs xs = true → PyData.hasDictAll xs = false
  | [], _ => by simp [PyData.hasDictAll]
  | x :: r, h => by
    simp only [plainDs, Bool.and_eq_true] at h
    simp only [PyData.hasDictAll, plain_flat x h.1, plain_flats r h.2, Bool.or_self]
end
/-- repr of data, made plain -/
theorem call_reprP {X : Cx} (gd : X.A.guards = some []) (hu : X.A.units + 66 < cLine) : CallR X (.builtin "repr") (fun xs M Q => ∃ (a : Addr) (d : PyData), xs = [.ref a] ∧ Dp X.K M (.ref a) d ∧ plainD d = true ∧ d.depth ≤ 64 ∧ lenB d ≤ sizeLine ∧ Q (.str d.shown) M) := by
  intro pins s σ M xs us Q I r h
  obtain ⟨a, d, e, hd, h1, h2, h3, q⟩ := h
  exact call_reprD gd hu pins s σ M xs us Q I r ⟨a, d, e, hd, plain_show d h1, plain_flat d h1, h2, Nat.le_trans (shown_le d h1) h3, q⟩
/-- repr of a value that is plain data -/
theorem call_reprA {X : Cx} (gd : X.A.guards = some []) (hu : X.A.units + 66 < cLine) : CallR X (.builtin "repr") (fun xs M Q => ∃ (v : V) (d : PyData), xs = [v] ∧ Dp X.K M v d ∧ plainD d = true ∧ d.depth ≤ 64 ∧ lenB d ≤ sizeLine ∧ Q (.str d.shown) M) := by
  intro pins s σ M xs us Q I r h
  obtain ⟨v, d, rfl, hd, h1, h2, h3, q⟩ := h
  have hl := Nat.le_trans (shown_le d h1) h3
  have hs := plain_show d h1
  cases hd with
  | non =>
    obtain ⟨u, rfl, hu⟩ := vals1 r
    cases hu
    have e : PyData.none.shown = "None" := by simp only [PyData.shown]
    rw [e] at q
    exact PySem.P.repr_of_none ⟨.str _, M, I.tok _, ⟨_, rfl⟩, q⟩
  | bl b =>
    obtain ⟨u, rfl, hu⟩ := vals1 r
    cases hu
    have e : (PyData.bool b).shown = (if b = true then Str.ofString "True" else Str.ofString "False") := by cases b <;> simp only [PyData.shown] <;> rfl
    rw [e] at q
    exact PySem.P.repr_of_bool ⟨.str _, M, I.tok _, ⟨_, rfl⟩, q⟩
  | int i =>
    obtain ⟨u, rfl, tk, rfl⟩ := vals1 r
    have e : (PyData.int i).shown = Str.ofString (toString i) := by simp only [PyData.shown]
    rw [e] at q
    simp only [PyData.showable] at hs
    exact PySem.P.repr_of_int (of_decide_eq_true hs) ⟨.str _, M, I.tok _, ⟨_, rfl⟩, q⟩
  | str x =>
    obtain ⟨u, rfl, tk, rfl⟩ := vals1 r
    have e : (PyData.str x).shown = reprText x := by simp only [PyData.shown]
    rw [e] at q hl
    exact PySem.P.repr_of_str ⟨.str _, M, I.tok _, ⟨_, rfl⟩, q⟩ hl
  | lst a b => exact call_reprP gd hu pins s σ M _ us Q I r ⟨_, _, rfl, .lst a b, h1, h2, h3, q⟩
  | tup a b => exact call_reprP gd hu pins s σ M _ us Q I r ⟨_, _, rfl, .tup a b, h1, h2, h3, q⟩
end My

namespace My
open PySem PySem.Spec PyProof.Rows L2
theorem iteE {c : Bool} {P Q : Prop} (h : c = false) (q : Q) : if c = true then P else Q := by
  subst h
  exact iteF q
theorem ne_same {x y : Int} (h : x = y) : (!decide (V.int x = V.int y)) = false := by
  rw [h, decide_eq_true rfl]
  rfl
theorem LadAt.but {K : PySem.W.Frag} {C : Addr} {H H' : Hp} {a p : Addr} {us : List (Str × Int)} {d : Nat} {s : Str} {c : Bool} {l : Int} (hp : Spr H a) (k : But a H H') (h : LadAt K C H p us d s c l) : LadAt K C H' p us d s c l := by
  obtain ⟨dx, ua, t, st, th, h1, h2, h3, h4, h5⟩ := h
  have npa : p ≠ a := by
    obtain ⟨x, y, z, e⟩ := hp
    exact ne_of h1 e (by intro z; cases z)
  exact ⟨dx, ua, t, st, th, k _ _ h1 npa, UA.butS hp k h2, k.sqtS hp h3, k.sqtS hp h4, k.sqtS hp h5⟩
theorem ToldAt.updL {K : PySem.W.Frag} {H : Hp} {D r : Addr} {xs ys : List V} {us : List (Str × Int)} {d : Nat} {s : Str} {c : Bool} {l : Int} (hD : H D = some (.lst xs)) (h : ToldAt K H r us d s c l) : ToldAt K (upd H D (.lst ys)) r us d s c l := by
  obtain ⟨ua, h1, h2⟩ := h
  exact ⟨ua, (But.upd D _ _).sqt hD rfl h1, UA.but hD rfl (But.upd D _ _) h2⟩
theorem LadAt.updL {K : PySem.W.Frag} {C : Addr} {H : Hp} {D p : Addr} {xs ys : List V} {us : List (Str × Int)} {d : Nat} {s : Str} {c : Bool} {l : Int} (hD : H D = some (.lst xs)) (h : LadAt K C H p us d s c l) : LadAt K C (upd H D (.lst ys)) p us d s c l := by
  obtain ⟨dx, ua, t, st, th, h1, h2, h3, h4, h5⟩ := h
  have npa : p ≠ D := ne_of h1 hD (by intro z; cases z)
  exact ⟨dx, ua, t, st, th, by rw [upd_ne npa]; exact h1, UA.but hD rfl (But.upd D _ _) h2, (But.upd D _ _).sqt hD rfl h3, (But.upd D _ _).sqt hD rfl h4, (But.upd D _ _).sqt hD rfl h5⟩
theorem Spr.updL {H : Hp} {D a : Addr} {o : HO} (n : a ≠ D) (h : Spr H a) : Spr (upd H D o) a := by
  obtain ⟨x, y, z, e⟩ := h
  exact ⟨x, y, z, by rw [upd_ne n]; exact e⟩
theorem shown_same {us : List (Str × Int)} {d : Nat} {s : Str} {c : Bool} {l x y : Int} (g : Good us d s l) (x0 : 0 ≤ x) (y0 : 0 ≤ y) (x1 : x ≤ 1000000000000000000000000000000) (y1 : y ≤ 1000000000000000000000000000000) : shown us d s c l x = shown us d s c l y ↔ placedM us d s c l x = placedM us d s c l y := by
  constructor
  · intro e
    obtain ⟨k1, k2, k3⟩ := placedM_ok (c := c) g x0
    obtain ⟨j1, j2, j3⟩ := placedM_ok (c := c) g y0
    obtain ⟨e1, e2⟩ := writ_inj g.u g.d3 k1 j1 k2 j2 (by omega) (by omega) e
    exact Prod.ext e1 e2
  · intro e
    unfold shown
    rw [e]
theorem eq_otherS {x y : Str} (h : x ≠ y) : decide (V.str x = V.str y) = false := decide_eq_false fun e => h (V.str.inj e)
theorem ne_sameS {x y : Str} (h : x = y) : (!decide (V.str x = V.str y)) = false := by
  rw [h, decide_eq_true rfl]
  rfl
theorem ne_sameV {x y : V} (h : x = y) : (!decide (x = y)) = false := by
  rw [h, decide_eq_true rfl]
  rfl
theorem kb_rev {K : PySem.W.Frag} {mg : Str → Option Value} {x a b : Str} {st : Stmt} (d : Dd K mg x st [a, b]) (h : ∀ (kV doc pm : Value) (an : Option Addr) (cdv ct : Value) (u v : Value), bindArgs (PySem.W.fnOf x x (defArgs st) (defBody st) (defScope st) .none kV doc pm an cdv ct) ⟨[], [(b, u), (a, v)]⟩ = pure [(a, v), (b, u)]) : KBn K d.fd [a, b] 0 [b, a] (fun _ ws => ws.reverse) (fun _ ws => ws.reverse) := by
  obtain ⟨oc, od, kV, doc, pm, an, cdv, ct, osl, e, _⟩ := d.F.ex
  rw [e]
  refine ⟨fun s us ws _ h1 h2 => ?_, fun _ h2 => ?_⟩
  · match us, ws, h1, h2 with
    | [], [u, v], _, _ => exact .of_eq (h ..)
  · rename_i vs us zs ws h1
    clear h1 vs us
    have rev : ∀ {a : List V} {b : List Value}, Vals a b → Vals a.reverse b.reverse := fun {a b} h => by
      induction h with
      | nil => exact .nil
      | cons r t ih => rw [List.reverse_cons, List.reverse_cons]; exact ih.append (.cons r .nil)
    exact rev h2
/-- repr of an int or None -/
def dataO : Option Int → PyData
  | none => .none
  | some i => .int i
theorem call_reprO {X : Cx} : CallR X (.builtin "repr") (fun xs M Q => ∃ (v : V) (o : Option Int), xs = [v] ∧ ((o = none ∧ v = .non) ∨ ∃ i, o = some i ∧ v = .int i ∧ i.natAbs < 10 ^ 40) ∧ Q (.str (dataO o).shown) M) := by
  intro pins s σ M xs us Q I r h
  obtain ⟨v, o, rfl, h, q⟩ := h
  rcases h with ⟨rfl, rfl⟩ | ⟨i, rfl, rfl, hz⟩
  · obtain ⟨u, rfl, hu⟩ := vals1 r
    cases hu
    have e : (dataO none).shown = "None" := by simp only [dataO, PyData.shown]
    rw [e] at q
    exact PySem.P.repr_of_none ⟨.str _, M, I.tok _, ⟨_, rfl⟩, q⟩
  · obtain ⟨u, rfl, t, rfl⟩ := vals1 r
    have e : (dataO (some i)).shown = Str.ofString (toString i) := by simp only [dataO, PyData.shown]
    rw [e] at q
    have p := plain_show (.int i) (by simp only [plainD]; exact decide_eq_true hz)
    simp only [PyData.showable] at p
    exact PySem.P.repr_of_int (of_decide_eq_true p) ⟨.str _, M, I.tok _, ⟨_, rfl⟩, q⟩
theorem data_eqv_self : ∀ (d : PyData), d = d := fun _ => rfl
/-- len(xs) within a comprehension -/
def rLenQ (K : PySem.W.Frag) : List V → Hp → VK → Prop := fun vs M Q => ∃ (t : Addr) (items : List V), vs = [.ref t] ∧ (SqL K M t items ∨ SqT K M t items) ∧ Q (.int items.length) M
theorem call_lenQ {X : Cx} : CallR X (.builtin "len") (rLenQ X.K) := call_len_seq
end My

namespace My
open PySem PySem.Spec PyProof.Rows L2
/-! ### the texts of figures as data -/
theorem strOk_ofX {x : Str} (h : ∀ c ∈ x.cps.toList, c < 0x110000) : PyData.strOk x = true := by
  unfold PyData.strOk
  rw [← Array.all_toList, List.all_eq_true]
  exact fun c hc => decide_eq_true (h c hc)
theorem of_strOkX {x : Str} (h : PyData.strOk x = true) : ∀ c ∈ x.cps.toList, c < 0x110000 := by
  unfold PyData.strOk at h
  rw [← Array.all_toList, List.all_eq_true] at h
  exact fun c hc => of_decide_eq_true (h c hc)
theorem writ_okX {us : List (Str × Int)} {d : Nat} (g : GoodUs us) {p : Nat} {m : Int} (hm : 0 ≤ m) (hp : p < us.length) : PyData.strOk (writ us d p m) = true := by
  refine strOk_ofX fun c hc => ?_
  have hu : us[p]? = some us[p] := List.getElem?_eq_getElem hp
  have hn := of_strOkX (g.each p _ hu).1.2.2.1
  rw [writ_codes, name_at hp] at hc
  rcases List.mem_append.mp hc with z | z
  · have dd : ∀ c ∈ dg m, c < 0x110000 := fun c hc => by have := dg_digits hm c hc; omega
    unfold ahead at z
    split at z
    · exact dd c z
    · have zf' : ∀ c ∈ zf d m, c < 0x110000 := fun c hc => by
        unfold zf at hc
        rcases List.mem_append.mp hc with y | y
        · rw [(List.mem_replicate.mp y).2]
          decide
        · exact dd c y
      unfold body at z
      rcases List.mem_append.mp z with y | y
      · exact zf' c (List.mem_of_mem_take y)
      · rcases List.mem_cons.mp y with e | e
        · rw [e]
          decide
        · exact zf' c (List.mem_of_mem_drop e)
  · exact hn c z
theorem writ_len {us : List (Str × Int)} {d : Nat} (g : GoodUs us) (hd : d ≤ 3) {p : Nat} {m : Int} (hp : p < us.length) (hm : m.natAbs < 10 ^ 40) : (writ us d p m).length ≤ 60 := by
  rw [str_len, writ_codes, name_at hp, List.length_append]
  have hu : us[p]? = some us[p] := List.getElem?_eq_getElem hp
  have hn := (g.each p _ hu).1.1
  rw [str_len] at hn
  have h1 := dg_small hm
  have h2 : (ahead d p m).length ≤ 50 := by
    unfold ahead
    split
    · omega
    · unfold body
      rw [List.length_append, List.length_cons, List.length_take, List.length_drop, zf_len]
      omega
  omega
theorem writ_plain {us : List (Str × Int)} {d : Nat} (g : GoodUs us) {p : Nat} {m : Int} (hm : 0 ≤ m) (hp : p < us.length) : plainD (.str (writ us d p m)) = true := by
  have h := writ_okX (d := d) g hm hp
  simp only [plainD]
  rw [List.all_eq_true]
  exact fun c hc => decide_eq_true (of_strOkX h c hc)
theorem shown_key {us : List (Str × Int)} {d : Nat} {s : Str} {c : Bool} {l n : Int} (g : Good us d s l) (n0 : 0 ≤ n) (n1 : n ≤ 1000000000000000000000000000000) :
    plainD (.str (shown us d s c l n)) = true ∧ (shown us d s c l n).length ≤ 60 := by
  obtain ⟨k1, k2, k3⟩ := placedM_ok (c := c) g n0
  unfold shown
  exact ⟨writ_plain g.u k2 k1, writ_len g.u g.d3 k1 (by omega)⟩
end My

namespace MyZ
open PySem PySem.Spec PyProof.Rows L2 RZ
/-- [.. for x, y in zip(a, b)], b not longer than a -/
theorem lc_zipU {K : PySem.W.Frag} {a b : Addr} {xs ys : List V} {g : TG} {tt : TT} {te : TE} {vs : List Nat} {σ : L2.St} {H1 : Hp} {D : Addr} {Qd : Hp → Prop} (hy : ys.length ≤ xs.length) (Pv : Nat → Hp → Prop) (h0 : Pv 0 (upd H1 D (.lst [])))
    (hl : ∀ i H, Pv i H → SqL K H a xs ∧ SqL K H b ys)
    (ht : ∀ (i : Nat) (x y : V) (H : Hp) (T : Addr), xs[i]? = some x → ys[i]? = some y → Pv i H → H T = none → g (.ref T) (wipe σ vs) (upd H T (.tup [x, y])) fun σ2 H2 => wipe σ2 vs = wipe σ vs ∧ tt σ2 H2 fun b H3 =>
      if b = true then te σ2 H3 fun y H4 => ∃ acc, H4 D = some (.lst acc) ∧ acc.length < sizeLine ∧ Pv (i + 1) (upd H4 D (.lst (acc ++ [y]))) else Pv (i + 1) H3)
    (he : ∀ H, Pv ys.length H → Qd H) :
    ∃ W : Nat → Nat → Hp → Prop, (∃ m, W 0 m (upd H1 D (.lst []))) ∧ ∀ i m H, W i m H → ((Itz K a b).stop i H ∧ Qd H) ∨
      ((Itz K a b).go i H ∧ ∃ Nx : Hp → Prop, (∀ H', Nx H' → ∃ m', m' < m ∧ W (i + 1) m' H') ∧
        ∀ x H', (Itz K a b).yld i H x H' → g x (wipe σ vs) H' fun σ2 H2 => wipe σ2 vs = wipe σ vs ∧ tt σ2 H2 fun b H3 =>
          if b = true then te σ2 H3 fun y H4 => ∃ acc, H4 D = some (.lst acc) ∧ acc.length < sizeLine ∧ Nx (upd H4 D (.lst (acc ++ [y]))) else Nx H3) := by
  refine ⟨fun i m H => Pv i H ∧ i + m = ys.length, ⟨ys.length, h0, by omega⟩, fun i m H hW => ?_⟩
  obtain ⟨hp, hm⟩ := hW
  obtain ⟨q1, q2⟩ := hl i H hp
  by_cases hi : i < ys.length
  · refine .inr ⟨⟨xs, ys, xs[i], ys[i], q1, q2, List.getElem?_eq_getElem (by omega), List.getElem?_eq_getElem hi⟩, Pv (i + 1), fun H' hN => ⟨m - 1, by omega, hN, by omega⟩, ?_⟩
    rintro v H' ⟨T, x, y, rfl, hT, rfl, f1, f2⟩
    exact ht i x y H T (f1 xs q1) (f2 ys q2) hp hT
  · have e : i = ys.length := by omega
    subst e
    exact .inl ⟨⟨xs, ys, q1, q2, .inr (Nat.le_refl _)⟩, he H hp⟩
theorem lc_zipT {K : PySem.W.Frag} {a b : Addr} {xs ys : List V} {g : TG} {tt : TT} {te : TE} {vs : List Nat} {σ : L2.St} {H1 : Hp} {D : Addr} {Qd : Hp → Prop} (hy : ys.length ≤ xs.length) (Pv : Nat → Hp → Prop) (h0 : Pv 0 (upd H1 D (.lst [])))
    (hl : ∀ i H, Pv i H → SqT K H a xs ∧ SqT K H b ys)
    (ht : ∀ (i : Nat) (x y : V) (H : Hp) (T : Addr), xs[i]? = some x → ys[i]? = some y → Pv i H → H T = none → g (.ref T) (wipe σ vs) (upd H T (.tup [x, y])) fun σ2 H2 => wipe σ2 vs = wipe σ vs ∧ tt σ2 H2 fun b H3 =>
      if b = true then te σ2 H3 fun y H4 => ∃ acc, H4 D = some (.lst acc) ∧ acc.length < sizeLine ∧ Pv (i + 1) (upd H4 D (.lst (acc ++ [y]))) else Pv (i + 1) H3)
    (he : ∀ H, Pv ys.length H → Qd H) :
    ∃ W : Nat → Nat → Hp → Prop, (∃ m, W 0 m (upd H1 D (.lst []))) ∧ ∀ i m H, W i m H → ((ItzT K a b).stop i H ∧ Qd H) ∨
      ((ItzT K a b).go i H ∧ ∃ Nx : Hp → Prop, (∀ H', Nx H' → ∃ m', m' < m ∧ W (i + 1) m' H') ∧
        ∀ x H', (ItzT K a b).yld i H x H' → g x (wipe σ vs) H' fun σ2 H2 => wipe σ2 vs = wipe σ vs ∧ tt σ2 H2 fun b H3 =>
          if b = true then te σ2 H3 fun y H4 => ∃ acc, H4 D = some (.lst acc) ∧ acc.length < sizeLine ∧ Nx (upd H4 D (.lst (acc ++ [y]))) else Nx H3) := by
  refine ⟨fun i m H => Pv i H ∧ i + m = ys.length, ⟨ys.length, h0, by omega⟩, fun i m H hW => ?_⟩
  obtain ⟨hp, hm⟩ := hW
  obtain ⟨q1, q2⟩ := hl i H hp
  by_cases hi : i < ys.length
  · refine .inr ⟨⟨xs, ys, xs[i], ys[i], q1, q2, List.getElem?_eq_getElem (by omega), List.getElem?_eq_getElem hi⟩, Pv (i + 1), fun H' hN => ⟨m - 1, by omega, hN, by omega⟩, ?_⟩
    rintro v H' ⟨T, x, y, rfl, hT, rfl, f1, f2⟩
    exact ht i x y H T (f1 xs q1) (f2 ys q2) hp hT
  · have e : i = ys.length := by omega
    subst e
    exact .inl ⟨⟨xs, ys, q1, q2, .inr (Nat.le_refl _)⟩, he H hp⟩
end MyZ

namespace L2
open PySem PySem.Spec PyProof.Rows
/-- a op1 b op2 c op3 e -/
def tChain3 (r1 r2 r3 : R2) (ta tb tc te : TE) : TE := fun σ H Q => ta σ H fun x H1 => tb σ H1 fun y H2 => r1 x y H2 fun z H3 => ∃ k, z = .bl k ∧
  (if k = true then tc σ H3 fun w' H4 => r2 y w' H4 fun z2 H5 => ∃ k2, z2 = .bl k2 ∧ (if k2 = true then te σ H5 fun v' H6 => r3 w' v' H6 Q else Q (.bl false) H5) else Q (.bl false) H3)
section
variable {X : Cx} {a b c e : Expr} {ta tb tc te : TE} {pos : Pos}
theorem pt_chain3 {op op' op2 : CmpOp} {r r' r2 : R2} (ho : OpR X (compareOp op) r) (ho' : OpR X (compareOp op') r') (ho2 : OpR X (compareOp op2) r2) (ha : PE X a ta) (hb : PE X b tb) (hc : PE X c tc) (he : PE X e te)
    (hm : lastMarks [op, op', op2] [b, c, e] = false := by with_unfolding_all rfl) : PT X (.Compare a [op, op', op2] [b, c, e] pos) (tTest (tChain3 r r' r2 ta tb tc te)) := by
  refine ⟨fun pins s σ H Q I h => ?_⟩
  refine isTrue_chain (thn (ha.run pins s σ H _ I h) fun v s1 ⟨x, H1, I1, r1, q1⟩ => test_link (thn (hb.run pins s1 σ H1 _ I1 q1) fun u s2 ⟨y, H2, I2, r2, q2⟩ =>
    thn (ho pins s2 σ H2 x y v u _ I2 r1 r2 q2) fun d s3 ⟨z, H3, I3, r3, k, e, q3⟩ => ?_)) hm
  subst e
  cases r3
  refine wpAny_truthy_bool ?_
  cases k with
  | false =>
    obtain ⟨k', e', q'⟩ := q3
    cases e'
    exact ite_ff ⟨H3, I3, q'⟩
  | true =>
    refine ite_tt (test_link (thn (hc.run pins s3 σ H3 _ I3 q3) fun w' s4 ⟨z', H4, I4, r4, q4⟩ => thn (ho' pins s4 σ H4 y z' u w' _ I4 r2 r4 q4) fun d' s5 ⟨z2, H5, I5, r5, k2, e2, q5⟩ => ?_))
    subst e2
    cases r5
    refine wpAny_truthy_bool ?_
    cases k2 with
    | false =>
      obtain ⟨k', e', q'⟩ := q5
      cases e'
      exact ite_ff ⟨H5, I5, q'⟩
    | true =>
      refine ite_tt (test_last (thn (he.run pins s5 σ H5 _ I5 q5) fun w2 s6 ⟨z3, H6, I6, r6, q6⟩ => thn (ho2 pins s6 σ H6 z' z3 w' w2 _ I6 r4 r6 q6) fun d2 s7 ⟨z4, H7, I7, r7, k3, e3, q7⟩ => ?_))
      subst e3
      cases r7
      exact wpAny_truthy_bool ⟨H7, I7, q7⟩
end
end L2

namespace My
open PySem PySem.Spec PyProof.Rows L2
/-! ### rows of figures and their ranges -/
/-- a figure of a ladder, by its unit and mark -/
abbrev FKey := Nat × Int
def KeyOk (us : List (Str × Int)) (k : FKey) : Prop := k.1 < us.length ∧ 0 ≤ k.2 ∧ k.2 < 10 ^ 24
abbrev lowK (us : List (Str × Int)) (d : Nat) (s : Str) (c : Bool) (l : Int) (k : FKey) : Int := lowM us d s c l k.1 k.2
abbrev highK (us : List (Str × Int)) (d : Nat) (s : Str) (c : Bool) (l : Int) (k : FKey) : Int := highM us d s c l k.1 k.2
abbrev textK (us : List (Str × Int)) (d : Nat) (k : FKey) : Str := writ us d k.1 k.2
/-- what stands for a row: a range, or none -/
def RowV (K : PySem.W.Frag) (H : Hp) (v : V) (lo hi : Int) : Prop := (hi < lo ∧ v = .non) ∨ (lo ≤ hi ∧ ∃ p : Addr, v = .ref p ∧ SqT K H p [.int lo, .int hi])
theorem RowV.same {K : PySem.W.Frag} {H H' : Hp} {v : V} {lo hi : Int} (k : Same H H') (h : RowV K H v lo hi) : RowV K H' v lo hi := by
  rcases h with h | ⟨h, p, e, q⟩
  · exact .inl h
  · exact .inr ⟨h, p, e, same_sqt k q⟩
theorem RowV.updL {K : PySem.W.Frag} {H : Hp} {L : Addr} {xs ys : List V} {v : V} {lo hi : Int} (hL : H L = some (.lst xs)) (h : RowV K H v lo hi) : RowV K (upd H L (.lst ys)) v lo hi := by
  rcases h with h | ⟨h, p, e, q⟩
  · exact .inl h
  · exact .inr ⟨h, p, e, (But.upd L _ _).sqt hL rfl q⟩
def dataR (lo hi : Int) : PyData := if hi < lo then .none else .tuple [.int lo, .int hi]
theorem dpR {K : PySem.W.Frag} {H : Hp} {v : V} {lo hi : Int} (h : RowV K H v lo hi) : Dp K H v (dataR lo hi) := by
  rcases h with ⟨h, rfl⟩ | ⟨h, p, rfl, q⟩
  · rw [dataR, if_pos h]
    exact .non
  · rw [dataR, if_neg (Int.not_lt.mpr h)]
    exact .tup q (.cons (.int _) (.cons (.int _) .nil))
theorem dpRs {K : PySem.W.Frag} {H : Hp} {α : Type} {f g : α → Int} : ∀ {vs : List V} {ks : List α}, PySem.Paired (fun v k => RowV K H v (f k) (g k)) vs ks → DpAll K H vs (ks.map fun k => dataR (f k) (g k))
  | _, _, .nil => .nil
  | _, _, .cons r t => .cons (dpR r) (dpRs t)
theorem dataR_lay (lo hi : Int) : (dataR lo hi).canLay0 = true := by
  unfold dataR
  split <;> simp [PyData.canLay0, PyData.canLayAll0]
theorem dataR_depth (lo hi : Int) : (dataR lo hi).depth ≤ 2 := by
  unfold dataR
  split <;> simp [PyData.depth, PyData.depthAll]
theorem dataRs_lay {α : Type} (f g : α → Int) : ∀ ks : List α, PyData.canLayAll0 (ks.map fun k => dataR (f k) (g k)) = true
  | [] => by simp [PyData.canLayAll0]
  | k :: r => by
    have h := dataRs_lay f g r
    simp only [List.map_cons, PyData.canLayAll0, Bool.and_eq_true]
    exact ⟨dataR_lay _ _, h⟩
theorem dataRs_depth {α : Type} (f g : α → Int) : ∀ ks : List α, PyData.depthAll (ks.map fun k => dataR (f k) (g k)) ≤ 3
  | [] => by simp [PyData.depthAll]
  | k :: r => by
    have h := dataRs_depth f g r
    have h1 := dataR_depth (f k) (g k)
    simp only [List.map_cons, PyData.depthAll]
    omega
theorem dataRs_shaped {α : Type} (f g : α → Int) (ks : List α) : SeqAt.shaped (.list (ks.map fun k => dataR (f k) (g k))) = true := by
  have h1 := dataRs_lay f g ks
  have h2 := dataRs_depth f g ks
  show ((PyData.list _).canLay0 && decide ((PyData.list _).depth ≤ 64)) = true
  rw [Bool.and_eq_true]
  refine ⟨by simp only [PyData.canLay0]; exact h1, decide_eq_true ?_⟩
  simp only [PyData.depth]
  omega
theorem non_shaped : SeqAt.shaped .none = true := by
  simp [SeqAt.shaped, PyData.canLay0, PyData.depth]
theorem dataR_eqv (lo hi : Int) : PyData.eqv (dataR lo hi) .none = decide (hi < lo) := by
  unfold dataR
  split
  · rename_i h
    rw [decide_eq_true h]
    simp [PyData.eqv]
  · rename_i h
    rw [decide_eq_false h]
    simp [PyData.eqv]
theorem dataRs_any {α : Type} (f g : α → Int) (ks : List α) : ((ks.map fun k => dataR (f k) (g k)).any fun z => PyData.eqv z .none) = ks.any fun k => decide (g k < f k) := by
  rw [List.any_map]
  congr 1
  funext k
  exact dataR_eqv _ _
/-- the pairs of the ranges stand -/
theorem rows_refs {K : PySem.W.Frag} {H : Hp} {α : Type} {f g : α → Int} : ∀ {vs : List V} {ks : List α}, PySem.Paired (fun v k => RowV K H v (f k) (g k)) vs ks → (∀ k ∈ ks, f k ≤ g k) →
    ∃ ps : List Addr, vs = ps.map V.ref ∧ PySem.Paired (fun p k => SqT K H p [.int (f k), .int (g k)]) ps ks
  | _, _, .nil, _ => ⟨[], rfl, .nil⟩
  | _, _, .cons r t, h => by
    obtain ⟨ps, rfl, hp⟩ := rows_refs t fun k hk => h k (List.mem_cons_of_mem _ hk)
    rcases r with ⟨hlt, _⟩ | ⟨_, p, rfl, hq⟩
    · exact absurd (h _ (List.mem_cons_self ..)) (by omega)
    · exact ⟨p :: ps, rfl, .cons hq hp⟩
abbrev sRangesOf : Stmt := top 45
abbrev nRangesOf : List Str := ["ladder", "texts", "ranges", "text", "unit", "mark"]
theorem scRangesOf : FnScope nRangesOf ["ladder", "texts"] (defScope sRangesOf) := ⟨rfl, rfl, rfl, by decide +kernel, rfl, by decide +kernel, by decide +kernel⟩
def spRangesOf (K : PySem.W.Frag) (C : Addr) : Sp := fun vs H Q _ => ∃ (a t : Addr) (us : List (Str × Int)) (d : Nat) (s : Str) (c : Bool) (l : Int) (ks : List FKey), vs = [.ref a, .ref t] ∧ LadAt K C H a us d s c l ∧ Good us d s l ∧ SqT K H t (ks.map fun k => V.str (textK us d k)) ∧
  ks.length ≤ 1000 ∧ (∀ k ∈ ks, KeyOk us k) ∧ ((∃ k ∈ ks, highK us d s c l k < lowK us d s c l k) → ∀ H', Same H H' → Q .non H') ∧
  ((∀ k ∈ ks, lowK us d s c l k ≤ highK us d s c l k) → ∀ (r : Addr) (ps : List Addr) (H' : Hp), Same H H' → H r = none → H' r = some (.lst (ps.map V.ref)) → PySem.Paired (fun p k => SqT K H' p [.int (lowK us d s c l k), .int (highK us d s c l k)]) ps ks → Q (.ref r) H')
section
variable {P : Program} {w : World} {K : PySem.W.Frag} {mg : Str → Option Value} {base : Heap}
theorem ok_rangesof {C : Addr} (d : Dd K mg "ranges_of" sRangesOf ["ladder", "texts"]) (dF : Dd K mg "parts_of" sPartsOf ["ladder", "text"]) (dM : Dd K mg "numbers_shown" sNums ["ladder", "place", "mark"])
    (GF : FnOk P w K mg base CX0 3 dF.f dF.fd ["ladder", "text"] (spPartsOf K C)) (GM : FnOk P w K mg base CX0 4 dM.f dM.fd ["ladder", "place", "mark"] (spNums K C)) :
    FnOk P w K mg base CX0 5 d.f d.fd ["ladder", "texts"] (spRangesOf K C) := by
  refine d.F.ok scRangesOf (fun vs H Q E h => ?_) (fun cdv A outer s H vs Q E hr h => ?_)
  · obtain ⟨_, _, _, _, _, _, _, _, rfl, _⟩ := h
    rfl
  · obtain ⟨a, t, us, dn, z, c, l, ks, rfl, hL, g, hT, hlen, hk, q0, q1⟩ := h
    have hr2 : Room 3 _ := hr.mono (by decide)
    have nd := scRangesOf.nd
    have hu : (A.deeper (envOfC "ranges_of" (defScope sRangesOf) s.heap.objs.size d.f cdv)).units + 65 < cLine := by have := hr.un; omega
    refine ⟨_, pss_cons (ps_set (i := 2) nd rfl (.inl rfl) (pe_lst pa_nil))
      (pss_cons (ps_for PassesOwn.never rfl (pi_tup (pv 1)) (pg_name (i := 3) nd rfl (.inl rfl))
        (pss_cons (ps_asg (pe_call GF hr2 (by rfl) dF.g dF.F.kp dF.b .nil pass0 (pa_cons (pv 0) (pa_cons (pv 3) pa_nil))) (pg_tup rfl (pgs_cons (pg_name (i := 4) nd rfl (.inl rfl)) (pgs_cons (pg_name (i := 5) nd rfl (.inl rfl)) pgs_nil))))
        (pss_one (ps_expr (pe_bm PySem.F.plainAttrs_list PySem.F.slot_list_append PySem.F.type_list_append mt_append (pv 2) (pa_cons (pe_call GM hr (by rfl) dM.g dM.F.kp dM.b .nil pass0 (pa_cons (pv 0) (pa_cons (pv 4) (pa_cons (pv 5) pa_nil)))) pa_nil))))))
      (pss_cons (ps_if (pt_cmpR (op_inD hu) pe_non (pv 2) (by rfl)) (pss_one (ps_ret pe_non)) pss_nil)
      (pss_one (ps_ret (pv 2))))), ?_⟩
    refine ⟨Nat.zero_le _, fun L nL => ?_⟩
    have sL := same_upd nL (o := .lst [])
    refine ⟨.ref t, rfl, t, rfl, ⟨_, same_sqt sL hT⟩, for_tup (K := K) (a := t) (xs := ks.map fun k => V.str (textK us dn k)) (fun i σ H2 => (∃ v3 v4 v5, σ = [some (.ref a), some (.ref t), some (.ref L), v3, v4, v5]) ∧ Same H H2 ∧
      ∃ vs, H2 L = some (.lst vs) ∧ PySem.Paired (fun v k => RowV K H2 v (lowK us dn z c l k) (highK us dn z c l k)) vs (ks.take i)) ⟨⟨_, _, _, rfl⟩, sL, [], upd_same, .nil⟩ (fun i σ H2 _ h => same_sqt h.2.1 hT) ?_ ?_⟩
    · rintro i x σ H2 hi ⟨⟨v3, v4, v5, rfl⟩, sm, vs, hL2, hp⟩
      rw [List.getElem?_map] at hi
      obtain ⟨k, hk2, rfl⟩ := Option.map_eq_some_iff.mp hi
      obtain ⟨k1, k2, k3⟩ := hk k (List.mem_of_getElem? hk2)
      have hi2 : i < ks.length := (List.getElem?_eq_some_iff.mp hk2).1
      refine ⟨_, rfl, _, rfl, a, us, dn, z, c, l, k.1, k.2, rfl, hL.same sm, g, k1, k2, k3, fun r H3 s3 hr3 => ?_⟩
      refine ⟨r, _, rfl, hr3, rfl, _, _, rfl, _, _, rfl, rfl, ?_⟩
      have hL3 := s3 _ _ hL2
      have hlv : vs.length = i := by
        rw [hp.length, List.length_take]
        omega
      have fin : ∀ (x : V) (H4 : Hp), Same H3 H4 → RowV K H4 x (lowK us dn z c l k) (highK us dn z c l k) → Same H (upd H4 L (.lst (vs ++ [x]))) ∧ ∃ vs', (upd H4 L (.lst (vs ++ [x]))) L = some (.lst vs') ∧ PySem.Paired (fun v k => RowV K (upd H4 L (.lst (vs ++ [x]))) v (lowK us dn z c l k) (highK us dn z c l k)) vs' (ks.take (i + 1)) := by
        intro x H4 s4 hx
        have hL4 := s4 _ _ hL3
        refine ⟨fun b o e => ?_, _, upd_same, ?_⟩
        · rw [upd_ne (ne_of_none e nL)]
          exact s4 _ _ (s3 _ _ (sm _ _ e))
        · rw [List.take_add_one, hk2]
          refine PySem.Paired.snoc (paired_imp (fun _ _ h => ((h.same s3).same s4).updL hL4) hp) (hx.updL hL4)
      have hsz : vs.length < sizeLine := by
        rw [hlv]
        exact Nat.lt_of_lt_of_le (Nat.lt_of_lt_of_le hi2 hlen) (by decide)
      refine ⟨_, rfl, .inl ⟨rfl, _, SqL.of hL3⟩, _, rfl, _, rfl, _, rfl, a, us, dn, z, c, l, k.1, k.2, rfl, (hL.same sm).same s3, g, k1, fun y => ?_, fun y rr H4 s4 hrr => ?_⟩
      · refine ⟨L, _, _, rfl, rfl, hL3, hsz, ?_⟩
        obtain ⟨f1, f2⟩ := fin .non H3 (Same.refl _) (.inl ⟨y, rfl⟩)
        exact ⟨⟨_, _, _, rfl⟩, f1, f2⟩
      · refine ⟨L, _, _, rfl, rfl, s4 _ _ hL3, hsz, ?_⟩
        obtain ⟨f1, f2⟩ := fin (.ref rr) H4 s4 (.inr ⟨y, rr, rfl, hrr⟩)
        exact ⟨⟨_, _, _, rfl⟩, f1, f2⟩
    · rintro σ H2 ⟨⟨v3, v4, v5, rfl⟩, sm, vs, hL2, hp⟩
      rw [List.length_map, List.take_length] at hp
      refine ⟨.ref L, rfl, .none, _, .non, .lst (SqL.of hL2) (dpRs hp), non_shaped, dataRs_shaped _ _ ks, _, rfl, ?_⟩
      rw [dataRs_any]
      refine ite2 (fun e => ?_) (fun e => ?_)
      · rw [List.any_eq_true] at e
        obtain ⟨k, h1, h2⟩ := e
        exact q0 ⟨k, h1, of_decide_eq_true h2⟩ H2 sm
      · have hall : ∀ k ∈ ks, lowK us dn z c l k ≤ highK us dn z c l k := fun k hk => by
          refine Int.not_lt.mp fun y => e ?_
          rw [List.any_eq_true]
          exact ⟨k, hk, decide_eq_true y⟩
        obtain ⟨ps, rfl, hps⟩ := rows_refs hp hall
        exact ⟨_, rfl, q1 hall L ps H2 sm nL hL2 hps⟩
end
end My

namespace My
open PySem PySem.Spec PyProof.Rows L2
/-! ### difference, compared -/
abbrev sDiff : Stmt := top 47
abbrev sCompd : Stmt := top 48
abbrev nDiff : List Str := ["ladder", "text", "other_text", "ranges", "low", "high", "other_low", "other_high"]
theorem scDiff : FnScope nDiff ["ladder", "text", "other_text"] (defScope sDiff) := ⟨rfl, rfl, rfl, by decide +kernel, rfl, by decide +kernel, by decide +kernel⟩
abbrev nCompd : List Str := ["ladder", "text", "other_text", "ends", "least", "most"]
theorem scCompd : FnScope nCompd ["ladder", "text", "other_text"] (defScope sCompd) := ⟨rfl, rfl, rfl, by decide +kernel, rfl, by decide +kernel, by decide +kernel⟩
def spDiff (K : PySem.W.Frag) (C : Addr) : Sp := fun vs H Q _ => ∃ (a : Addr) (us : List (Str × Int)) (d : Nat) (s : Str) (c : Bool) (l : Int) (k k' : FKey), vs = [.ref a, .str (textK us d k), .str (textK us d k')] ∧ LadAt K C H a us d s c l ∧ Good us d s l ∧ KeyOk us k ∧ KeyOk us k' ∧
  ((highK us d s c l k < lowK us d s c l k ∨ highK us d s c l k' < lowK us d s c l k') → ∀ H', Same H H' → Q .non H') ∧
  (lowK us d s c l k ≤ highK us d s c l k → lowK us d s c l k' ≤ highK us d s c l k' → ∀ (r : Addr) (H' : Hp), Same H H' → SqT K H' r [.int (lowK us d s c l k' - highK us d s c l k), .int (highK us d s c l k' - lowK us d s c l k)] → Q (.ref r) H')
/-- the word for a difference from x to y -/
def wordOf (x y : Int) : Str := if 0 < x then "more" else if y < 0 then "less" else if x = y then "equal" else "open"
def spCompd (K : PySem.W.Frag) (C : Addr) : Sp := fun vs H Q _ => ∃ (a : Addr) (us : List (Str × Int)) (d : Nat) (s : Str) (c : Bool) (l : Int) (k k' : FKey), vs = [.ref a, .str (textK us d k), .str (textK us d k')] ∧ LadAt K C H a us d s c l ∧ Good us d s l ∧ KeyOk us k ∧ KeyOk us k' ∧
  ((highK us d s c l k < lowK us d s c l k ∨ highK us d s c l k' < lowK us d s c l k') → ∀ H', Same H H' → Q .non H') ∧
  (lowK us d s c l k ≤ highK us d s c l k → lowK us d s c l k' ≤ highK us d s c l k' → ∀ H', Same H H' → Q (.str (wordOf (lowK us d s c l k' - highK us d s c l k) (highK us d s c l k' - lowK us d s c l k))) H')
section
variable {P : Program} {w : World} {K : PySem.W.Frag} {mg : Str → Option Value} {base : Heap}
theorem ok_diff {C : Addr} (d : Dd K mg "difference" sDiff ["ladder", "text", "other_text"]) (dC : Dd K mg "check_ladder" sCLad ["ladder"]) (dF : Dd K mg "parts_of_figure" sPFig ["ladder", "text"]) (dR : Dd K mg "ranges_of" sRangesOf ["ladder", "texts"])
    (GC : FnOk P w K mg base CX0 2 dC.f dC.fd ["ladder"] (spCLad K C)) (GF : FnOk P w K mg base CX0 4 dF.f dF.fd ["ladder", "text"] (spPartsOf K C)) (GR : FnOk P w K mg base CX0 5 dR.f dR.fd ["ladder", "texts"] (spRangesOf K C)) :
    FnOk P w K mg base CX0 6 d.f d.fd ["ladder", "text", "other_text"] (spDiff K C) := by
  refine d.F.ok scDiff (fun vs H Q E h => ?_) (fun cdv A outer s H vs Q E hr h => ?_)
  · obtain ⟨_, _, _, _, _, _, _, _, rfl, _⟩ := h
    rfl
  · obtain ⟨a, us, dn, z, c, l, k, k', rfl, hL, g, ⟨k1, k2, k3⟩, ⟨k1', k2', k3'⟩, q0, q1⟩ := h
    have hr1 : Room 2 _ := hr.mono (by decide)
    have hr3 : Room 4 _ := hr.mono (by decide)
    have nd := scDiff.nd
    refine ⟨_, pss_cons (ps_expr (pe_call GC hr1 (by rfl) dC.g dC.F.kp dC.b .nil pass0 (pa_cons (pv 0) pa_nil)))
      (pss_cons (ps_expr (pe_call GF hr3 (by rfl) dF.g dF.F.kp dF.b .nil pass0 (pa_cons (pv 0) (pa_cons (pv 1) pa_nil))))
      (pss_cons (ps_expr (pe_call GF hr3 (by rfl) dF.g dF.F.kp dF.b .nil pass0 (pa_cons (pv 0) (pa_cons (pv 2) pa_nil))))
      (pss_cons (ps_set (i := 3) nd rfl (.inl rfl) (pe_call GR hr (by rfl) dR.g dR.F.kp dR.b .nil pass0 (pa_cons (pv 0) (pa_cons (pe_tup (pa_cons (pv 1) (pa_cons (pv 2) pa_nil))) pa_nil))))
      (pss_cons (ps_if (pt_cmp (pc_isN (pv 3))) (pss_one (ps_ret pe_non)) pss_nil)
      (pss_cons (ps_asg (pv 3) (pg_lst rfl (pgs_cons (pg_tup rfl (pgs_cons (pg_name (i := 4) nd rfl (.inl rfl)) (pgs_cons (pg_name (i := 5) nd rfl (.inl rfl)) pgs_nil))) (pgs_cons (pg_tup rfl (pgs_cons (pg_name (i := 6) nd rfl (.inl rfl)) (pgs_cons (pg_name (i := 7) nd rfl (.inl rfl)) pgs_nil))) pgs_nil))))
      (pss_one (ps_ret (pe_tup (pa_cons (pe_op op_sub (pv 6) (pv 5)) (pa_cons (pe_op op_sub (pv 7) (pv 4)) pa_nil)))))))))), ?_⟩
    refine ⟨_, rfl, a, us, dn, z, c, l, rfl, hL, _, rfl, _, rfl, a, us, dn, z, c, l, k.1, k.2, rfl, hL, g, k1, k2, k3, fun r H1 s1 _ => ?_⟩
    refine ⟨_, rfl, _, rfl, a, us, dn, z, c, l, k'.1, k'.2, rfl, hL.same s1, g, k1', k2', k3', fun r' H2 s2 _ => ?_⟩
    refine ⟨_, rfl, _, rfl, _, rfl, (by show 2 ≤ sizeLine; decide), fun t nt => ?_⟩
    have st := same_upd nt (o := .tup [.str (textK us dn k), .str (textK us dn k')])
    have sT := (s1.trans s2).trans st
    refine ⟨a, t, us, dn, z, c, l, [k, k'], rfl, hL.same sT, g, SqT.of upd_same, (by show 2 ≤ 1000; decide), fun y hy => ?_, fun hy H3 s3 => ?_, fun hy L ps H3 s3 _ hL3 hps => ?_⟩
    · rcases List.mem_cons.mp hy with e | hy
      · rw [e]
        exact ⟨k1, k2, k3⟩
      · rcases List.mem_cons.mp hy with e | hy
        · rw [e]
          exact ⟨k1', k2', k3'⟩
        · cases hy
    · refine ⟨_, rfl, _, rfl, iteT ?_⟩
      refine q0 ?_ H3 (sT.trans s3)
      obtain ⟨y, hy, hlt⟩ := hy
      rcases List.mem_cons.mp hy with e | hy
      · rw [e] at hlt
        exact .inl hlt
      · rcases List.mem_cons.mp hy with e | hy
        · rw [e] at hlt
          exact .inr hlt
        · cases hy
    · cases hps with
      | cons h1 hps =>
        rename_i p ps
        cases hps with
        | cons h2 hps =>
          rename_i p' ps
          cases hps
          refine ⟨_, rfl, _, rfl, iteF ?_⟩
          refine ⟨_, rfl, L, _, rfl, SqL.of hL3, rfl, _, _, rfl, ⟨p, _, rfl, h1, rfl, _, _, rfl, _, _, rfl, rfl, _, _, rfl, ⟨p', _, rfl, h2, rfl, _, _, rfl, _, _, rfl, rfl, rfl, ?_⟩⟩⟩
          refine ⟨_, rfl, _, rfl, _, _, rfl, rfl, _, rfl, _, rfl, _, _, rfl, rfl, (by show 2 ≤ sizeLine; decide), fun r nr => ?_⟩
          exact q1 (hy _ (List.mem_cons_self ..)) (hy _ (List.mem_cons_of_mem _ (List.mem_cons_self ..))) r _ ((sT.trans s3).trans (same_upd nr)) (SqT.of upd_same)
theorem ok_compd {C : Addr} (d : Dd K mg "compared" sCompd ["ladder", "text", "other_text"]) (dD : Dd K mg "difference" sDiff ["ladder", "text", "other_text"])
    (GD : FnOk P w K mg base CX0 6 dD.f dD.fd ["ladder", "text", "other_text"] (spDiff K C)) : FnOk P w K mg base CX0 7 d.f d.fd ["ladder", "text", "other_text"] (spCompd K C) := by
  refine d.F.ok scCompd (fun vs H Q E h => ?_) (fun cdv A outer s H vs Q E hr h => ?_)
  · obtain ⟨_, _, _, _, _, _, _, _, rfl, _⟩ := h
    rfl
  · obtain ⟨a, us, dn, z, c, l, k, k', rfl, hL, g, hk, hk', q0, q1⟩ := h
    have nd := scCompd.nd
    refine ⟨_, pss_cons (ps_set (i := 3) nd rfl (.inl rfl) (pe_call GD hr (by rfl) dD.g dD.F.kp dD.b .nil pass0 (pa_cons (pv 0) (pa_cons (pv 1) (pa_cons (pv 2) pa_nil)))))
      (pss_cons (ps_if (pt_cmp (pc_isN (pv 3))) (pss_one (ps_ret pe_non)) pss_nil)
      (pss_cons (ps_asg (pv 3) (pg_tup rfl (pgs_cons (pg_name (i := 4) nd rfl (.inl rfl)) (pgs_cons (pg_name (i := 5) nd rfl (.inl rfl)) pgs_nil))))
      (pss_cons (ps_if (pt_cmpR op_gt (pv 4) pe_int (nomark _)) (pss_one (ps_ret pe_str)) pss_nil)
      (pss_cons (ps_if (pt_cmpR op_lt (pv 5) pe_int (nomark _)) (pss_one (ps_ret pe_str)) pss_nil)
      (pss_cons (ps_if (pt_cmpR op_eq (pv 4) (pv 5) (nomark _)) (pss_one (ps_ret pe_str)) pss_nil)
      (pss_one (ps_ret pe_str))))))), ?_⟩
    refine ⟨_, rfl, _, rfl, _, rfl, a, us, dn, z, c, l, k, k', rfl, hL, g, hk, hk', fun y H1 s1 => ?_, fun y y' r H1 s1 hr1 => ?_⟩
    · exact ⟨_, rfl, _, rfl, iteT (q0 y H1 s1)⟩
    · refine ⟨_, rfl, _, rfl, iteF ?_⟩
      have q := q1 y y' H1 s1
      unfold wordOf at q
      refine ⟨_, rfl, r, _, rfl, hr1, rfl, _, _, rfl, _, _, rfl, rfl, ?_⟩
      refine ⟨_, rfl, _, _, rfl, rfl, _, rfl, ite2 (fun e => ?_) (fun e => ?_)⟩
      · rw [if_pos (of_decide_eq_true e)] at q
        exact q
      · rw [if_neg (fun y => e (decide_eq_true y))] at q
        refine ⟨_, rfl, _, _, rfl, rfl, _, rfl, ite2 (fun e => ?_) (fun e => ?_)⟩
        · rw [if_pos (of_decide_eq_true e)] at q
          exact q
        · rw [if_neg (fun y => e (decide_eq_true y))] at q
          refine ⟨_, rfl, _, rfl, rfl, _, rfl, ite2 (fun e => ?_) (fun e => ?_)⟩
          · rw [if_pos (V.int.inj (of_decide_eq_true e))] at q
            exact q
          · rw [if_neg (fun y => e (decide_eq_true (congrArg V.int y)))] at q
            exact q
end
end My

namespace My
open PySem PySem.Spec PyProof.Rows L2
theorem high_bound {us : List (Str × Int)} {d : Nat} {s : Str} {c : Bool} {l : Int} (g : Good us d s l) {p : Nat} (hp : p < us.length) {m B : Int} (m0 : 0 ≤ m) (hm : m ≤ B) : highM us d s c l p m ≤ (B + 1) * 1000000000000000000 := by
  obtain ⟨_, s1, s2⟩ := steps_ok g hp
  have h1 := firstR_hi (m := m + 1) (s := s) s1
  have h3 : highM us d s c l p m ≤ firstR (m + 1) ((stepsOf us d).getD p 0) s - 1 := by
    unfold highM
    split
    · unfold min2
      split <;> omega
    · exact Int.le_refl _
  have h4 : (m + 1) * (stepsOf us d).getD p 0 ≤ (B + 1) * 1000000000000000000 := Int.mul_le_mul (by omega) s2 (by omega) (by omega)
  omega
abbrev Lad.lo (A : Lad) (k : FKey) : Int := lowK A.us A.d A.s A.c A.l k
abbrev Lad.hi (A : Lad) (k : FKey) : Int := highK A.us A.d A.s A.c A.l k
abbrev nFigsIn : List Str := ["ladder", "text", "other", "ends", "low", "high"]
def spFigsIn (K : PySem.W.Frag) (C : Addr) : Sp := fun vs H Q _ => ∃ (a b : Addr) (A B : Lad) (k : FKey), vs = [.ref a, .str (textK A.us A.d k), .ref b] ∧ A.At K C H a ∧ B.At K C H b ∧ A.Ok ∧ B.Ok ∧ KeyOk A.us k ∧ A.hi k ≤ 1000000000000000000000000000000 ∧
  (A.hi k < A.lo k → ∀ H', Same H H' → Q .non H') ∧ (A.lo k ≤ A.hi k → ∀ (r : Addr) (H' : Hp), Same H H' → SqT K H' r [.str (B.show (A.lo k)), .str (B.show (A.hi k))] → Q (.ref r) H')
section
variable {P : Program} {w : World} {K : PySem.W.Frag} {mg : Str → Option Value} {base : Heap}
end
end My

namespace My
open PySem PySem.Spec PyProof.Rows L2
/-! ### check_texts, checked_ranges -/
abbrev sCTexts : Stmt := top 44
abbrev sCRanges : Stmt := top 53
abbrev nCTexts : List Str := ["ladder", "texts", "place", "text"]
theorem scCTexts : FnScope nCTexts ["ladder", "texts"] (defScope sCTexts) := ⟨rfl, rfl, rfl, by decide +kernel, rfl, by decide +kernel, by decide +kernel⟩
theorem scCRanges : FnScope ["ladder", "texts"] ["ladder", "texts"] (defScope sCRanges) := ⟨rfl, rfl, rfl, by decide +kernel, rfl, by decide +kernel, by decide +kernel⟩
def spCTexts (K : PySem.W.Frag) (C : Addr) : Sp := fun vs H Q _ => ∃ (a t : Addr) (us : List (Str × Int)) (d : Nat) (s : Str) (c : Bool) (l : Int) (ks : List FKey), vs = [.ref a, .ref t] ∧ LadAt K C H a us d s c l ∧ Good us d s l ∧ SqT K H t (ks.map fun k => V.str (textK us d k)) ∧
  ks.length ≤ 12 ∧ (∀ k ∈ ks, KeyOk us k) ∧ ∀ H', Same H H' → Q .non H'
def spCRanges (K : PySem.W.Frag) (C : Addr) : Sp := fun vs H Q _ => ∃ (a t : Addr) (us : List (Str × Int)) (d : Nat) (s : Str) (c : Bool) (l : Int) (ks : List FKey), vs = [.ref a, .ref t] ∧ LadAt K C H a us d s c l ∧ Good us d s l ∧ SqT K H t (ks.map fun k => V.str (textK us d k)) ∧
  ks.length ≤ 12 ∧ (∀ k ∈ ks, KeyOk us k) ∧ ((∃ k ∈ ks, highK us d s c l k < lowK us d s c l k) → ∀ H', Same H H' → Q .non H') ∧
  ((∀ k ∈ ks, lowK us d s c l k ≤ highK us d s c l k) → ∀ (r : Addr) (ps : List Addr) (H' : Hp), Same H H' → H r = none → H' r = some (.lst (ps.map V.ref)) → PySem.Paired (fun p k => SqT K H' p [.int (lowK us d s c l k), .int (highK us d s c l k)]) ps ks → Q (.ref r) H')
section
variable {P : Program} {w : World} {K : PySem.W.Frag} {mg : Str → Option Value} {base : Heap}
theorem ok_ctexts {C : Addr} (d : Dd K mg "check_texts" sCTexts ["ladder", "texts"]) (dF : Dd K mg "parts_of" sPartsOf ["ladder", "text"]) (B : Bt mg) (gR : ∃ t, mg "MOST_ROWS" = some (.int 12 t))
    (GF : FnOk P w K mg base CX0 3 dF.f dF.fd ["ladder", "text"] (spPartsOf K C)) : FnOk P w K mg base CX0 4 d.f d.fd ["ladder", "texts"] (spCTexts K C) := by
  obtain ⟨t1, g1⟩ := gR
  refine d.F.ok scCTexts (fun vs H Q E h => ?_) (fun cdv A outer s H vs Q E hr h => ?_)
  · obtain ⟨_, _, _, _, _, _, _, _, rfl, _⟩ := h
    rfl
  · obtain ⟨a, t, us, dn, z, c, l, ks, rfl, hL, g, hT, hlen, hk, q⟩ := h
    have nd := scCTexts.nd
    refine ⟨_, pss_cons (ps_if (PW.pt (pw_or (pt_not (pt_val (pe_callB call_isi (by rfl) B.isinstance (by decide +kernel) (pa_cons (pv 1) (pa_cons (pe_bltn (v := .ty "tuple") (by rfl) B.tuple (by decide +kernel) rfl) pa_nil)))))
        (pw_or1 (pt_cmpR op_gt (pe_callB call_len_seq (by rfl) B.len PySem.boot_len (pa_cons (pv 1) pa_nil)) (pe_glob (v := .int 12) (by rfl) g1 ⟨_, rfl⟩) (nomark _))))) (pss_one ps_never) pss_nil)
      (pss_one (ps_for PassesOwn.never rfl (pi_enT (by rfl) B.enumerate (pa_cons (pv 1) pa_nil)) (pg_tup rfl (pgs_cons (pg_name (i := 2) nd rfl (.inl rfl)) (pgs_cons (pg_name (i := 3) nd rfl (.inl rfl)) pgs_nil)))
        (pss_one (ps_if (pt_cmp (pc_isN (pe_call GF hr (by rfl) dF.g dF.F.kp dF.b .nil pass0 (pa_cons (pv 0) (pa_cons (pv 3) pa_nil))))) (pss_one ps_never) pss_nil)))), ?_⟩
    refine ⟨_, rfl, _, _, _, _, true, rfl, .ty "tuple", tyx_tup hT, kit_ty (by decide +kernel), _, rfl, iteF ?_⟩
    refine ⟨_, rfl, t, _, rfl, .inr hT, _, _, rfl, rfl, _, rfl, ?_⟩
    rw [decide_eq_false (show ¬ ((((ks.map fun k => V.str (textK us dn k)).length : Nat) : Int) > 12) by rw [List.length_map]; omega)]
    refine iteF ?_
    refine ⟨_, rfl, t, _, rfl, hT, for_enT (K := K) (a := t) (xs := ks.map fun k => V.str (textK us dn k)) (fun i σ H2 => Same H H2 ∧ ∃ v1 v2, σ = [some (.ref a), some (.ref t), v1, v2]) ⟨Same.refl _, none, none, rfl⟩ (fun i σ H2 _ h => same_sqt h.1 hT) ?_ (fun σ H2 h => q H2 h.1)⟩
    rintro i x σ H2 T hi ⟨sm, v1, v2, rfl⟩ nT
    rw [List.getElem?_map] at hi
    obtain ⟨k, hk2, rfl⟩ := Option.map_eq_some_iff.mp hi
    obtain ⟨k1, k2, k3⟩ := hk k (List.mem_of_getElem? hk2)
    have smT : Same H (upd H2 T (.tup [.int (i : Nat), .str (textK us dn k)])) := sm.trans (same_upd nT)
    refine ⟨T, _, rfl, .inl (.inl upd_same), rfl, .int (i : Nat), _, rfl, _, _, rfl, rfl, ?_⟩
    refine ⟨_, rfl, _, rfl, a, us, dn, z, c, l, k.1, k.2, rfl, hL.same smT, g, k1, k2, k3, fun r H3 s3 hr3 => ?_⟩
    exact ⟨_, rfl, iteF ⟨smT.trans s3, _, _, rfl⟩⟩
theorem ok_cranges {C : Addr} (d : Dd K mg "checked_ranges" sCRanges ["ladder", "texts"]) (dC : Dd K mg "check_ladder" sCLad ["ladder"]) (dT : Dd K mg "check_texts" sCTexts ["ladder", "texts"]) (dR : Dd K mg "ranges_of" sRangesOf ["ladder", "texts"])
    (GC : FnOk P w K mg base CX0 2 dC.f dC.fd ["ladder"] (spCLad K C)) (GT : FnOk P w K mg base CX0 4 dT.f dT.fd ["ladder", "texts"] (spCTexts K C)) (GR : FnOk P w K mg base CX0 5 dR.f dR.fd ["ladder", "texts"] (spRangesOf K C)) : FnOk P w K mg base CX0 6 d.f d.fd ["ladder", "texts"] (spCRanges K C) := by
  refine d.F.ok scCRanges (fun vs H Q E h => ?_) (fun cdv A outer s H vs Q E hr h => ?_)
  · obtain ⟨_, _, _, _, _, _, _, _, rfl, _⟩ := h
    rfl
  · obtain ⟨a, t, us, dn, z, c, l, ks, rfl, hL, g, hT, hlen, hk, q0, q1⟩ := h
    have hr1 : Room 2 _ := hr.mono (by decide)
    have hr3 : Room 4 _ := hr.mono (by decide)
    refine ⟨_, pss_cons (ps_expr (pe_call GC hr1 (by rfl) dC.g dC.F.kp dC.b .nil pass0 (pa_cons (pv 0) pa_nil)))
      (pss_cons (ps_expr (pe_call GT hr3 (by rfl) dT.g dT.F.kp dT.b .nil pass0 (pa_cons (pv 0) (pa_cons (pv 1) pa_nil))))
      (pss_one (ps_ret (pe_call GR hr (by rfl) dR.g dR.F.kp dR.b .nil pass0 (pa_cons (pv 0) (pa_cons (pv 1) pa_nil)))))), ?_⟩
    refine ⟨_, rfl, a, us, dn, z, c, l, rfl, hL, _, rfl, _, rfl, a, t, us, dn, z, c, l, ks, rfl, hL, g, hT, hlen, hk, fun H1 s1 => ?_⟩
    refine ⟨_, rfl, _, rfl, a, t, us, dn, z, c, l, ks, rfl, hL.same s1, g, same_sqt s1 hT, by omega, hk, fun y H2 s2 => q0 y H2 (s1.trans s2), fun y r ps H2 s2 n2 h2 hp => q1 y r ps H2 (s1.trans s2) ?_ h2 hp⟩
    cases e : H r with
    | none => rfl
    | some o =>
      rw [s1 _ _ e] at n2
      cases n2
end
end My

namespace My
open PySem PySem.Spec PyProof.Rows L2
/-! ### risen -/
abbrev sRisen : Stmt := top 54
abbrev nRisen : List Str := ["ranges", "ends", "place", "low", "_", "high"]
theorem scRisen : FnScope nRisen ["ranges"] (defScope sRisen) := ⟨rfl, rfl, rfl, by decide +kernel, rfl, by decide +kernel, by decide +kernel⟩
/-- the names of the outer comprehension -/
def scPl : Scope := { kind := .function, names := [(".0", .local), ("place", .local), ("max", .globalImplicit), ("min", .globalImplicit), ("ranges", .cell)], isGenerator := false, isCoroutine := false }
/-- a list of pairs stands at F -/
def PrAt (K : PySem.W.Frag) (H : Hp) (F : Addr) (rs : List (Int × Int)) : Prop := ∃ ps : List Addr, H F = some (.lst (ps.map V.ref)) ∧ PySem.Paired (fun p r => SqT K H p [.int r.1, .int r.2]) ps rs
theorem PrAt.same {K : PySem.W.Frag} {H H' : Hp} {F : Addr} {rs : List (Int × Int)} (k : Same H H') (h : PrAt K H F rs) : PrAt K H' F rs := by
  obtain ⟨ps, h1, h2⟩ := h
  exact ⟨ps, k _ _ h1, paired_imp (fun _ _ => same_sqt k) h2⟩
def MaxOf (ns : List Int) (m : Int) : Prop := m ∈ ns ∧ ∀ x ∈ ns, x ≤ m
def MinOf (ns : List Int) (m : Int) : Prop := m ∈ ns ∧ ∀ x ∈ ns, m ≤ x
/-- the ends that are left if the numbers rise -/
def Risen (rs es : List (Int × Int)) : Prop := es.length = rs.length ∧ ∀ i e, es[i]? = some e → MaxOf ((rs.take (i + 1)).map (·.1)) e.1 ∧ MinOf ((rs.drop i).map (·.2)) e.2
def spRisen (K : PySem.W.Frag) : Sp := fun vs H Q _ => ∃ (F : Addr) (rs : List (Int × Int)), vs = [.ref F] ∧ PrAt K H F rs ∧ rs.length ≤ 12 ∧
  ∀ es, Risen rs es → ((∃ e ∈ es, e.2 < e.1) → ∀ H', Same H H' → Q .non H') ∧ ((∀ e ∈ es, e.1 ≤ e.2) → ∀ (r : Addr) (ps : List Addr) (H' : Hp), Same H H' → SqT K H' r (ps.map V.ref) → PySem.Paired (fun p e => SqT K H' p [.int e.1, .int e.2]) ps es → Q (.ref r) H')
theorem take_snoc {α β : Type} (f : α → β) {xs : List α} {j : Nat} {y : α} (h : xs[j]? = some y) : (xs.take (j + 1)).map f = (xs.take j).map f ++ [f y] := by
  rw [List.take_add_one, h, List.map_append]
  rfl
theorem cut_dropN {xs : List V} (i : Nat) (hi : i ≤ xs.length) : cutV xs (some (i : Int)) none = xs.drop i := by
  unfold cutV
  rw [HT.sIx_none, HT.sIx_nat, Nat.min_eq_left hi]
  exact List.take_of_length_le (by rw [List.length_drop]; exact Nat.le_refl _)
section
variable {P : Program} {w : World} {K : PySem.W.Frag} {mg : Str → Option Value} {base : Heap}
theorem ok_risen (d : Dd K mg "risen" sRisen ["ranges"]) (B : Bt mg) (bAny : mg "any" = none) : FnOk P w K mg base CX0 2 d.f d.fd ["ranges"] (spRisen K) := by
  refine d.F.ok scRisen (fun vs H Q E h => ?_) (fun cdv A outer s H vs Q E hr h => ?_)
  · obtain ⟨_, _, rfl, _⟩ := h
    rfl
  · obtain ⟨F, rs, rfl, hF, hlen, q⟩ := h
    have nd := scRisen.nd
    refine ⟨_, pss_cons (ps_setLc (i := 1) (own := [("place", 2)]) (g := gName 2) (tt := tYes) rfl nd rfl rfl (by rfl) (pi_range1 rfl B.range (pa_cons (pe_callB call_len_seq (by rfl) B.len PySem.boot_len (pa_cons (pv 0) pa_nil)) pa_nil))
        (blkOk_by (own := [("place", 2)]) (N := nRisen) (sc := defScope sRisen) (by decide +kernel)) (fun _ _ _ _ _ => pg_name (i := 2) nd rfl (Or.inl rfl)) (fun _ _ _ _ _ => pts_nil)
        (fun _ _ _ _ _ => pe_tup (pa_cons (pe_callB (r := rMax K) (cr_max rfl) (by rfl) B.max (by decide +kernel) (pa_cons
            (pe_lc (wi := iList K (tSl (rSlL K) (tVar 0) tNoPart (tPart (tOp (rI0 fun i j => .int (i + j)) (tVar 2) (tC (.int 1)))))) (own := [("low", 3), ("_", 4)]) (g := gTup K 2 (gCons (gName 3) (gCons (gName 4) gNil))) (tt := tYes) rfl nd
              (pi_list (pe_slice sl_list (pv 0) po_none (po_some (pe_op op_add (pv 2) pe_int)))) (by show BlkOk nRisen scPl _ _; exact blkOk_by (by decide +kernel))
              (fun _ _ _ _ _ => pg_tup rfl (pgs_cons (pg_name (i := 3) nd rfl (Or.inl rfl)) (pgs_cons (pg_name (i := 4) nd rfl (Or.inl rfl)) pgs_nil))) (fun _ _ _ _ _ => pts_nil) (fun _ _ _ _ _ => pv 3)) pa_nil))
          (pa_cons (pe_callB (r := rMin K) (cr_min rfl) (by rfl) B.min (by decide +kernel) (pa_cons
            (pe_lc (wi := iList K (tSl (rSlL K) (tVar 0) (tPart (tVar 2)) tNoPart)) (own := [("_", 4), ("high", 5)]) (g := gTup K 2 (gCons (gName 4) (gCons (gName 5) gNil))) (tt := tYes) rfl nd
              (pi_list (pe_slice sl_list (pv 0) (po_some (pv 2)) po_none)) (by show BlkOk nRisen scPl _ _; exact blkOk_by (by decide +kernel))
              (fun _ _ _ _ _ => pg_tup rfl (pgs_cons (pg_name (i := 4) nd rfl (Or.inl rfl)) (pgs_cons (pg_name (i := 5) nd rfl (Or.inl rfl)) pgs_nil))) (fun _ _ _ _ _ => pts_nil) (fun _ _ _ _ _ => pv 5)) pa_nil)) pa_nil))))
      (pss_cons (ps_if (pt_val (pe_callB (cr_any rfl) (by rfl) bAny (by decide +kernel) (pa_cons (pe_lc (own := [("low", 3), ("high", 5)]) (g := gTup K 2 (gCons (gName 3) (gCons (gName 5) gNil))) (tt := tYes) rfl nd (pi_list (pv 1))
          (blkOk_by (own := [("low", 3), ("high", 5)]) (N := nRisen) (sc := defScope sRisen) (by decide +kernel)) (fun _ _ _ _ _ => pg_tup rfl (pgs_cons (pg_name (i := 3) nd rfl (Or.inl rfl)) (pgs_cons (pg_name (i := 5) nd rfl (Or.inl rfl)) pgs_nil))) (fun _ _ _ _ _ => pts_nil)
          (fun _ _ _ _ _ => pe_cmpR op_gt (pv 3) (pv 5) (nomark _))) pa_nil))) (pss_one (ps_ret pe_non)) pss_nil)
      (pss_one (ps_ret (pe_tupleOf (by rfl) B.tuple (pv 1))))), ?_⟩
    obtain ⟨ps, hFl, hps⟩ := hF
    have el : ps.length = rs.length := hps.length
    -- the ends
    refine ⟨_, rfl, F, _, rfl, .inl (SqL.of hFl), _, rfl, ?_, ?_, fun D nD => ?_⟩
    · rw [List.length_map]; omega
    · rw [List.length_map]; omega
    rw [List.length_map, el, show ((rs.length : Nat) : Int).toNat = rs.length by omega]
    refine lc_range (n := rs.length) (fun i H' => Same H H' ∧ ∃ (qs : List Addr) (es : List (Int × Int)), H' D = some (.lst (qs.map V.ref)) ∧ PySem.Paired (fun p e => SqT K H' p [.int e.1, .int e.2]) qs es ∧ es.length = i ∧ ∀ j e, es[j]? = some e → MaxOf ((rs.take (j + 1)).map (·.1)) e.1 ∧ MinOf ((rs.drop j).map (·.2)) e.2) ⟨same_upd nD, [], [], upd_same, .nil, rfl, fun j e h => by simp at h⟩ ?_ ?_
    · rintro i H1 hi ⟨s1, qs, es, hD, hqs, hel, hes⟩
      have hF1 := s1 _ _ hFl
      have hi1 : (0 : Int) + (i : Int) + 1 = ((i + 1 : Nat) : Int) := by omega
      have hi0 : (0 : Int) + (i : Int) = ((i : Nat) : Int) := by omega
      refine ⟨rfl, _, rfl, _, rfl, _, _, rfl, rfl, _, rfl, F, _, rfl, SqL.of hF1, fun p1 n1 => ?_⟩
      rw [hi1, cut_take (i + 1) (by rw [List.length_map]; omega), ← List.map_take]
      have t1 := same_upd n1 (o := .lst ((ps.take (i + 1)).map V.ref))
      refine ⟨p1, rfl, ⟨_, SqL.of upd_same⟩, fun D1 nD1 => ?_⟩
      have hp1 : (upd H1 p1 (.lst ((ps.take (i + 1)).map V.ref))) p1 = some (.lst ((ps.take (i + 1)).map V.ref)) := upd_same
      have sA := s1.trans t1
      have tD : Same H1 (upd H1 p1 (.lst ((ps.take (i + 1)).map V.ref))) := t1
      generalize upd H1 p1 (.lst ((ps.take (i + 1)).map V.ref)) = Ha at nD1 hp1 sA tD ⊢
      refine lc_list (K := K) (a := p1) (xs := (ps.take (i + 1)).map V.ref) (fun j H' => Same Ha H' ∧ H' D1 = some (.lst ((((rs.take (i + 1)).map (·.1)).take j).map V.int))) ⟨same_upd nD1, upd_same⟩ (fun j H' _ h => SqL.of (h.1 _ _ hp1)) ?_ ?_
      · rintro j x H2 hj ⟨sm, hD1⟩
        obtain ⟨pj, hpj, rfl⟩ := of_get_ref hj
        obtain ⟨y, hy, hr3⟩ := paired_fst (paired_take (i + 1) hps) hpj
        have hjl := (List.getElem?_eq_some_iff.mp hpj).1
        rw [List.length_take] at hjl
        refine ⟨pj, _, rfl, same_sqt (sA.trans sm) hr3, rfl, _, _, rfl, _, _, rfl, rfl, ?_⟩
        refine ⟨rfl, _, rfl, _, hD1, ?_, fun b o e => ?_, ?_⟩
        · rw [List.length_map, List.length_take]
          exact Nat.lt_of_le_of_lt (Nat.min_le_left _ _) (Nat.lt_of_lt_of_le (show j < 13 by omega) (by decide))
        · rw [upd_ne (ne_of_none e nD1)]
          exact sm _ _ e
        · rw [upd_same, take_snoc V.int (y := y.1) (by rw [List.getElem?_map, hy]; rfl)]
      rintro H2 ⟨sm2, hD1⟩
      have et : ((rs.take (i + 1)).map (·.1)).take ((ps.take (i + 1)).map V.ref).length = (rs.take (i + 1)).map (·.1) := List.take_of_length_le (by rw [List.length_map, List.length_map, List.length_take, List.length_take, el]; exact Nat.le_refl _)
      rw [et] at hD1
      refine ⟨D1, (rs.take (i + 1)).map (·.1), rfl, SqL.of hD1, ?_, fun m1 hm1 hm2 => ?_⟩
      · rw [List.length_map, List.length_take]
        omega
      have s2 := sA.trans sm2
      have hF2 := s2 _ _ hFl
      refine ⟨_, rfl, _, rfl, _, rfl, F, _, rfl, SqL.of hF2, fun p2 n2 => ?_⟩
      rw [hi0, cut_dropN i (by rw [List.length_map]; omega), ← List.map_drop]
      have t2 := same_upd n2 (o := .lst ((ps.drop i).map V.ref))
      refine ⟨p2, rfl, ⟨_, SqL.of upd_same⟩, fun D2 nD2 => ?_⟩
      have hp2 : (upd H2 p2 (.lst ((ps.drop i).map V.ref))) p2 = some (.lst ((ps.drop i).map V.ref)) := upd_same
      have sB := s2.trans t2
      have sAB : Same H1 (upd H2 p2 (.lst ((ps.drop i).map V.ref))) := (tD.trans sm2).trans t2
      generalize upd H2 p2 (.lst ((ps.drop i).map V.ref)) = Hb at nD2 hp2 sB sAB ⊢
      refine lc_list (K := K) (a := p2) (xs := (ps.drop i).map V.ref) (fun j H' => Same Hb H' ∧ H' D2 = some (.lst ((((rs.drop i).map (·.2)).take j).map V.int))) ⟨same_upd nD2, upd_same⟩ (fun j H' _ h => SqL.of (h.1 _ _ hp2)) ?_ ?_
      · rintro j x H3 hj ⟨sm, hD2⟩
        obtain ⟨pj, hpj, rfl⟩ := of_get_ref hj
        obtain ⟨y, hy, hr3⟩ := paired_fst (paired_drop i hps) hpj
        have hjl := (List.getElem?_eq_some_iff.mp hpj).1
        rw [List.length_drop] at hjl
        refine ⟨pj, _, rfl, same_sqt (sB.trans sm) hr3, rfl, _, _, rfl, _, _, rfl, rfl, ?_⟩
        refine ⟨rfl, _, rfl, _, hD2, ?_, fun b o e => ?_, ?_⟩
        · rw [List.length_map, List.length_take]
          exact Nat.lt_of_le_of_lt (Nat.min_le_left _ _) (Nat.lt_of_lt_of_le (show j < 13 by omega) (by decide))
        · rw [upd_ne (ne_of_none e nD2)]
          exact sm _ _ e
        · rw [upd_same, take_snoc V.int (y := y.2) (by rw [List.getElem?_map, hy]; rfl)]
      rintro H3 ⟨sm3, hD2⟩
      have et2 : ((rs.drop i).map (·.2)).take ((ps.drop i).map V.ref).length = (rs.drop i).map (·.2) := List.take_of_length_le (by rw [List.length_map, List.length_map, List.length_drop, List.length_drop, el]; exact Nat.le_refl _)
      rw [et2] at hD2
      refine ⟨D2, (rs.drop i).map (·.2), rfl, SqL.of hD2, ?_, fun m2 hm3 hm4 => ?_⟩
      · rw [List.length_map, List.length_drop]
        omega
      refine ⟨(by show 2 ≤ sizeLine; decide), fun t nt => ?_⟩
      have s13 : Same H1 H3 := sAB.trans sm3
      have tt := same_upd nt (o := .tup [.int m1, .int m2])
      have hD3 := tt _ _ (s13 _ _ hD)
      refine ⟨_, hD3, ?_, fun b o e => ?_, qs ++ [t], es ++ [(m1, m2)], ?_, ?_, ?_, ?_⟩
      · rw [List.length_map, hqs.length, hel]
        exact Nat.lt_of_lt_of_le (show i < 13 by omega) (by decide)
      · rw [upd_ne (ne_of_none e nD)]
        exact tt _ _ (s13 _ _ (s1 _ _ e))
      · rw [upd_same, List.map_append]
        rfl
      · exact PySem.Paired.snoc (paired_imp (fun _ _ h => (But.upd D _ _).sqt hD3 rfl (same_sqt (s13.trans tt) h)) hqs) ((But.upd D _ _).sqt hD3 rfl (SqT.of upd_same))
      · rw [List.length_append, hel]
        rfl
      · intro j e he
        rcases Nat.lt_or_ge j es.length with w | w
        · rw [List.getElem?_append_left w] at he
          exact hes j e he
        · rw [List.getElem?_append_right w] at he
          have hj : j = es.length := by
            rcases Nat.lt_or_ge (j - es.length) 1 with v | v
            · omega
            · rw [List.getElem?_eq_none (by exact v)] at he
              cases he
          subst hj
          rw [Nat.sub_self] at he
          cases he
          rw [hel]
          exact ⟨⟨hm1, hm2⟩, hm3, hm4⟩
    · rintro H1 ⟨s1, qs, es, hD, hqs, hel, hes⟩
      obtain ⟨q0, q1⟩ := q es ⟨hel, hes⟩
      have hlq : qs.length = es.length := hqs.length
      refine ⟨_, rfl, D, rfl, ⟨_, SqL.of hD⟩, fun D3 nD3 => ?_⟩
      refine lc_list (K := K) (a := D) (xs := qs.map V.ref) (fun j H' => Same H1 H' ∧ H' D3 = some (.lst (((es.take j).map fun e => decide (e.1 > e.2)).map V.bl))) ⟨same_upd nD3, upd_same⟩ (fun j H' _ h => SqL.of (h.1 _ _ hD)) ?_ ?_
      · rintro j x H2 hj ⟨sm, hD3⟩
        obtain ⟨pj, hpj, rfl⟩ := of_get_ref hj
        obtain ⟨y, hy, hr3⟩ := paired_fst hqs hpj
        have hjl := (List.getElem?_eq_some_iff.mp hy).1
        refine ⟨pj, _, rfl, same_sqt sm hr3, rfl, _, _, rfl, _, _, rfl, rfl, ?_⟩
        refine ⟨rfl, _, rfl, _, rfl, _, _, rfl, rfl, _, hD3, ?_, fun b o e => ?_, ?_⟩
        · rw [List.length_map, List.length_map, List.length_take]
          exact Nat.lt_of_le_of_lt (Nat.min_le_left _ _) (Nat.lt_of_lt_of_le (show j < 13 by omega) (by decide))
        · rw [upd_ne (ne_of_none e nD3)]
          exact sm _ _ e
        · rw [upd_same, List.take_add_one, hy, List.map_append, List.map_append]
          rfl
      rintro H2 ⟨s2, hD3⟩
      rw [List.length_map, hlq, List.take_length] at hD3
      refine ⟨D3, _, rfl, SqL.of hD3, _, rfl, ite2 (fun e => ?_) (fun e => ?_)⟩
      · rw [List.any_map, List.any_eq_true] at e
        obtain ⟨y, hy, hlt⟩ := e
        exact q0 ⟨y, hy, of_decide_eq_true hlt⟩ H2 (s1.trans s2)
      · have hall : ∀ e ∈ es, e.1 ≤ e.2 := fun y hy => by
          refine Int.not_lt.mp fun w => e ?_
          rw [List.any_map, List.any_eq_true]
          exact ⟨y, hy, decide_eq_true w⟩
        refine ⟨_, rfl, .inl ⟨D, _, rfl, SqL.of (s2 _ _ hD), fun t nt => ?_⟩⟩
        have tt := same_upd nt (o := .tup (qs.map V.ref))
        exact q1 hall t qs _ ((s1.trans s2).trans tt) (SqT.of upd_same) (paired_imp (fun _ _ => same_sqt (s2.trans tt)) hqs)
end
end My

namespace My
open PySem PySem.Spec PyProof.Rows L2
/-! ### rising, least_rising, always_rise, first_fall -/
abbrev sRising : Stmt := top 49
abbrev sLeastR : Stmt := top 50
theorem scRising : FnScope ["ladder", "texts", "ranges"] ["ladder", "texts"] (defScope sRising) := ⟨rfl, rfl, rfl, by decide +kernel, rfl, by decide +kernel, by decide +kernel⟩
theorem scLeastR : FnScope ["ladder", "texts", "ranges", "low", "_"] ["ladder", "texts"] (defScope sLeastR) := ⟨rfl, rfl, rfl, by decide +kernel, rfl, by decide +kernel, by decide +kernel⟩
/-- the ranges of some figures -/
def prsOf (us : List (Str × Int)) (d : Nat) (s : Str) (c : Bool) (l : Int) (ks : List FKey) : List (Int × Int) := ks.map fun k => (lowK us d s c l k, highK us d s c l k)
theorem prs_paired {K : PySem.W.Frag} {H : Hp} {us : List (Str × Int)} {d : Nat} {s : Str} {c : Bool} {l : Int} : ∀ {ps : List Addr} {ks : List FKey}, PySem.Paired (fun p k => SqT K H p [.int (lowK us d s c l k), .int (highK us d s c l k)]) ps ks → PySem.Paired (fun p (r : Int × Int) => SqT K H p [.int r.1, .int r.2]) ps (prsOf us d s c l ks)
  | _, _, .nil => .nil
  | _, _, .cons r t => .cons r (prs_paired t)
def spRising (K : PySem.W.Frag) (C : Addr) : Sp := fun vs H Q _ => ∃ (a t : Addr) (us : List (Str × Int)) (d : Nat) (s : Str) (c : Bool) (l : Int) (ks : List FKey), vs = [.ref a, .ref t] ∧ LadAt K C H a us d s c l ∧ Good us d s l ∧ SqT K H t (ks.map fun k => V.str (textK us d k)) ∧
  ks.length ≤ 12 ∧ (∀ k ∈ ks, KeyOk us k) ∧ ((∃ k ∈ ks, highK us d s c l k < lowK us d s c l k) → ∀ H', Same H H' → Q .non H') ∧
  ((∀ k ∈ ks, lowK us d s c l k ≤ highK us d s c l k) → ∀ es, Risen (prsOf us d s c l ks) es → ((∃ e ∈ es, e.2 < e.1) → ∀ H', Same H H' → Q .non H') ∧
    ((∀ e ∈ es, e.1 ≤ e.2) → ∀ (r : Addr) (ps : List Addr) (H' : Hp), Same H H' → SqT K H' r (ps.map V.ref) → PySem.Paired (fun p e => SqT K H' p [.int e.1, .int e.2]) ps es → Q (.ref r) H'))
def spLeastR (K : PySem.W.Frag) (C : Addr) : Sp := fun vs H Q _ => ∃ (a t : Addr) (us : List (Str × Int)) (d : Nat) (s : Str) (c : Bool) (l : Int) (ks : List FKey), vs = [.ref a, .ref t] ∧ LadAt K C H a us d s c l ∧ Good us d s l ∧ SqT K H t (ks.map fun k => V.str (textK us d k)) ∧
  ks.length ≤ 12 ∧ (∀ k ∈ ks, KeyOk us k) ∧ ((∃ k ∈ ks, highK us d s c l k < lowK us d s c l k) → ∀ H', Same H H' → Q .non H') ∧
  ((∀ k ∈ ks, lowK us d s c l k ≤ highK us d s c l k) → ∀ es, Risen (prsOf us d s c l ks) es → ((∃ e ∈ es, e.2 < e.1) → ∀ H', Same H H' → Q .non H') ∧
    ((∀ e ∈ es, e.1 ≤ e.2) → ∀ (r : Addr) (H' : Hp), Same H H' → SqT K H' r ((es.map (·.1)).map V.int) → Q (.ref r) H'))
section
variable {P : Program} {w : World} {K : PySem.W.Frag} {mg : Str → Option Value} {base : Heap}
theorem ok_rising {C : Addr} (d : Dd K mg "rising" sRising ["ladder", "texts"]) (dC : Dd K mg "checked_ranges" sCRanges ["ladder", "texts"]) (dR : Dd K mg "risen" sRisen ["ranges"])
    (GC : FnOk P w K mg base CX0 6 dC.f dC.fd ["ladder", "texts"] (spCRanges K C)) (GR : FnOk P w K mg base CX0 2 dR.f dR.fd ["ranges"] (spRisen K)) : FnOk P w K mg base CX0 7 d.f d.fd ["ladder", "texts"] (spRising K C) := by
  refine d.F.ok scRising (fun vs H Q E h => ?_) (fun cdv A outer s H vs Q E hr h => ?_)
  · obtain ⟨_, _, _, _, _, _, _, _, rfl, _⟩ := h
    rfl
  · obtain ⟨a, t, us, dn, z, c, l, ks, rfl, hL, g, hT, hlen, hk, q0, q1⟩ := h
    have hr1 : Room 2 _ := hr.mono (by decide)
    have nd := scRising.nd
    refine ⟨_, pss_cons (ps_set (i := 2) nd rfl (.inl rfl) (pe_call GC hr (by rfl) dC.g dC.F.kp dC.b .nil pass0 (pa_cons (pv 0) (pa_cons (pv 1) pa_nil))))
      (pss_cons (ps_if (pt_cmp (pc_isN (pv 2))) (pss_one (ps_ret pe_non)) pss_nil)
      (pss_one (ps_ret (pe_call GR hr1 (by rfl) dR.g dR.F.kp dR.b .nil pass0 (pa_cons (pv 2) pa_nil))))), ?_⟩
    refine ⟨_, rfl, _, rfl, a, t, us, dn, z, c, l, ks, rfl, hL, g, hT, hlen, hk, fun y H1 s1 => ?_, fun y F ps H1 s1 _ hF hps => ?_⟩
    · exact ⟨_, rfl, _, rfl, iteT (q0 y H1 s1)⟩
    · refine ⟨_, rfl, _, rfl, iteF ?_⟩
      refine ⟨_, rfl, F, prsOf us dn z c l ks, rfl, ⟨ps, hF, prs_paired hps⟩, by unfold prsOf; rw [List.length_map]; exact hlen, fun es hes => ?_⟩
      obtain ⟨r0, r1⟩ := q1 y es hes
      exact ⟨fun y H2 s2 => r0 y H2 (s1.trans s2), fun y r qs H2 s2 h1 h2 => r1 y r qs H2 (s1.trans s2) h1 h2⟩
theorem ok_leastr {C : Addr} (d : Dd K mg "least_rising" sLeastR ["ladder", "texts"]) (dR : Dd K mg "rising" sRising ["ladder", "texts"]) (B : Bt mg)
    (GR : FnOk P w K mg base CX0 7 dR.f dR.fd ["ladder", "texts"] (spRising K C)) : FnOk P w K mg base CX0 8 d.f d.fd ["ladder", "texts"] (spLeastR K C) := by
  refine d.F.ok scLeastR (fun vs H Q E h => ?_) (fun cdv A outer s H vs Q E hr h => ?_)
  · obtain ⟨_, _, _, _, _, _, _, _, rfl, _⟩ := h
    rfl
  · obtain ⟨a, t, us, dn, z, c, l, ks, rfl, hL, g, hT, hlen, hk, q0, q1⟩ := h
    have nd := scLeastR.nd
    refine ⟨_, pss_cons (ps_set (i := 2) nd rfl (.inl rfl) (pe_call GR hr (by rfl) dR.g dR.F.kp dR.b .nil pass0 (pa_cons (pv 0) (pa_cons (pv 1) pa_nil))))
      (pss_cons (ps_if (pt_cmp (pc_isN (pv 2))) (pss_one (ps_ret pe_non)) pss_nil)
      (pss_one (ps_ret (pe_tupleOf (by rfl) B.tuple (pe_lc (own := [("low", 3), ("_", 4)]) (g := gTup K 2 (gCons (gName 3) (gCons (gName 4) gNil))) (tt := tYes) rfl nd (pi_tup (pv 2))
          (blkOk_by (own := [("low", 3), ("_", 4)]) (N := ["ladder", "texts", "ranges", "low", "_"]) (sc := defScope sLeastR) (by decide +kernel)) (fun _ _ _ _ _ => pg_tup rfl (pgs_cons (pg_name (i := 3) nd rfl (Or.inl rfl)) (pgs_cons (pg_name (i := 4) nd rfl (Or.inl rfl)) pgs_nil))) (fun _ _ _ _ _ => pts_nil)
          (fun _ _ _ _ _ => pv 3)))))), ?_⟩
    refine ⟨_, rfl, _, rfl, a, t, us, dn, z, c, l, ks, rfl, hL, g, hT, hlen, hk, fun y H1 s1 => ?_, fun y es hes => ⟨fun w H1 s1 => ?_, fun w r ps H1 s1 h1 h2 => ?_⟩⟩
    · exact ⟨_, rfl, _, rfl, iteT (q0 y H1 s1)⟩
    · exact ⟨_, rfl, _, rfl, iteT ((q1 y es hes).1 w H1 s1)⟩
    · refine ⟨_, rfl, _, rfl, iteF ?_⟩
      have hel : es.length ≤ 12 := by
        have := hes.1
        unfold prsOf at this
        rw [List.length_map] at this
        omega
      refine ⟨_, rfl, r, rfl, ⟨_, h1⟩, fun D nD => ?_⟩
      refine lc_tup (K := K) (a := r) (xs := ps.map V.ref) (fun j H' => Same H1 H' ∧ H' D = some (.lst (((es.take j).map (·.1)).map V.int))) ⟨same_upd nD, upd_same⟩ (fun j H' _ h => same_sqt h.1 h1) ?_ ?_
      · rintro j x H2 hj ⟨sm, hD⟩
        obtain ⟨pj, hpj, rfl⟩ := of_get_ref hj
        obtain ⟨y, hy, hr3⟩ := paired_fst h2 hpj
        have hjl := (List.getElem?_eq_some_iff.mp hy).1
        refine ⟨pj, _, rfl, same_sqt sm hr3, rfl, _, _, rfl, _, _, rfl, rfl, ?_⟩
        refine ⟨rfl, _, rfl, _, hD, ?_, fun b o e => ?_, ?_⟩
        · rw [List.length_map, List.length_map, List.length_take]
          exact Nat.lt_of_le_of_lt (Nat.min_le_left _ _) (Nat.lt_of_lt_of_le (show j < 13 by omega) (by decide))
        · rw [upd_ne (ne_of_none e nD)]
          exact sm _ _ e
        · rw [upd_same, List.take_add_one, hy, List.map_append, List.map_append]
          rfl
      · rintro H2 ⟨sm, hD⟩
        rw [List.length_map, h2.length, List.take_length] at hD
        refine .inl ⟨D, _, rfl, SqL.of hD, fun u nu => ?_⟩
        exact (q1 y es hes).2 w u _ ((s1.trans sm).trans (same_upd nu)) (SqT.of upd_same)
end
end My

namespace My
open PySem PySem.Spec PyProof.Rows L2
/-! ### _law_some_rows -/
abbrev nSomeRows : List Str := ["_law_spring_here", "_law_told_here", "_law_most_here", "_law_far", "_law_top_here", "_law_found", "_law_k", "_law_way", "_law_at"]
theorem strs_shaped : ∀ {xs : List Str}, (∀ x ∈ xs, PyData.strOk x = true) → SeqAt.shaped (.list (xs.map PyData.str)) = true := by
  have key : ∀ xs : List Str, (∀ x ∈ xs, PyData.strOk x = true) → PyData.canLayAll0 (xs.map PyData.str) = true ∧ PyData.depthAll (xs.map PyData.str) ≤ 1 := by
    intro xs
    induction xs with
    | nil => intro _; exact ⟨by simp [PyData.canLayAll0], by simp [PyData.depthAll]⟩
    | cons x r ih =>
      intro h
      obtain ⟨i1, i2⟩ := ih fun y hy => h y (List.mem_cons_of_mem _ hy)
      have hx := h x List.mem_cons_self
      constructor
      · rw [List.map_cons]
        simp [PyData.canLayAll0, PyData.canLay0, hx, i1]
      · rw [List.map_cons]
        simp [PyData.depthAll, PyData.depth]
        omega
  intro xs h
  obtain ⟨i1, i2⟩ := key xs h
  unfold SeqAt.shaped
  simp [PyData.canLay0, PyData.depth, i1]
  omega
theorem strs_dp {K : PySem.W.Frag} {H : Hp} : ∀ xs : List Str, DpAll K H (xs.map V.str) (xs.map PyData.str)
  | [] => .nil
  | x :: r => .cons (.str x) (strs_dp r)
theorem strs_eqv0 (xs : List Str) : PyData.eqv (.list (xs.map PyData.str)) (.list []) = decide (xs = []) := by
  cases xs with
  | nil => simp [PyData.eqv, PyData.eqvAll]
  | cons x r => simp [PyData.eqv, PyData.eqvAll]
/-- a row of the law: a figure, its range not too far -/
def RowKey (us : List (Str × Int)) (d : Nat) (s : Str) (c : Bool) (l : Int) (k : FKey) : Prop := KeyOk us k ∧ highK us d s c l k ≤ 1000000000000000000000000
def spSomeRows (K : PySem.W.Frag) : Sp := fun vs H Q _ => ∃ (a r : Addr) (us : List (Str × Int)) (d : Nat) (s : Str) (c : Bool) (l : Int) (most far : Int), vs = [.ref a, .ref r, .int most, .int far] ∧ Spr H a ∧ ToldAt K H r us d s c l ∧ Good us d s l ∧ 0 ≤ most ∧ most ≤ 12 ∧ 0 < far ∧ far ≤ 1000000000000000000 ∧
  ∀ (ks : List FKey) (t : Addr) (H' : Hp), But a H H' → Spr H' a → SqT K H' t (ks.map fun k => V.str (textK us d k)) → (ks.length : Int) ≤ most → (∀ k ∈ ks, RowKey us d s c l k) → Q (.ref t) H'
theorem row_of {us : List (Str × Int)} {d : Nat} {s : Str} {c : Bool} {l n : Int} (g : Good us d s l) (n0 : 0 ≤ n) (n1 : n ≤ 2000000000000000000) : RowKey us d s c l (placedM us d s c l n) ∧ shown us d s c l n = textK us d (placedM us d s c l n) := by
  obtain ⟨k1, k2, k3⟩ := placedM_ok (c := c) g n0
  have hin := in_range (c := c) g n0 (p := (placedM us d s c l n).1) (m := (placedM us d s c l n).2) rfl
  have hwid := ends_width (c := c) g k1 (placedM us d s c l n).2
  refine ⟨⟨⟨k1, k2, by omega⟩, ?_⟩, rfl⟩
  show highM _ _ _ _ _ _ _ ≤ _
  omega
section
variable {P : Program} {w : World} {K : PySem.W.Frag} {mg : Str → Option Value} {base : Heap}
end
end My

namespace My
open PySem PySem.Spec PyProof.Rows L2
/-! ### always_rise, first_fall, _law_due -/
def adjs (rs : List (Int × Int)) : List ((Int × Int) × (Int × Int)) := rs.zip (rs.drop 1)
def upB (rs : List (Int × Int)) : List Bool := (adjs rs).map fun p => decide (p.1.2 ≤ p.2.1)
def dnB (rs : List (Int × Int)) : List Bool := (adjs rs).map fun p => decide (p.2.2 < p.1.1)
def alw (rs : List (Int × Int)) : Bool := (upB rs).all id
def fstT (bs : List Bool) : Int := match bs.findIdx? id with
  | some j => (j : Int) + 1
  | none => -1
theorem adj_len (rs : List (Int × Int)) : (adjs rs).length = rs.length - 1 := by
  unfold adjs
  rw [List.length_zip, List.length_drop]
  omega
theorem adj_at {rs : List (Int × Int)} {i : Nat} {x y : Int × Int} (hx : rs[i]? = some x) (hy : rs[i + 1]? = some y) : (adjs rs)[i]? = some (x, y) := by
  unfold adjs
  rw [List.getElem?_zip_eq_some]
  exact ⟨hx, by rw [List.getElem?_drop, Nat.add_comm]; exact hy⟩
theorem upB_at {rs : List (Int × Int)} {i : Nat} {x y : Int × Int} (hx : rs[i]? = some x) (hy : rs[i + 1]? = some y) : (upB rs)[i]? = some (decide (x.2 ≤ y.1)) := by
  unfold upB
  rw [List.getElem?_map, adj_at hx hy]
  rfl
theorem dnB_at {rs : List (Int × Int)} {i : Nat} {x y : Int × Int} (hx : rs[i]? = some x) (hy : rs[i + 1]? = some y) : (dnB rs)[i]? = some (decide (y.2 < x.1)) := by
  unfold dnB
  rw [List.getElem?_map, adj_at hx hy]
  rfl
theorem take_all {bs : List Bool} {i : Nat} {b : Bool} (h : bs[i]? = some b) : (bs.take (i + 1)).all id = ((bs.take i).all id && b) := by
  rw [List.take_add_one, h, List.all_append]
  simp
theorem fst_none {bs : List Bool} (h : bs.findIdx? id = none) : fstT bs = -1 := by
  unfold fstT
  rw [h]
theorem take_find {bs : List Bool} {i : Nat} {b : Bool} (h : bs[i]? = some b) : (bs.take (i + 1)).findIdx? id = ((bs.take i).findIdx? id).or (if b then some i else none) := by
  have hl : (bs.take i).length = i := by
    rw [List.length_take]
    have := (List.getElem?_eq_some_iff.mp h).1
    omega
  rw [List.take_add_one, h]
  show (bs.take i ++ [b]).findIdx? id = _
  rw [List.findIdx?_append]
  congr 1
  cases b <;> simp [List.findIdx?_cons, hl]
abbrev sAlwaysR : Stmt := top 51
abbrev sFirstFall : Stmt := top 52
theorem scAlwaysR : FnScope ["ladder", "texts", "ranges", "ends", "after"] ["ladder", "texts"] (defScope sAlwaysR) := ⟨rfl, rfl, rfl, by decide +kernel, rfl, by decide +kernel, by decide +kernel⟩
theorem scFirstFall : FnScope ["ladder", "texts", "ranges", "place"] ["ladder", "texts"] (defScope sFirstFall) := ⟨rfl, rfl, rfl, by decide +kernel, rfl, by decide +kernel, by decide +kernel⟩
abbrev nLDue : List Str := ["_law_ranges_here", "_law_always_here", "_law_fall", "_law_k", "_law_before", "_law_after"]
def spAlwaysR (K : PySem.W.Frag) (C : Addr) : Sp := fun vs H Q _ => ∃ (a t : Addr) (us : List (Str × Int)) (d : Nat) (s : Str) (c : Bool) (l : Int) (ks : List FKey), vs = [.ref a, .ref t] ∧ LadAt K C H a us d s c l ∧ Good us d s l ∧ SqT K H t (ks.map fun k => V.str (textK us d k)) ∧
  ks.length ≤ 12 ∧ (∀ k ∈ ks, KeyOk us k) ∧ ((∃ k ∈ ks, highK us d s c l k < lowK us d s c l k) → ∀ H', Same H H' → Q .non H') ∧ ((∀ k ∈ ks, lowK us d s c l k ≤ highK us d s c l k) → ∀ H', Same H H' → Q (.bl (alw (prsOf us d s c l ks))) H')
def spFirstFall (K : PySem.W.Frag) (C : Addr) : Sp := fun vs H Q _ => ∃ (a t : Addr) (us : List (Str × Int)) (d : Nat) (s : Str) (c : Bool) (l : Int) (ks : List FKey), vs = [.ref a, .ref t] ∧ LadAt K C H a us d s c l ∧ Good us d s l ∧ SqT K H t (ks.map fun k => V.str (textK us d k)) ∧
  ks.length ≤ 12 ∧ (∀ k ∈ ks, KeyOk us k) ∧ ((∃ k ∈ ks, highK us d s c l k < lowK us d s c l k) → ∀ H', Same H H' → Q .non H') ∧ ((∀ k ∈ ks, lowK us d s c l k ≤ highK us d s c l k) → ∀ H', Same H H' → Q (.int (fstT (dnB (prsOf us d s c l ks)))) H')
def spLDue (K : PySem.W.Frag) : Sp := fun vs H Q _ => ∃ (F : Addr) (rs : List (Int × Int)), vs = [.ref F] ∧ PrAt K H F rs ∧ rs.length ≤ 12 ∧ ∀ (r : Addr) (H' : Hp), Same H H' → SqT K H' r [.bl (alw rs), .int (fstT (dnB rs))] → Q (.ref r) H'
section
variable {P : Program} {w : World} {K : PySem.W.Frag} {mg : Str → Option Value} {base : Heap}
theorem ok_alwaysr {C : Addr} (d : Dd K mg "always_rise" sAlwaysR ["ladder", "texts"]) (dC : Dd K mg "checked_ranges" sCRanges ["ladder", "texts"]) (B : Bt mg) (bz : mg "zip" = none)
    (GC : FnOk P w K mg base CX0 6 dC.f dC.fd ["ladder", "texts"] (spCRanges K C)) : FnOk P w K mg base CX0 7 d.f d.fd ["ladder", "texts"] (spAlwaysR K C) := by
  refine d.F.ok scAlwaysR (fun vs H Q E h => ?_) (fun cdv A outer s H vs Q E hr h => ?_)
  · obtain ⟨_, _, _, _, _, _, _, _, rfl, _⟩ := h
    rfl
  · obtain ⟨a, t, us, dn, z, c, l, ks, rfl, hL, g, hT, hlen, hk, q0, q1⟩ := h
    have nd := scAlwaysR.nd
    refine ⟨_, pss_cons (ps_set (i := 2) nd rfl (.inl rfl) (pe_call GC hr (by rfl) dC.g dC.F.kp dC.b .nil pass0 (pa_cons (pv 0) (pa_cons (pv 1) pa_nil))))
      (pss_cons (ps_if (pt_cmp (pc_isN (pv 2))) (pss_one (ps_ret pe_non)) pss_nil)
      (pss_one (ps_ret (pe_callB (cr_all rfl) (by rfl) B.all (by decide +kernel) (pa_cons (pe_lc (own := [("ends", 3), ("after", 4)]) (g := gTup K 2 (gCons (gName 3) (gCons (gName 4) gNil))) (tt := tYes) rfl nd
          (pi_zip (by rfl) bz (pa_cons (pv 2) (pa_cons (pe_slice sl_list (pv 2) (po_some pe_int) po_none) pa_nil)))
          (blkOk_by (own := [("ends", 3), ("after", 4)]) (N := ["ladder", "texts", "ranges", "ends", "after"]) (sc := defScope sAlwaysR) (by decide +kernel)) (fun _ _ _ _ _ => pg_tup rfl (pgs_cons (pg_name (i := 3) nd rfl (Or.inl rfl)) (pgs_cons (pg_name (i := 4) nd rfl (Or.inl rfl)) pgs_nil))) (fun _ _ _ _ _ => pts_nil)
          (fun _ _ _ _ _ => pe_cmpR op_le (pe_ix (r := rIxT K) ix_tup (pv 3) pe_int (fun _ _ => rfl)) (pe_ix (r := rIxT K) ix_tup (pv 4) pe_int (fun _ _ => rfl)) (nomark _))) pa_nil))))), ?_⟩
    refine ⟨_, rfl, _, rfl, a, t, us, dn, z, c, l, ks, rfl, hL, g, hT, hlen, hk, fun y H1 s1 => ?_, fun y F ps H1 s1 _ hF hps => ?_⟩
    · exact ⟨_, rfl, _, rfl, iteT (q0 y H1 s1)⟩
    · refine ⟨_, rfl, _, rfl, iteF ?_⟩
      have hps' := prs_paired hps
      obtain ⟨rs, ers⟩ : ∃ rs, prsOf us dn z c l ks = rs := ⟨_, rfl⟩
      have q2 := q1 y
      rw [ers] at hps' q2
      have hl : ps.length = rs.length := hps'.length
      have hl12 : rs.length ≤ 12 := by rw [← ers]; unfold prsOf; rw [List.length_map]; exact hlen
      refine ⟨_, rfl, _, rfl, 1, rfl, F, _, rfl, SqL.of hF, fun p1 n1 => ?_⟩
      have ecut : cutV (ps.map V.ref) (some 1) none = (ps.drop 1).map V.ref := by rw [cut_drop1, List.map_drop]
      rw [ecut]
      have t1 := same_upd n1 (o := .lst ((ps.drop 1).map V.ref))
      refine ⟨F, p1, _, _, rfl, SqL.of (t1 _ _ hF), SqL.of upd_same, fun D nD => ?_⟩
      have hp1 : (upd H1 p1 (.lst ((ps.drop 1).map V.ref))) p1 = some (.lst ((ps.drop 1).map V.ref)) := upd_same
      have hF1 := t1 _ _ hF
      generalize upd H1 p1 (.lst ((ps.drop 1).map V.ref)) = Ha at nD hp1 hF1 t1 ⊢
      refine MyZ.lc_zipU (K := K) (a := F) (b := p1) (xs := ps.map V.ref) (ys := (ps.drop 1).map V.ref) (by rw [List.length_map, List.length_map, List.length_drop]; omega) (fun i H' => Same Ha H' ∧ H' D = some (.lst (((upB rs).take i).map V.bl))) ⟨same_upd nD, upd_same⟩ (fun i H' h => ⟨SqL.of (h.1 _ _ hF1), SqL.of (h.1 _ _ hp1)⟩) ?_ ?_
      · rintro i x y' H2 T hx hy ⟨sm, hD⟩ nT
        obtain ⟨pa, hpa, rfl⟩ := of_get_ref hx
        obtain ⟨pb, hpb, rfl⟩ := of_get_ref hy
        obtain ⟨ra, hra, sa⟩ := paired_fst hps' hpa
        have hpb' : ps[i + 1]? = some pb := by rw [List.getElem?_drop, Nat.add_comm] at hpb; exact hpb
        obtain ⟨rb, hrb, sb⟩ := paired_fst hps' hpb'
        have sT := same_upd nT (o := .tup [.ref pa, .ref pb])
        have smT := (t1.trans sm).trans sT
        have hil := (List.getElem?_eq_some_iff.mp hrb).1
        refine ⟨T, _, rfl, SqT.of upd_same, rfl, _, _, rfl, _, _, rfl, rfl, ?_⟩
        refine ⟨rfl, _, rfl, pa, _, 1, .int ra.2, rfl, rfl, same_sqt smT sa, rfl, _, rfl, pb, _, 0, .int rb.1, rfl, rfl, same_sqt smT sb, rfl, _, _, rfl, rfl, _, sT _ _ hD, ?_, fun b o e => ?_, ?_⟩
        · rw [List.length_map, List.length_take]
          exact Nat.lt_of_le_of_lt (Nat.min_le_left _ _) (Nat.lt_of_lt_of_le (show i < 13 by omega) (by decide))
        · rw [upd_ne (ne_of_none e nD)]
          exact sT _ _ (sm _ _ e)
        · rw [upd_same, take_snoc V.bl (upB_at hra hrb)]
      · rintro H2 ⟨sm, hD⟩
        have et : (upB rs).take ((ps.drop 1).map V.ref).length = upB rs := List.take_of_length_le (by
          unfold upB
          rw [List.length_map, adj_len, List.length_map, List.length_drop]
          omega)
        rw [et] at hD
        exact ⟨D, upB rs, rfl, SqL.of hD, q2 H2 (s1.trans (t1.trans sm))⟩
theorem ok_firstfall {C : Addr} (d : Dd K mg "first_fall" sFirstFall ["ladder", "texts"]) (dC : Dd K mg "checked_ranges" sCRanges ["ladder", "texts"]) (B : Bt mg)
    (GC : FnOk P w K mg base CX0 6 dC.f dC.fd ["ladder", "texts"] (spCRanges K C)) : FnOk P w K mg base CX0 7 d.f d.fd ["ladder", "texts"] (spFirstFall K C) := by
  refine d.F.ok scFirstFall (fun vs H Q E h => ?_) (fun cdv A outer s H vs Q E hr h => ?_)
  · obtain ⟨_, _, _, _, _, _, _, _, rfl, _⟩ := h
    rfl
  · obtain ⟨a, t, us, dn, z, c, l, ks, rfl, hL, g, hT, hlen, hk, q0, q1⟩ := h
    have nd := scFirstFall.nd
    refine ⟨_, pss_cons (ps_set (i := 2) nd rfl (.inl rfl) (pe_call GC hr (by rfl) dC.g dC.F.kp dC.b .nil pass0 (pa_cons (pv 0) (pa_cons (pv 1) pa_nil))))
      (pss_cons (ps_if (pt_cmp (pc_isN (pv 2))) (pss_one (ps_ret pe_non)) pss_nil)
      (pss_cons (ps_for PassesOwn.never rfl (pi_range2 (by rfl) B.range (pa_cons pe_int (pa_cons (pe_callB call_len_seq (by rfl) B.len PySem.boot_len (pa_cons (pv 2) pa_nil)) pa_nil))) (pg_name (i := 3) nd rfl (.inl rfl))
        (pss_one (ps_if (pt_cmpR op_lt (pe_ix ix_tup (pe_ix ix_list (pv 2) (pv 3) (fun _ _ => rfl)) pe_int (fun _ _ => rfl)) (pe_ix ix_tup (pe_ix ix_list (pv 2) (pe_op op_sub (pv 3) pe_int) (fun _ _ => rfl)) pe_int (fun _ _ => rfl)) (nomark _))
          (pss_one (ps_ret (pv 3))) pss_nil)))
      (pss_one (ps_ret (pe_un un_neg pe_int))))), ?_⟩
    refine ⟨_, rfl, _, rfl, a, t, us, dn, z, c, l, ks, rfl, hL, g, hT, hlen, hk, fun y H1 s1 => ?_, fun y F ps H1 s1 _ hF hps => ?_⟩
    · exact ⟨_, rfl, _, rfl, iteT (q0 y H1 s1)⟩
    · refine ⟨_, rfl, _, rfl, iteF ?_⟩
      have hps' := prs_paired hps
      obtain ⟨rs, ers⟩ : ∃ rs, prsOf us dn z c l ks = rs := ⟨_, rfl⟩
      have q2 := q1 y
      rw [ers] at hps' q2
      have hl : ps.length = rs.length := hps'.length
      have hl12 : rs.length ≤ 12 := by rw [← ers]; unfold prsOf; rw [List.length_map]; exact hlen
      refine ⟨_, rfl, F, _, rfl, .inl (SqL.of hF), 1, _, rfl, ⟨by decide, by decide, ?_, ?_⟩, ?_⟩
      · rw [List.length_map]; omega
      · rw [List.length_map]; omega
      rw [List.length_map, hl]
      refine for_range (lo := 1) (n := ((rs.length : Int) - 1).toNat) (fun i σ H' => (∃ v3, σ = [some (.ref a), some (.ref t), some (.ref F), v3]) ∧ H' = H1 ∧ ((dnB rs).take i).findIdx? id = none) ⟨⟨_, rfl⟩, rfl, by simp⟩ ?_ ?_
      · rintro i σ H2 hi ⟨⟨v3, rfl⟩, rfl, hf⟩
        obtain ⟨ra, hra⟩ : ∃ x, rs[i]? = some x := ⟨_, List.getElem?_eq_getElem (by omega)⟩
        obtain ⟨rb, hrb⟩ : ∃ x, rs[i + 1]? = some x := ⟨_, List.getElem?_eq_getElem (by omega)⟩
        obtain ⟨pa, hpa, sa⟩ := paired_at hps' hra
        obtain ⟨pb, hpb, sb⟩ := paired_at hps' hrb
        have htf := take_find (dnB_at hra hrb)
        rw [hf] at htf
        refine ⟨_, rfl, _, rfl, F, _, _, .ref pb, rfl, rfl, SqL.of hF, ?_, pb, _, 1, .int rb.2, rfl, rfl, sb, rfl, _, rfl, _, rfl, _, _, rfl, rfl, F, _, _, .ref pa, rfl, rfl, SqL.of hF, ?_, pa, _, 0, .int ra.1, rfl, rfl, sa, rfl, _, _, rfl, rfl, _, rfl, ite2 (fun e => ?_) (fun e => ?_)⟩
        · rw [show (1 : Int) + (i : Int) = ((i + 1 : Nat) : Int) by omega]
          exact atI_nat (by rw [List.getElem?_map, hpb]; rfl)
        · rw [show (1 : Int) + (i : Int) - 1 = ((i : Nat) : Int) by omega]
          exact atI_nat (by rw [List.getElem?_map, hpa]; rfl)
        · refine ⟨_, rfl, ?_⟩
          have hlt : rb.2 < ra.1 := of_decide_eq_true e
          have hres : (dnB rs).findIdx? id = some i := by
            rw [← List.take_append_drop (i + 1) (dnB rs), List.findIdx?_append, htf, decide_eq_true hlt]
            simp
          have := q2 H2 s1
          unfold fstT at this
          rw [hres] at this
          rw [Int.add_comm]
          exact this
        · refine ⟨⟨_, rfl⟩, rfl, ?_⟩
          rw [htf, decide_eq_false (fun h => e (decide_eq_true h))]
          rfl
      · rintro σ H2 ⟨⟨v3, rfl⟩, rfl, hf⟩
        have et : (dnB rs).take ((rs.length : Int) - 1).toNat = dnB rs := List.take_of_length_le (by
          unfold dnB
          rw [List.length_map, adj_len]
          omega)
        rw [et] at hf
        have := q2 H2 s1
        rw [fst_none hf] at this
        exact ⟨1, rfl, this⟩
end
end My

namespace EX
open PySem PySem.Spec PyProof.Rows L2
/-! ### errors of the program with one field -/
/-- the class nm with the field fd, its __init__ at ini -/
structure Err (K : PySem.W.Frag) (mg : Str → Option Value) (nm fd ql : Str) (ini : Stmt) where
  C : Addr
  f : Addr
  fdd : FuncData
  g : mg nm = some (.ref C)
  T : OexC K C
  X : XfC K C
  iC : PySem.W.findIn K (.ref C) "__init__" = some (some (.ref f))
  tI : PySem.W.typeIn K (.ref f) = some (.type "function")
  no : PySem.W.findIn K (.ref C) fd = some none
  F : Fun K "__init__" ql ini f fdd
  b : Binds K fdd ["self", fd] []
  kp : PySem.W.keepIn K (.ref f) = true
/-- what its __init__ keeps to -/
def spIni (K : PySem.W.Frag) (C : Addr) (fd : Str) : Sp := fun vs H Q _ => ∃ (a : Addr) (v : V), vs = [.ref a, v] ∧ H a = some (exo a C none) ∧ ∀ dx, H dx = none → dx ≠ a → Q .non (upd (upd H dx (exd dx [(fd, v)])) a (exo a C (some dx)))
/-- the heap behind the making: the error's dict is new -/
def ErrV (H H' : Hp) (fd : Str) (v : V) (d : Addr) : Prop := H d = none ∧ Same H H' ∧ H' d = some (.xd [(fd, v)])
theorem pa_mono {X : Cx} {es : List Expr} {ta : TA} (ha : PA X es ta) : PA X es (fun σ H Q => ∃ R : List V → Hp → Prop, ta σ H R ∧ ∀ vs H1, R vs H1 → Q vs H1) := by
  refine ⟨fun pos pins s σ H Q I h => ?_⟩
  obtain ⟨R, h1, h2⟩ := h
  exact thn (ha.run pos pins s σ H R I h1) fun us s1 ⟨vs, H1, I1, r, q⟩ => ⟨vs, H1, I1, r, h2 vs H1 q⟩
/-- two promises of one def -/
def spOr (sp sp' : Sp) : Sp := fun vs H Q E => sp vs H Q E ∨ sp' vs H Q E
theorem fn_or {P : Program} {w : World} {K : PySem.W.Frag} {mg : Str → Option Value} {base : Heap} {CX : CXT} {k : Nat} {f : Addr} {fd : FuncData} {ps : List Str} {sp sp' : Sp} (F : FnOk P w K mg base CX k f fd ps sp) (F' : FnOk P w K mg base CX k f fd ps sp') : FnOk P w K mg base CX k f fd ps (spOr sp sp') :=
  ⟨fun vs H Q E h => h.elim (F.len vs H Q E) (F'.len vs H Q E), fun A outer s H args us vs Q E hr e0 bd r h => h.elim (F.run A outer s H args us vs Q E hr e0 bd r) (F'.run A outer s H args us vs Q E hr e0 bd r)⟩
section
variable {X : Cx} {nm fd ql : Str} {ini : Stmt} {e : Expr} {ta : TA} {W : WX} {p pos pos2 : Pos}
/-- raise nm(e) -/
theorem rs_err (T : Err X.K X.mg nm fd ql ini) (G : FnOk X.prog X.w X.K X.mg X.base CX0 1 T.f T.fdd ["self", fd] (spIni X.K T.C fd)) (hc : X.calm = true) (hr : Room 2 X.A) (tk : Takes X W) (ha : PA X [e] ta) (hg : Gl X nm)
    (hdb : (nm == ("__debug__" : Str)) = false) (he : starEach [e] X.env = (false, eval e X.env) :: starEach [] X.env := by rfl) (hpl : (backTo pos (starEach [] X.env)).any (·.1) = false := by rfl) :
    PS X (.Raise (some (.Call (.Name nm p) [e] [] pos)) none pos2) (fun _ σ H => ta σ H fun vs H1 => ∃ v, vs = [v] ∧ ∀ d H', ErrV H1 H' fd v d → W (.ref T.C) (some d) σ H') := by
  have R := ps_raise (pos := pos2) hc tk (pmk_oex (X := X) (p := p) (pos := pos) T.T T.iC T.tI G hr T.b .nil pass0 hg T.g (pa_mono ha) hdb he hpl)
  refine ⟨fun pins s σ H D I h => R.run pins s σ H D I ⟨_, h, fun vs H1 hv => ?_⟩⟩
  obtain ⟨v, rfl, hv⟩ := hv
  refine ⟨by show 1 ≤ 1000; decide, fun a na => ?_⟩
  have h0 : (upd H1 a (exo a T.C none)) a = some (exo a T.C none) := upd_same
  refine ⟨a, v, rfl, h0, fun dx ndx nea => ⟨rfl, dx, [(fd, v)], upd_same, ?_, ?_, ?_⟩⟩
  · rw [upd_ne nea, upd_same]
  · rw [upd_ne nea] at ndx
    exact ndx
  · rw [upd_ne nea] at ndx
    refine hv dx _ ⟨ndx, fun b o e => ?_, upd_same⟩
    rw [upd_ne (ne_of_none e ndx), del_ne (ne_of_none e na), upd_ne (ne_of_none e na), upd_ne (ne_of_none e ndx), upd_ne (ne_of_none e na)]
    exact e
end
end EX

namespace My
open PySem PySem.Spec PyProof.Rows L2
/-! ### decimals that do not suit: the error out of Ladder, caught by ladder_with -/
abbrev sEDecC : Stmt := top 3
abbrev sEDec : Stmt := inClass sEDecC 0
theorem scEDec : FnScope ["self", "value"] ["self", "value"] (defScope sEDec) := ⟨rfl, rfl, rfl, by decide +kernel, rfl, by decide +kernel, by decide +kernel⟩
abbrev EDec (K : PySem.W.Frag) (mg : Str → Option Value) := EX.Err K mg "InvalidDecimals" "value" "InvalidDecimals.__init__" sEDec
/-- the decimals suit the units -/
def Suits (us : List (Str × Int)) (d : Nat) : Prop := ∀ u ∈ us.drop 1, u.2 % (2 * 10 ^ d) = 0
def spCDecX (K : PySem.W.Frag) (CD : Addr) : Sp := fun vs H _ E => ∃ (a : Addr) (us : List (Str × Int)) (d : Nat), vs = [.ref a, .int (d : Int)] ∧ UA K H a us ∧ 1 ≤ us.length ∧ d ≤ 3 ∧ ¬ Suits us d ∧ ∀ dd H', Same H H' → E (.ref CD) (some dd) H'
def spLInitX (K : PySem.W.Frag) (C CD : Addr) : Sp := fun vs H _ E => ∃ (p dx ua : Addr) (us : List (Str × Int)) (d : Nat) (s : Str) (c : Bool) (l : Int), vs = [.ref p, .ref ua, .int (d : Int), .str s, .bl c, .int l] ∧ H p = some (.ins C dx []) ∧ UA K H ua us ∧ GoodUs us ∧ d ≤ 3 ∧ ¬ Suits us d ∧ ∀ dd H', Same H H' → E (.ref CD) (some dd) H'
def spLadW (K : PySem.W.Frag) (C : Addr) : Sp := fun vs H Q _ => ∃ (ua t : Addr) (us : List (Str × Int)) (d : Nat) (s : Str) (c : Bool), vs = [.ref ua, .ref t] ∧ UA K H ua us ∧ GoodUs us ∧ SqT K H t [.int (d : Int), .str s, .bl c] ∧ d ≤ 3 ∧ s ∈ sorts ∧
  (Suits us d → ∀ (p : Addr) (H' : Hp), Same H H' → LadAt K C H' p us d s c 1 → Q (.ref p) H') ∧ (¬ Suits us d → ∀ H', Same H H' → Q .non H')
theorem kb_carry {K : PySem.W.Frag} {f : Addr} {fd : FuncData} (F : LadD K f fd) : ∃ mv : List Value, KBn K fd ["self", "units", "decimals", "rounding", "carry", "least"] 4 ["carry"] (fun us ws => us ++ ws ++ mv) (fun vs zs => vs ++ zs ++ [V.int 1]) :=
  F.kbinds0 4 ["carry"] [("least", .int 1)] (fun us mv ws => us ++ ws ++ mv) (by simp) (by simp) (fun r1 r2 r3 => (r1.append r3).append r2) (fun D doc pm an cdv ct us mv ws h1 h2 h3 => by
    match us, mv, ws, h1, h2, h3 with
    | [_, _, _, _], [_], [_], _, _, _ => exact ⟨_, _, _, _, _, _, rfl, rfl, rfl⟩)
theorem fn_X {P : Program} {w : World} {K : PySem.W.Frag} {mg : Str → Option Value} {base : Heap} {CX : CXT} {k : Nat} {f : Addr} {fd : FuncData} {ps : List Str} {sp : Sp} (F : FnOk P w K mg base CX0 k f fd ps sp) : FnOk P w K mg base CX k f fd ps sp :=
  ⟨F.len, fun A outer s H args us vs Q E hr e0 bd r h => codeAny_mono (F.run A outer s H args us vs Q E hr e0 bd r h) fun r s' z => by
    cases r with
    | error e => exact z.elim
    | ok fl => cases fl <;> exact z⟩
section
variable {P : Program} {w : World} {K : PySem.W.Frag} {mg : Str → Option Value} {base : Heap}
theorem ok_edec (T : EDec K mg) : FnOk P w K mg base CX0 1 T.f T.fdd ["self", "value"] (EX.spIni K T.C "value") := by
  refine T.F.ok scEDec (fun vs H Q E h => ?_) (fun cdv A outer s H vs Q E hr h => ?_)
  · obtain ⟨_, _, rfl, _⟩ := h
    rfl
  · obtain ⟨a, v, rfl, ha, q⟩ := h
    refine ⟨_, pss_one (ps_ost (pv 0) (pv 1)), ?_⟩
    exact ⟨_, rfl, _, rfl, a, T.C, rfl, T.T, T.no, .inl ⟨ha, fun dx h1 h2 => q dx h1 h2⟩⟩
theorem ok_cdecX (T : EDec K mg) (d : Dd K mg "check_decimals" sCDec ["units", "decimals"]) (dW : DdW K mg) (B : Bt mg) (G : Gc K mg) : FnOk P w K mg base (L2.CX P w) 3 d.f d.fd ["units", "decimals"] (spCDecX K T.C) := by
  obtain ⟨t1, g1⟩ := G.decs
  obtain ⟨a2, g2, g3⟩ := G.parts
  have GW : FnOk P w K mg base CX0 2 dW.f dW.fd ["value", "low", "high"] spWithin := ok_within dW B
  have GE : FnOk P w K mg base CX0 1 T.f T.fdd ["self", "value"] (EX.spIni K T.C "value") := ok_edec T
  refine d.F.okX scCDec (fun vs H Q E h => ?_) (fun cdv A outer s H vs Q E hr h => ?_)
  · obtain ⟨_, _, _, rfl, _⟩ := h
    rfl
  · obtain ⟨a, us, dn, rfl, ⟨ps, ha, hu⟩, hlen, hd, hbad, q⟩ := h
    refine ⟨_, pss_cons (ps_if (pt_not (pt_val (pe_call GW hr (by rfl) dW.g dW.F.kp dW.b .nil pass0 (pa_cons (pv 1) (pa_cons pe_int (pa_cons (pe_glob (v := .int 3) (by rfl) g1 ⟨_, rfl⟩) pa_nil)))))) (pss_one ps_never) pss_nil)
      (pss_one (ps_for (passes_of rfl) rfl (pi_tup (pe_slice sl_tupA (pv 0) (po_some pe_int) po_none)) (pg_name (i := 2) scCDec.nd rfl (.inl rfl))
        (pss_one (ps_if (pt_cmpR op_ne (pe_op op_mod (pe_ix ix_tup (pv 2) pe_int (fun _ _ => rfl)) (pe_op op_mul pe_int (pe_ix ix_tup (pe_glob (v := .ref a2) (by rfl) g2 rfl) (pv 1) (fun _ _ => rfl)))) pe_int (nomark _)) (pss_one (EX.rs_err (X := cxOf (L2.CX P w) P w K mg base _ _ _ _ _ A outer s H E) T GE rfl hr (takes_of rfl rfl rfl rfl) (pa_cons (pv 1) pa_nil) rfl (by decide))) pss_nil)))), ?_⟩
    have el := UP.len hu
    refine ⟨.int (dn : Int), rfl, dn, 0, 3, rfl, ?_⟩
    rw [decide_eq_true (show (0 : Int) ≤ (dn : Int) ∧ (dn : Int) ≤ 3 by omega)]
    refine ⟨true, rfl, iteF ?_⟩
    refine ⟨.ref a, rfl, 1, rfl, a, _, rfl, ha, fun z => ?_, fun _ c nc => ?_⟩
    · obtain ⟨z, _⟩ := z
      rw [show HT.sIx (ps.map V.ref).length 0 (some 1) = min 1 (ps.map V.ref).length from HT.sIx_nat _ 0 1, List.length_map] at z
      omega
    · have smc : Same H (upd H c (.tup (cutV (ps.map V.ref) (some 1) none))) := same_upd nc
      refine ⟨c, rfl, ⟨_, SqT.of upd_same⟩, for_tup (K := K) (a := c) (xs := cutV (ps.map V.ref) (some 1) none) (fun i σ H2 => Same (upd H c (.tup (cutV (ps.map V.ref) (some 1) none))) H2 ∧ (∃ v, σ = [some (.ref a), some (.int (dn : Int)), v]) ∧ ∀ u ∈ (us.drop 1).take i, u.2 % (2 * 10 ^ dn) = 0)
        ⟨Same.refl _, ⟨none, rfl⟩, fun _ h => nomatch h⟩ (fun i σ H2 _ h => same_sqt h.1 (SqT.of upd_same)) ?_ ?_⟩
      · rintro i x σ H2 hi ⟨sm, ⟨v, rfl⟩, hgood⟩
        rw [cut_drop1, ← List.map_drop] at hi
        obtain ⟨p, hp, rfl⟩ := of_get_ref hi
        obtain ⟨u, hu2, hs⟩ := paired_fst (paired_drop 1 hu) hp
        have hm : u ∈ us.drop 1 := List.mem_of_getElem? hu2
        have hpos := pow_lo dn
        have hhi := pow_hi hd
        refine ⟨.ref p, rfl, p, _, 1, .int u.2, rfl, rfl, same_sqt sm (same_sqt smc hs), rfl, .int (dn : Int), rfl, a2, _, dn, _, rfl, rfl, g3 H2, parts_at hd, 2, _, rfl, rfl, .inl ⟨by decide, by decide⟩, u.2, _, rfl, rfl, (by show (0 : Int) < 2 * 10 ^ dn; omega), rfl, _, rfl, ite2 (fun _ => ?_) (fun e => ?_)⟩
        · exact ⟨_, rfl, _, rfl, fun dd H' hv => q dd H' ((smc.trans sm).trans hv.2.1)⟩
        · have hz : u.2 % (2 * 10 ^ dn) = 0 := by
            by_cases z : u.2 % (2 * 10 ^ dn) = 0
            · exact z
            · exact absurd (show (!decide (V.int (u.2 % (2 * 10 ^ dn)) = V.int 0)) = true by rw [decide_eq_false fun w => z (V.int.inj w)]; rfl) e
          refine ⟨sm, ⟨_, rfl⟩, fun w hw => ?_⟩
          rw [List.take_add_one, hu2] at hw
          rcases List.mem_append.mp hw with k | k
          · exact hgood w k
          · rw [List.mem_singleton.mp k]
            exact hz
      · rintro σ H2 ⟨sm, _, hgood⟩
        exfalso
        refine hbad fun u hu' => hgood u ?_
        rw [List.take_of_length_le]
        · exact hu'
        · rw [cut_drop1]
          simp only [List.length_drop, List.length_map]
          omega
theorem ok_linitX (T : EDec K mg) (L : LadC K mg) (dC : Dd K mg "check_units" sCUnits ["units"]) (dD : Dd K mg "check_decimals" sCDec ["units", "decimals"]) (GC : FnOk P w K mg base CX0 4 dC.f dC.fd ["units"] (spCUnits K)) (GD : FnOk P w K mg base (L2.CX P w) 3 dD.f dD.fd ["units", "decimals"] (spCDecX K T.C)) :
    FnOk P w K mg base (L2.CX P w) 5 L.f L.fd ["self", "units", "decimals", "rounding", "carry", "least"] (spLInitX K L.C T.C) := by
  refine L.F.okX scLInit (fun vs H Q E h => ?_) (fun cdv A outer s H vs Q E hr h => ?_)
  · obtain ⟨_, _, _, _, _, _, _, _, rfl, _⟩ := h
    rfl
  · obtain ⟨p, dx, ua, us, dn, rs, cy, lt, rfl, hp, hU, g, hd, hbad, q⟩ := h
    have hr2 : Room 3 _ := hr.mono (by decide)
    refine ⟨_, pss_cons (ps_expr (pe_call GC hr (by rfl) dC.g dC.F.kp dC.b .nil pass0 (pa_cons (pv 1) pa_nil)))
      (pss_cons (ps_expr (pe_call GD hr2 (by rfl) dD.g dD.F.kp dD.b .nil (passes_call (takes_of rfl rfl rfl rfl) (fun _ _ _ _ h => h)) (pa_cons (pv 1) (pa_cons (pv 2) pa_nil)))) pss_never), ?_⟩
    refine ⟨.ref ua, rfl, ua, us, rfl, hU, g, fun H1 s1 => ?_⟩
    exact ⟨.ref ua, rfl, .int (dn : Int), rfl, ua, us, dn, rfl, hU.same s1, g.lo, hd, hbad, fun dd H' s2 => q dd H' (s1.trans s2)⟩
end
end My

/-! several except clauses, each with the same name behind as -/
namespace TM
open PySem PySem.Spec PyProof.Rows L2
/-- what the clauses wish of an exception of the body, one after the other; slot i is the name's -/
def wManyAs (K : PySem.W.Frag) (i : Nat) (Wout : WX) (D : Ends) : List (Value × (Addr → Value → Option Addr → TS)) → WX
  | [] => Wout
  | (c, ts) :: r => fun cls d σ H => ∃ b, PySem.W.exmOne K cls c = some b ∧
      (b = true → ∀ a, H a = none → ts a cls d { nx := fun σ' H' => D.nx (σ'.set i none) H', rt := D.rt, bk := fun σ' H' => D.bk (σ'.set i none) H', ct := fun σ' H' => D.ct (σ'.set i none) H' } (σ.set i (some (.ref a))) H) ∧ (b = false → wManyAs K i Wout D r cls d σ H)
inductive HdsAs (X : Cx) (n : Str) : List ExceptHandler → List (Value × (Addr → Value → Option Addr → TS)) → Prop
  | nil : HdsAs X n [] []
  | cons {x : Str} {c : Value} {ts : Addr → Value → Option Addr → TS} {b₀ : Stmt} {suite : List Stmt} {np pos' : Pos} {hds : List ExceptHandler} {l : List (Value × (Addr → Value → Option Addr → TS))} (hc : Names X x c)
      (hsu : ∀ (a : Addr) (oe : Obj) (cls : Value) (d : Option Addr) (pn : List (Addr × Obj)), Zc cls d oe → (∃ vs, oe.data = .fields vs) → PSs (X.suite a ((a, oe) :: pn)) (b₀ :: suite) (ts a cls d)) (r : HdsAs X n hds l) :
      HdsAs X n (.ExceptHandler (some (.Name x np)) (some n) (b₀ :: suite) pos' :: hds) ((c, ts) :: l)
section
variable {X : Cx} {n : Str} {i : Nat} {body : List Stmt} {h₀ : ExceptHandler} {hds : List ExceptHandler} {l : List (Value × (Addr → Value → Option Addr → TS))} {pos : Pos} {tb : WX → TS} {Wout : WX}
theorem ps_try_manyAs (hs : X.stack = X.env :: X.outer) (hf : X.env.frame = some X.env.locals) (hN : X.N.Nodup) (hi : X.N[i]? = some n) (hln : X.env.kindOf n = some .local) (tk : Takes X Wout)
    (hb : ∀ (W : WX) (pn : List (Addr × Obj)) (xe : Value → Shared → Prop), Takes (X.tr pn xe) W → PassesOwn (model X.prog X.w) X.A X.env xe → PSs (X.tr pn xe) body (tb W))
    (hh : HdsAs X n (h₀ :: hds) l) : PS X (.Try body (h₀ :: hds) [] [] pos) (fun D σ H => tb (wManyAs X.K i Wout D l) D σ H) := by
  refine ⟨fun pins s σ H D I h => ?_⟩
  have ok := I.ok
  have hfr : X.A.frames = some (X.env :: X.outer) := by rw [ok.frames, hs]
  have hloc : Loc X.env.scope n := .inl hln
  refine wpAny_Try_except ?_
  refine wpAny_mono ((hb (wManyAs X.K i Wout D l) (X.pn ++ pins) (fun e s₁ => wpAny (model X.prog X.w) X.A (noteFrame e X.env) (fun _ s₂ => wpAny (model X.prog X.w) X.A (setFlight e none) (fun _ s₃ =>
    wpAny (model X.prog X.w) X.A (handleBy e X.env (h₀ :: hds)) (SP X pins D) X.xe s₃) X.xe s₂) X.xe s₁) (fun u s' xx => ?_) PassesOwn.looking).run [] s σ H D (I.toTry _) h) (fun f s1 hsp => ?_) (fun e s1 he => he)
  · -- the catch
    obtain ⟨a, B, sI, pins', σ', H', cls, d, rfl, J', nb, up, sky, na, os, ag, w⟩ := xx
    have J : Inv X pins σ' H' sI := J'.ofTry ok
    have sky' : Sky B (X.env :: X.outer) a (Zc cls d) X.env.locals s'.heap := by rw [← hs]; exact sky
    show wpAny (model X.prog X.w) X.A (noteFrame (.ref a) X.env) _ _ _
    refine Sky.land Zc.steady hfr hf sky' fun h3 fl3 up3 => ?_
    have J3 : Inv X pins σ' H' { s' with heap := h3 } := J.landed nb fl3.1 (up.trans up3) os ag
    obtain ⟨oe3, vs3, he3, hz3, hd3⟩ := fl3.there
    have notFr : ∀ {h : Heap} {o : Obj} {vs : Array Value}, h.FunFrames B (X.env :: X.outer) → h.get? a = some o → o.data = .fields vs → a ∉ frs (X.env :: X.outer) := fun {h o vs} ff e dd hm => by
      obtain ⟨_, o', e', hnf⟩ := ff.mem hm
      rw [e] at e'; cases e'
      exact hnf _ dd
    have nfr := notFr fl3.2.2.1 he3 hd3
    have nL : a ≠ X.env.locals := fun z => nfr (List.mem_filterMap.mpr ⟨X.env, List.mem_cons_self, by rw [hf, z]⟩)
    have nF : a ∉ X.fs := fun hm => by
      obtain ⟨e, he, q⟩ := List.mem_filterMap.mp hm
      exact nfr (List.mem_filterMap.mpr ⟨e, List.mem_cons_of_mem _ he, q⟩)
    have S3 := J3.suite he3 hd3 na nL nF
    have go : ∀ {hds' : List ExceptHandler} {l' : List (Value × (Addr → Value → Option Addr → TS))}, HdsAs X n hds' l' → wManyAs X.K i Wout D l' cls d σ' H' →
        wpAny (model X.prog X.w) X.A (handleBy (.ref a) X.env hds') (SP X pins D) X.xe { s' with heap := h3 } := by
      intro hds' l' hk
      induction hk with
      | nil =>
        intro w
        refine wpAny_handleBy_nil ?_
        obtain ⟨k1, k2, k3, oe, vs, T, oT, ts', he, hz, hd, h1, hr⟩ := id fl3
        unfold PySem.passOn
        refine wpAny_bind (wpAny_field he hd h1 ?_)
        rw [if_neg (show ¬ ((Value.ref T == Value.none) = true) from by simp)]
        have fin : wpAny (model X.prog X.w) X.A (setFlight (.ref a) X.env.frame) (fun _ s4 => wpAny (model X.prog X.w) X.A (throw (.ref a) : Sem Flow) (SP X pins D) X.xe s4) X.xe { s' with heap := h3 } := by
          rw [hf]
          refine HandSPX.setFlight_upZ fl3 fun h4 hh4 up4 => wpAny_throw (tk _ _ ?_)
          exact ⟨a, B, sI, pins, σ', H', cls, d, rfl, J, nb, (up.trans up3).trans up4, .inr (.inr (by rw [hs]; exact hh4)), na, os, ag, w⟩
        first
          | exact wpAny_bind (wpAny_pure (wpAny_bind fin))
          | exact wpAny_bind fin
      | @cons x c ts b₀ suite np pos' hds2 l2 hc hsu r ih =>
        intro w
        obtain ⟨b, hb1, hyes, hno⟩ := w
        refine wpAny_handleBy_cons (codeAny_handlers_test ?_) (by intro q; cases q)
        have LT : PySem.W.Looks (model X.prog X.w) h3 (typeOf (.ref a)) cls := fun A Q E s k q => wpAny_typeOf_ref (k _ _ he3) (by rw [hz3.1]; exact q)
        have LM := PySem.W.exm_one (M := model X.prog X.w) (J3.kIn) LT hb1
        have test : ∀ {Q : Value → Shared → Prop} {E : Value → Shared → Prop}, Q c { s' with heap := h3 } → wpAny (model X.prog X.w) (X.A.mark (some (.ref a))) (eval (.Name x np) X.env) Q E { s' with heap := h3 } := fun {Q E} q => by
          obtain ⟨hg, hdbg, hm | ⟨hm, hv, hnn⟩⟩ := hc
          · exact ld_glob (X := X.suite a ((a, oe3) :: (X.pn ++ pins))) S3 hg hm q hdbg
          · exact ld_blt (X := X.suite a ((a, oe3) :: (X.pn ++ pins))) S3 hg hm hv q hnn hdbg
        refine test (LM.here ?_)
        cases b with
        | true =>
          refine codeAny_handlers_suite_as ?_
          refine HandSPX.lands_againZ fl3 fun h4 fl4 up4 => ?_
          have J4 : Inv X pins σ' H' { s' with heap := h4 } := J.landed nb fl4.1 ((up.trans up3).trans up4) os ag
          obtain ⟨oe4, vs4, he4, hz4, hd4⟩ := fl4.there
          have S4 := J4.suite he4 hd4 na nL nF
          refine store_ok (X := X.suite a ((a, oe4) :: (X.pn ++ pins))) (v := .ref a) S4 hN hi hloc rfl (fun s5 S5 => ?_) (.inr hln)
          refine wpAny_mono ((hsu a oe4 cls d (X.pn ++ pins) hz4 ⟨_, hd4⟩).run [] s5 _ H' _ S5 (hyes rfl a na)) (fun f s6 hsp => ?_) (fun _ _ z => False.elim z)
          have end_ : ∀ {σ6 : L2.St} {H6 : Hp} {Q : Shared → Prop}, Inv (X.suite a ((a, oe4) :: (X.pn ++ pins))) [] σ6 H6 s6 → (∀ s7, Inv X pins (σ6.set i none) H6 s7 → Q s7) →
              wpAny (model X.prog X.w) X.A (do bindName X.env n .none; unbindBehindTheSuite X.env n pos') (fun _ s7 => Q s7) X.xe s6 := fun {σ6 H6 Q} S6 hq => gone_ok (S6.unsuite ok) hN hi hln hq
          cases f with
          | next =>
            obtain ⟨σ6, H6, S6, q6⟩ := hsp
            exact end_ S6 fun s7 J7 => ⟨_, _, J7, q6⟩
          | brk =>
            obtain ⟨σ6, H6, S6, q6⟩ := hsp
            exact end_ S6 fun s7 J7 => ⟨_, _, J7, q6⟩
          | cont =>
            obtain ⟨σ6, H6, S6, q6⟩ := hsp
            exact end_ S6 fun s7 J7 => ⟨_, _, J7, q6⟩
          | ret u =>
            obtain ⟨v6, σ6, H6, S6, r6, q6⟩ := hsp
            exact end_ S6 fun s7 J7 => ⟨_, _, _, J7, r6, q6⟩
        | false =>
          show wpAny _ X.A (handleBy (.ref a) X.env hds2) _ _ _
          exact ih (hno rfl)
    exact go hh w
  · cases f with
    | next =>
      obtain ⟨σ', H', J', q⟩ := hsp
      exact wpAny_execs_nil ⟨σ', H', J'.ofTry ok, q⟩
    | brk =>
      obtain ⟨σ', H', J', q⟩ := hsp
      exact ⟨σ', H', J'.ofTry ok, q⟩
    | cont =>
      obtain ⟨σ', H', J', q⟩ := hsp
      exact ⟨σ', H', J'.ofTry ok, q⟩
    | ret u =>
      obtain ⟨v, σ', H', J', r, q⟩ := hsp
      exact ⟨v, σ', H', J'.ofTry ok, r, q⟩
end
/-! ### isinstance of a caught error that has a dict -/
section
open PySem.W PySem.Calls
variable {prog : Program} {w : World} {A : Around} {E : Value → Shared → Prop} {s : Shared} {K : PySem.W.Frag} {x D : Addr} {ox od : Obj}
theorem findObj_dataO {C : Addr} {name : Str} {a g : Value} {o : Option Obj} (hc : (clsIn K C).isSome = true) (ha : findIn K (.ref C) name = some (some a)) (hg : specialIn K a "__get__" = some (some g)) (ht : takesIn K a = some true) : findObj K C o name = some (.bind g a) := by
  obtain ⟨cd, hc⟩ := Option.isSome_iff_exists.mp hc
  unfold findObj
  rw [hc, Option.bind_some, ha, Option.bind_some]
  simp [hg, ht]
theorem kin_classO {o : Option Obj} {Q : Option Value → Shared → Prop} (hga : findIn K (.ref D) "__getattribute__" = some (some (.builtin "BaseException.__getattribute__"))) (hgt : findIn K (.ref D) "__getattr__" = some none) (hsub : subIn K (.ref D) (.type "BaseException") = some true)
    (hdct : hasDictIn K D = true) (ha : findIn K (.ref D) "__class__" = some (some (.builtin "object.__class__")))
    (hn : specialIn K (.builtin "object.__class__") "__get__" = some (some (.builtin "getset_descriptor.__get__"))) (htk : takesIn K (.builtin "object.__class__") = some true) (hm : mroIn K D (.type "object") = some true)
    (X : K.In s.heap) (I : PySem.W.InstAt s.heap x ox D o) (h : Q (some (.ref D)) { s with toks := s.toks + 1 }) : wpAny (model prog w) A (getAttr? (.ref x) "__class__") Q E s := by
  have hf : findObj K D o "__class__" = some (.bind (.builtin "getset_descriptor.__get__") (.builtin "object.__class__")) := findObj_dataO (by obtain ⟨cd, hc, _⟩ := any_some hdct; rw [hc]; rfl) ha hn htk
  obtain ⟨hp, g, d, t, os⟩ := s
  have L0 := I.type (M := model prog w)
  have L1 := looks_findIn (M := model prog w) X hga
  have L2 := looks_findIn (M := model prog w) X hgt
  have L3 := looks_find (M := model prog w) X I hf
  have sub : Looks (model prog w) hp (isInstance (.ref x) (.type "BaseException")) true := L0.andThen (looks_subIn X hsub)
  have hx0 : (false && onTheHeap (Value.builtin "BaseException.__getattribute__")) = false := rfl
  have hx2 : (Value.builtin "BaseException.__getattribute__" == Value.builtin "object.__getattribute__") = false := by decide +kernel
  have hx1 : (onTheHeap (Value.ref D) && Value.builtin "BaseException.__getattribute__" == Value.builtin "object.__getattribute__") = false := by rw [hx2]; rfl
  unfold getAttr? getAttrBy? getAttrBy
  refine wpAny_bind (wpAny_mkText (wpAny_bind (wpAny_attempt (wpAny_holding (wpAny_bind (L0.at (wpAny_bind (L1.at ?_))))))))
  show wpAny _ _ (if (onTheHeap (Value.ref D) && Value.builtin "BaseException.__getattribute__" == Value.builtin "object.__getattribute__") = true then _ else _) _ _ _
  rw [hx1, if_neg Bool.false_ne_true]
  unfold getAttrByItsOwn hookBefore
  refine wpAny_bind ?_
  rw [if_pos (show onTheHeap (Value.ref D) = true from rfl)]
  refine L2.at ?_
  refine wpAny_bind (wpAny_attempt (wpAny_holding ?_))
  unfold callGetattribute
  rw [hx0, if_neg Bool.false_ne_true]
  unfold boundAndCalled
  rw [PySem.F.excAttr_ValueError.ga.bind (.ref x)]
  refine wpAny_bind (wpAny_pure ?_)
  show wpAny _ _ (call (.builtin "BaseException.__getattribute__") [.ref x, .str "__class__" t]) _ _ _
  refine wpAny_call (codeAny_call_builtin PySem.F.excAttr_ValueError.ga.plain PySem.F.entry_bexc_ga ?_)
  refine @check_slot (model prog w) _ _ ⟨hp, g, d, t + 1, os⟩ "BaseException.__getattribute__" "BaseException" "__getattribute__" (.ref x) [.str "__class__" t] [] _ (by decide +kernel) (by decide +kernel) sub (PySem.F.args_bexc_ga (.ref x) (.str "__class__" t)) ?_
  unfold Builtin.«object.__getattribute__»
  refine wpAny_bind (wpAny_of_eq (a := ((Value.ref x : Value), [Value.str "__class__" t])) (by first | rfl | (simp only [slotArgs]; rfl)) ?_)
  refine wpAny_bind (wpAny_pure (wpAny_bind (L0.at (wpAny_bind (L3.at ?_)))))
  show wpAny _ _ (holding [Value.builtin "object.__class__"] (call (.builtin "getset_descriptor.__get__") [.builtin "object.__class__", .ref x, .ref D]) >>= ret) _ _ _
  refine wpAny_bind (wpAny_holding (wpAny_call (class_get (s := ⟨hp, g, d, t + 1, os⟩) (ox := ox) (od := o) X I hm ?_)))
  refine wpAny_pure ?_
  show wpAny _ _ (handedOut (.ref D)) _ _ _
  rw [handedOut_of (v := .ref D) rfl]
  first
    | exact wpAny_pure (wpAny_pure h)
    | exact wpAny_pure h
    | exact wpAny_pure (wpAny_bind (wpAny_pure (wpAny_pure h)))
theorem kitx_excO (hga : findIn K (.ref D) "__getattribute__" = some (some (.builtin "BaseException.__getattribute__"))) (hgt : findIn K (.ref D) "__getattr__" = some none) (hsub : subIn K (.ref D) (.type "BaseException") = some true) (hdct : hasDictIn K D = true) (ha : findIn K (.ref D) "__class__" = some (some (.builtin "object.__class__")))
    (hn : specialIn K (.builtin "object.__class__") "__get__" = some (some (.builtin "getset_descriptor.__get__"))) (htk : takesIn K (.builtin "object.__class__") = some true) (hm : mroIn K D (.type "object") = some true) :
    KitX K (.ref x) (.ref D) (fun h => ∃ o, PySem.W.InstAt h x ox D o) where
  ty := fun _ _ _ ⟨_, I⟩ => I.type
  it := fun _ _ X _ => by
    obtain ⟨cdD, hcD, _⟩ := any_some hdct
    unfold clsIn at hcD
    split at hcD
    · rename_i c' d' cd' sl' ho
      intro A' Q' E' s' k q
      unfold isType loadHead
      exact wpAny_bind (wpAny_loadPart (k _ _ (X _ _ ho)) (wpAny_pure q))
    · cases hcD
  ne := fun h tp dd its n sl X htp => by
    obtain ⟨cdD, hcD, _⟩ := any_some hdct
    refine Bool.eq_false_iff.mpr fun q => ?_
    have e : D = tp := Value.ref.inj (beq_iff_eq.mp q)
    subst e
    unfold clsIn at hcD
    split at hcD
    · rename_i c' d' cd' sl' ho
      have z := (X _ _ ho).symm.trans htp
      cases z
    · cases hcD
  ca := fun X ⟨_, I⟩ k => kin_classO hga hgt hsub hdct ha hn htk hm X I k
end
/-- isinstance(e, c), e the exception with a dict that the suite holds -/
def rIsD (K : PySem.W.Frag) (a : Addr) (cls : Value) (d : Option Addr) (D : Addr) : List V → Hp → VK → Prop := fun xs H Q => ∃ (c : V) (cv : Value) (b : Bool) (dd : Addr) (fs : List (Str × V)), cls = .ref D ∧ d = some dd ∧ H dd = some (.xd fs) ∧ xs = [.ref a, c] ∧ (∀ u, RelV c u → u = cv) ∧ PySem.W.kitOne K (.ref D) cv = some b ∧ Q (.bl b) H
theorem call_isD {X : Cx} {a D : Addr} {oe : Obj} {cls : Value} {d : Option Addr} {pn : List (Addr × Obj)} (C : ExcC X.K D) (hz : Zc cls d oe) (hf : ∃ vs, oe.data = .fields vs) : CallR (X.suite a ((a, oe) :: pn)) (.builtin "isinstance") (rIsD X.K a cls d D) := by
  intro pins s σ H xs us Q I r h
  obtain ⟨c, cv, b, dd, fs, rfl, rfl, hdd, rfl, hcv, e, q⟩ := h
  cases r with
  | cons rx rr =>
    cases rr with
    | cons rt rr =>
      cases rr
      cases rx
      have ec := hcv _ rt
      subst ec
      obtain ⟨hget, _⟩ := I.pin (a, oe) (List.mem_append.mpr (.inl List.mem_cons_self))
      obtain ⟨vs, hv⟩ := hf
      obtain ⟨mA, hns, hr⟩ := (show ObjOk X.prog X.w H s.heap dd (.xd fs) from I.hok dd _ hdd)
      obtain ⟨od, ho, hl⟩ := L2.lookIn_ns hns
      have J : PySem.W.InstAt s.heap a oe D (some od) := ⟨hget, hz.1, by unfold PySem.W.notCls; rw [hv] <;> rfl, by rw [hz.2]; exact ho⟩
      exact PySem.W.kia_one (kitx_excO C.hg C.hk C.hs C.hd C.ha C.hn C.ht C.hm) I.kIn ⟨_, J⟩ e (fun z => nomatch z) fun tk => ⟨.bl b, H, I.kept (t' := tk) fun _ _ z => z, rfl, q⟩
end TM

/-! what came out of a call: the laws' _law_came_out -/
namespace CO
open PySem PySem.Spec PyProof.Rows L2 My
/-- a class of errors that a clause names -/
structure ErrT (K : PySem.W.Frag) (mg : Str → Option Value) (CI : Addr) (nm fd : Str) where
  C : Addr
  g : mg nm = some (.ref C)
  X : XfC K C
  no : PySem.W.findIn K (.ref C) fd = some none
  E : ExcC K C
  iE : PySem.W.kitOne K (.ref C) (.ref CI) = some true
  vE : PySem.W.kitOne K (.ref C) (.type "ValueError") = some true
abbrev tSuite (K : PySem.W.Frag) (CI C : Addr) (nm fd : Str) (a : Addr) (cls : Value) (d : Option Addr) : TS :=
  tRet (tLst (tCons (tC (.str nm)) (tCons (tXf a cls d C fd (tVar 2)) (tCons (tAndV (tCB (TM.rIsD K a cls d C) (tCons (tVar 2) (tCons (tC (.ref CI)) tNil))) (tCB (TM.rIsD K a cls d C) (tCons (tVar 2) (tCons (tC (.ty "ValueError")) tNil)))) tNil))))
/-- one clause: its class, what it returns -/
def hdl (K : PySem.W.Frag) (CI : Addr) (c : Addr × Str × Str) : Value × (Addr → Value → Option Addr → TS) := (.ref c.1, fun a cls d => tSuite K CI c.1 c.2.1 c.2.2 a cls d)
theorem takes_len {X : Cx} {W : WX} (t : Takes X W) : Takes X (fun cls d σ H => σ.length = X.N.length → W cls d σ H) := fun u s' ⟨a, B, sI, pins, σ, H, cls, d, e, I, nb, up, sky, na, os, ag, w⟩ =>
  t u s' ⟨a, B, sI, pins, σ, H, cls, d, e, I, nb, up, sky, na, os, ag, w I.len⟩
/-- the clause of the class that came is met -/
theorem met {K : PySem.W.Frag} {CI C dd : Addr} {nm fd : Str} {v : V} {σ : L2.St} {H : Hp} {D : Ends} {Wout : WX} (iE : PySem.W.kitOne K (.ref C) (.ref CI) = some true) (vE : PySem.W.kitOne K (.ref C) (.type "ValueError") = some true) (hl : σ.length = 3) (hd : H dd = some (.xd [(fd, v)]))
    (hQ : ∀ p, H p = none → D.rt (.ref p) (upd H p (.lst [.str nm, v, .bl true]))) :
    ∀ cs : List (Addr × Str × Str), (C, nm, fd) ∈ cs → (∀ c ∈ cs, PySem.W.exmOne K (.ref C) (.ref c.1) = some (nm == c.2.1)) → (∀ c ∈ cs, (nm == c.2.1) = true → c = (C, nm, fd)) → TM.wManyAs K 2 Wout D (cs.map (hdl K CI)) (.ref C) (some dd) σ H
  | [], hm, _, _ => nomatch hm
  | c :: r, hm, hx, hu => by
    refine ⟨nm == c.2.1, hx c (List.mem_cons_self ..), fun hb a na => ?_, fun hb => ?_⟩
    · have e := hu c (List.mem_cons_self ..) hb
      subst e
      have s2 : (σ.set 2 (some (V.ref a)))[2]? = some (some (V.ref a)) := by
        rw [List.getElem?_set_self (by omega)]
      refine ⟨.ref a, s2, rfl, rfl, dd, _, v, rfl, hd, ?_, ?_⟩
      · simp [List.lookup]
      · refine ⟨.ref a, s2, .ref CI, .ref CI, true, dd, _, rfl, rfl, hd, rfl, fun u h => h, iE, true, rfl, iteT ?_⟩
        refine ⟨.ref a, s2, .ty "ValueError", .type "ValueError", true, dd, _, rfl, rfl, hd, rfl, fun u h => h, vE, ?_⟩
        exact ⟨by show 3 ≤ sizeLine; decide, fun p np => hQ p np⟩
    · rcases List.mem_cons.mp hm with e | hm
      · rw [← e] at hb
        simp at hb
      · exact met iE vE hl hd hQ r hm (fun c hc => hx c (List.mem_cons_of_mem _ hc)) fun c hc => hu c (List.mem_cons_of_mem _ hc)
theorem pe_mono {X : Cx} {e : Expr} {te : TE} (h : PE X e te) : PE X e (fun σ H Q => ∃ Q1 : VK, te σ H Q1 ∧ ∀ v H', Q1 v H' → Q v H') :=
  ⟨fun pins s σ H Q I ⟨Q1, h1, h2⟩ => thn (h.run pins s σ H Q1 I h1) fun u s1 ⟨v, H1, I1, r, q⟩ => ⟨v, H1, I1, r, h2 v H1 q⟩⟩
section
variable {X : Cx} {CI : Addr} {nm fd : Str}
/-- the suite of a clause -/
theorem suite_ok {a : Addr} {oe : Obj} {cls : Value} {d : Option Addr} {pn : List (Addr × Obj)} {p1 p2 p3 p4 p5 p6 p7 p8 p9 p10 p11 p12 p13 p14 : Pos} {k1 : Nat} (T : ErrT X.K X.mg CI nm fd) (hz : Zc cls d oe) (hf : ∃ vs, oe.data = .fields vs)
    (hN : X.N[2]? = some ("e" : Str)) (hv : Vis X.env.scope ("e" : Str)) (gi : Gl X "isinstance") (bi : X.mg "isinstance" = none) (gI : Gl X "InputError") (hI : X.mg "InputError" = some (.ref CI)) (gV : Gl X "ValueError") (bV : X.mg "ValueError" = none) :
    PSs (X.suite a ((a, oe) :: pn)) [.Return (some (.List [.Constant (.str nm) k1 p1, .Attribute (.Name "e" p2) fd p3, .BoolOp .And [.Call (.Name "isinstance" p4) [.Name "e" p5, .Name "InputError" p6] [] p7, .Call (.Name "isinstance" p8) [.Name "e" p9, .Name "ValueError" p10] [] p11] p12] p13)) p14] (tSuite X.K CI T.C nm fd a cls d) := by
  have ve : ∀ p : Pos, PE (X.suite a ((a, oe) :: pn)) (.Name "e" p) (tVar 2) := fun p => pe_var (i := 2) hN hv
  exact pss_one (ps_ret (pe_lst (pa_cons pe_str (pa_cons (pe_xf T.X T.no hz hf (ve p2)) (pa_cons (pe_and (pe_callB (TM.call_isD T.E hz hf) gi bi (by decide +kernel) (pa_cons (ve p5) (pa_cons (pe_glob (v := .ref CI) gI hI rfl) pa_nil)))
    (pe_one (pe_callB (TM.call_isD T.E hz hf) gi bi (by decide +kernel) (pa_cons (ve p9) (pa_cons (pe_bltn (v := .ty "ValueError") gV bV (by decide +kernel) rfl) pa_nil))))) pa_nil)))))
/-- what _law_came_out makes of a call's promise -/
def TCame (K : PySem.W.Frag) (cs : List (Addr × Str × Str)) : (XK → Hp → VK → Prop) → Hp → VK → Prop := fun tl H Q =>
  tl (fun cls d H' => ∃ (C : Addr) (nm fd : Str) (v : V) (dd : Addr), (C, nm, fd) ∈ cs ∧ cls = .ref C ∧ d = some dd ∧ H' dd = some (.xd [(fd, v)]) ∧ ∀ p, H' p = none → Q (.ref p) (upd H' p (.lst [.str nm, v, .bl true]))) H
    (fun v H' => ∀ p, H' p = none → Q (.ref p) (upd H' p (.lst [.str "given", v])))
/-- the classes that the clauses name: each is met by itself alone -/
structure CsOk (K : PySem.W.Frag) (CI : Addr) (cs : List (Addr × Str × Str)) : Prop where
  iE : ∀ c ∈ cs, PySem.W.kitOne K (.ref c.1) (.ref CI) = some true
  vE : ∀ c ∈ cs, PySem.W.kitOne K (.ref c.1) (.type "ValueError") = some true
  exm : ∀ c ∈ cs, ∀ c' ∈ cs, PySem.W.exmOne K (.ref c.1) (.ref c'.1) = some (c.2.1 == c'.2.1)
  one : ∀ c ∈ cs, ∀ c' ∈ cs, (c.2.1 == c'.2.1) = true → c' = c
theorem body_ok {Ng : List Str} {sg : Scope} {g : Addr} {cdg : Value} {a q : Str} {h₀ : ExceptHandler} {hds : List ExceptHandler} {cs : List (Addr × Str × Str)} {p1 p2 p3 p4 p5 p6 p7 p8 p9 : Pos} {kc : Nat} {x : Str} (ok : CsOk X.K CI cs) (hN0 : Ng.Nodup) (h3 : Ng.length = 3) (h1 : Ng[1]? = some ("_law_given" : Str)) (h2 : Ng[2]? = some ("e" : Str))
    (l1 : Loc sg "_law_given") (f1 : sg.names.lookup ("_law_given" : Str) = some .local) (v1 : Vis sg "_law_given") (ke : ∀ s f, (envOfC x sg s f cdg).kindOf "e" = some .local)
    (hst : ∀ f : Addr, L2.start Ng [V.ref f] = [some (.ref f), none, none])
    (hh : ∀ (s : Shared) (H : Hp), TM.HdsAs (cxOf C8.CX0 X.prog X.w X.K X.mg X.base Ng x sg g cdg X.A X.stack s H C8.E0).nox "e" (h₀ :: hds) (cs.map (hdl X.K CI))) (hsw : ∀ (env : Env), swapsWith (.Call (.Name a p1) [] [] p2) (some (.Name "_law_given" p3)) p4.line env = pure false := by intro env; rfl) :
    LamX.GivesTo X Ng x sg g cdg [.Try [.Assign [.Name "_law_given" p3] (.Call (.Name a p1) [] [] p2) p4] (h₀ :: hds) [] [] p5, .Return (some (.List [.Constant (.str "given") kc p6, .Name "_law_given" p7] p8)) p9] a q (TCame X.K cs) := by
  intro f c' s H Q tl act hc h
  let Y := (cxOf C8.CX0 X.prog X.w X.K X.mg X.base Ng x sg g cdg X.A X.stack s H C8.E0).nox
  refine ⟨_, pss_cons (TM.ps_try_manyAs (X := Y) (i := 2) (tb := fun W D σ H => ∃ Ech : XK, (∀ cls d σ' H', Ech cls d H' → σ'.length = 3 → W cls d σ' H') ∧ σ[0]? = some (some (.ref f)) ∧ H c' = some (LamX.CodeO c' q) ∧ ∃ Q1 : VK, tl Ech H Q1 ∧ ∀ v H', Q1 v H' → D.nx (σ.set 1 (some v)) H')
      rfl rfl hN0 h2 (ke _ _) LamX.takes0 (fun W pn xe tk _ => ?_) (hh s H)) (pss_one (ps_ret (pe_lst (pa_cons pe_str (pa_cons (pe_var (i := 1) h1 v1) pa_nil))))), ?_⟩
  · refine ⟨fun pins s' σ H' D I h' => ?_⟩
    obtain ⟨Ech, hW, e1, e2, e3⟩ := h'
    have hp := act (fun cls d σ H => σ.length = 3 → W cls d σ H) pn xe Ech p1 p2 (by
      have := takes_len tk
      rw [show (Y.tr pn xe).N.length = 3 from h3] at this
      exact this) hW
    have hq := pss_one (ps_set (X := Y.tr pn xe) (i := 1) (pos := p4) (pos' := p3) hN0 h1 l1 (pe_mono hp) (hsw _) (.inr f1))
    obtain ⟨Q1, k1, k2⟩ := e3
    exact hq.run pins s' σ H' D I ⟨Q1, ⟨e1, e2, k1⟩, k2⟩
  · refine ⟨fun cls d H' => ∃ (C : Addr) (nm fd : Str) (v : V) (dd : Addr), (C, nm, fd) ∈ cs ∧ cls = .ref C ∧ d = some dd ∧ H' dd = some (.xd [(fd, v)]) ∧ ∀ p, H' p = none → Q (.ref p) (upd H' p (.lst [.str nm, v, .bl true])), ?_, by rw [hst]; rfl, hc, ?_⟩
    · rintro cls d σ' H' ⟨C, nm, fd, v, dd, hm, rfl, rfl, hd, hQ⟩ hl
      exact met (ok.iE _ hm) (ok.vE _ hm) hl hd (fun p np => hQ p np) cs hm (fun c hc => ok.exm _ hm c hc) fun c hc hb => ok.one _ hm c hc hb
    · refine ⟨_, h, fun v H' hv => ?_⟩
      rw [hst]
      exact ⟨v, rfl, by show 2 ≤ sizeLine; decide, fun p np => hv p np⟩
end
end CO

/-! the head where _law_right makes lambdas: one table of code objects, and no display under way -/
namespace HT1
open PySem PySem.Spec PyProof.Rows L2 My
/-- nothing but the script and the table is tracked -/
def OnlyT (P : Addr) (M : Hp) : Prop := ∀ b, M b = none ∨ b = P ∨ ∃ ob xs, M b = some (.frz ob (.lst xs))
theorem head_T {P : Program} {w : World} {K : PySem.W.Frag} {mg mb : Str → Option Value} {k : Nat} {fa a c T : Addr} {fd : FuncData} {x : Str} {sp : Sp} {s1 : Shared} {vs : List Value} {ns : List Int}
    (inK : K.In s1.heap) (top : s1.heap.Ns mainGlobals mg) (blt : s1.heap.Ns builtinsNs mb) (boot : ∀ y : Str, y ≠ "__name__" → mb y = bootBuiltins y) (free : s1.heap.NoLimit) (quiet : s1.gens = #[])
    (tab : s1.heap.get? T = some { cls := .none, data := .fields #[] }) (noK : K.lookup T = none) (cod : PySem.W.CodeHd s1.heap c T)
    (main : ∃ (bm : Addr) (ob : Obj), mg "__builtins__" = some (.ref bm) ∧ bm ≠ builtinsNs ∧ s1.heap.get? bm = some ob ∧ ob.cls = .type "module" ∧ ob.dict = some builtinsNs ∧ ob.data = .plain)
    (obj : s1.heap.get? a = some { cls := .type "list", data := .seq vs.toArray }) (isI : IntsAre vs ns) (size : ns.length ≤ sizeLine) (room : Room k callerA)
    (F : ∀ base : Heap, K.In base → base.Ns mainGlobals mg → LamX.TabB base mg c T → FnG P w K mg base k fa fd [x] sp) (bind : ∀ (s : Shared) (u : Value), BindsTo s fd ⟨[u], []⟩ [(x, u)])
    (want : ∀ M : Hp, M T = some (.tbl #[]) → SqL K M a (ns.map V.int) → sp [.ref a] M (fun v _ => v = .bl true) fun _ _ _ => False) :
    codeAny (model P w) callerA (.call (.ref fa) ⟨[.ref a], []⟩) (fun r s' => r = .ok (.ret (.bool true)) ∧ OldK s1.heap s'.heap ∧ s'.os = s1.os ∧ AllBare s'.gens) s1 := by
  have rel := ints_vals isI
  have aT : a ≠ T := fun z => by
    rw [z, tab] at obj
    have q := congrArg Obj.data (Option.some.inj obj)
    cases q
  have go : ∀ M : Hp, OnlyT T M → M T = some (.tbl #[]) → SqL K M a (ns.map V.int) → HOk P w M s1.heap → (∀ b, M b ≠ none → b = T ∨ (b = a ∧ K.lookup a = none)) →
      codeAny (model P w) callerA (.call (.ref fa) ⟨[.ref a], []⟩) (fun r s' => r = .ok (.ret (.bool true)) ∧ OldK s1.heap s'.heap ∧ s'.os = s1.os ∧ AllBare s'.gens) s1 := by
    intro M only atT seq ok just
    have clear : ∀ {b : Addr} {o : Obj}, s1.heap.get? b = some o → (o = { cls := .type "list", data := .seq vs.toArray } → K.lookup a = none → False) → (o = { cls := .none, data := .fields #[] } → False) → M b = none := fun {b o} e n1 n2 => by
      rcases hb : M b with _ | y
      · rfl
      · rcases just b (by rw [hb]; exact fun z => nomatch z) with rfl | ⟨rfl, z⟩
        · rw [tab] at e
          exact (n2 (Option.some.inj e).symm).elim
        · rw [obj] at e
          exact (n1 (Option.some.inj e).symm z).elim
    have spaces : ∀ {b : Addr} {m : Str → Option Value}, s1.heap.Ns b m → (hidT s1.heap M).Ns b m := by
      rintro b m ⟨o, es, n, e, d, rest⟩
      refine ⟨o, es, n, hidT_get e (clear e (fun eo _ => ?_) fun eo => ?_), d, rest⟩ <;> (rw [eo] at d; cases d)
    have inB : K.In (hidT s1.heap M) := fun b o e => hidT_get (inK b o e) (by
      rcases hb : M b with _ | y
      · rfl
      · rcases just b (by rw [hb]; exact fun z => nomatch z) with rfl | ⟨rfl, z⟩
        · rw [noK] at e
          cases e
        · rw [z] at e
          cases e)
    have lim : ∃ mc, (hidT s1.heap M).Ns _ mc ∧ _ := free.elim fun mc z => ⟨mc, spaces z.1, z.2⟩
    have TB : LamX.TabB (hidT s1.heap M) mg c T := by
      refine ⟨?_, ?_, fun z => ?_⟩
      · obtain ⟨o, us, f1, f2, f3, f4, f5, f6, f7, e1, r1, r2, r3, rest⟩ := cod
        refine ⟨o, us, f1, f2, f3, f4, f5, f6, f7, hidT_get e1 (clear e1 (fun eo _ => ?_) fun eo => ?_), r1, r2, r3, rest⟩
        · rw [eo] at r2
          cases r2
        · rw [eo] at r2
          cases r2
          simp at r3
      · obtain ⟨bm, ob, b1, b2, b3, b4, b5, b6⟩ := main
        refine ⟨bm, ob, b1, b2, fun q => ?_, fun q => ?_, hidT_get b3 (clear b3 (fun eo _ => ?_) fun eo => ?_), b4, b5, b6⟩
        · obtain ⟨o, es, n, e, d, _⟩ := top
          rw [q, e] at b3
          cases b3
          rw [d] at b6
          cases b6
        · rw [q, tab] at b3
          cases b3
          cases b6
        · rw [eo] at b6
          cases b6
        · rw [eo] at b6
          cases b6
      · obtain ⟨o, es, n, e, d, _⟩ := top
        rw [z, tab] at e
        cases e
        cases d
    have en : Env0 P w K mg (hidT s1.heap M) callerA [] s1 M :=
      ⟨rfl, ⟨inB, spaces top, ⟨mb, spaces blt, boot⟩, lim⟩, fun _ _ e => of_hidT e, Nat.le_of_eq (hidT_size _ _), trivial, fun b z => absurd (show b ∈ ([] : List Addr) from z) List.not_mem_nil, ok, .of_eq quiet⟩
    have ran := (F _ inB (spaces top) TB).run callerA [] s1 M ⟨[.ref a], []⟩ [.ref a] [.ref a] _ _ rfl room en (bind s1 (.ref a)) (.cons rfl .nil) (want M atT seq)
    refine codeAny_mono ran fun r s' z => ?_
    rcases r with e | fl
    · exact False.elim z
    · rcases fl with _ | _ | _ | u
      · exact z.elim
      · exact z.elim
      · exact z.elim
      · obtain ⟨v, M', os, bare, un, ok', rv, hv⟩ := z
        have hv : v = .bl true := hv
        subst hv
        have hu : u = Value.bool true := rv
        subst hu
        obtain ⟨more, grown⟩ := un.tbls T #[] atT
        have grown : s'.heap.get? T = some { cls := .none, data := .fields (#[] ++ more) } := ok' T _ grown
        have same : ∀ b o, b ≠ T → s1.heap.get? b = some o → s'.heap.get? b = some o := fun b o nb e => by
          rcases hb : M b with _ | y
          · exact un.keep b o e hb (fun z => absurd (show b ∈ ([] : List Addr) from z) List.not_mem_nil) List.not_mem_nil
          · rcases only b with z | z | ⟨ob, xs, z⟩
            · rw [hb] at z
              cases z
            · exact absurd z nb
            · have still := (ok' b _ (un.frzs b _ _ z)).1
              have old := (ok b _ z).1
              rw [e] at old
              cases old
              exact still
        refine ⟨rfl, ⟨fun b o e => ?_, fun b o e => ?_⟩, os, bare⟩
        · by_cases hb : b = T
          · subst hb
            rw [tab] at e
            cases e
            exact .inr (.inl ⟨(cod.tab tab).isCodeTable, rfl, #[], _, rfl, grown⟩)
          · exact .inl (same b o hb e)
        · by_cases hb : b = T
          · subst hb
            exact ⟨_, grown⟩
          · exact ⟨o, same b o hb e⟩
  rcases known : K.lookup a with _ | o
  · let M : Hp := fun b => if b = T then some (.tbl #[]) else if b = a then some (.frz { cls := .type "list", data := .seq vs.toArray } (.lst (ns.map V.int))) else none
    have at_T : M T = some (.tbl #[]) := if_pos rfl
    have at_a : M a = some (.frz { cls := .type "list", data := .seq vs.toArray } (.lst (ns.map V.int))) := (if_neg aT).trans (if_pos rfl)
    have off : ∀ b, b ≠ T → b ≠ a → M b = none := fun b h1 h2 => (if_neg h1).trans (if_neg h2)
    refine go M (fun b => ?_) at_T (.inl (.inr ⟨_, at_a⟩)) (fun b u z => ?_) (fun b z => ?_)
    · by_cases h1 : b = T
      · exact .inr (.inl h1)
      · by_cases h2 : b = a
        · exact .inr (.inr ⟨_, _, by rw [h2]; exact at_a⟩)
        · exact .inl (off b h1 h2)
    · by_cases h1 : b = T
      · subst h1
        have z' := at_T.symm.trans z
        cases z'
        exact tab
      · by_cases h2 : b = a
        · subst h2
          have z' := at_a.symm.trans z
          cases z'
          exact ⟨obj, by rw [List.length_map]; exact size, vs, _, rel, obj⟩
        · rw [off b h1 h2] at z
          cases z
    · by_cases h1 : b = T
      · exact .inl h1
      · by_cases h2 : b = a
        · exact .inr ⟨h2, known⟩
        · exact (z (off b h1 h2)).elim
  · have e := inK a o known
    rw [obj] at e
    cases e
    let M : Hp := fun b => if b = T then some (.tbl #[]) else none
    have at_T : M T = some (.tbl #[]) := if_pos rfl
    have off : ∀ b, b ≠ T → M b = none := fun b h => if_neg h
    refine go M (fun b => ?_) at_T (.inr ⟨_, vs.toArray, _, known, rfl, rfl, rfl, by rw [List.size_toArray, isI.length]; exact size, by simpa using rel⟩) (fun b u z => ?_) (fun b z => ?_)
    · by_cases h1 : b = T
      · exact .inr (.inl h1)
      · exact .inl (off b h1)
    · by_cases h1 : b = T
      · subst h1
        have z' := at_T.symm.trans z
        cases z'
        exact tab
      · rw [off b h1] at z
        cases z
    · by_cases h1 : b = T
      · exact .inl h1
      · exact (z (off b h1)).elim
theorem walk_T {l : PySem.W.OpenLaw} {n k : Nat} {q : Program} {loose : List Str} {XP : (Str → Option Value) → Heap → Prop} {YP : World → Heap → Prop} {d : DefRec} {K : Params → PySem.W.Frag} {sp : World → Addr → Sp} {x maker : Str}
    (most : l.most = some n) (most2 : n ≤ sizeLine) (plain : d.params.defaults = []) (room : Room k callerA) (part : ∀ (w : World) (h : Heap), YP w h → (K w.params).In h) (recd : ((recsOf q).find? (fun e => e.name == maker)).isSome = true)
    (F : ∀ (w : World) (mg : Str → Option Value) (fa : Addr) (h : Heap), (K w.params).In h → h.Ns mainGlobals mg → mg d.name = some (.ref fa) → ∃ (fd : FuncData) (c T : Addr), PySem.W.tabIn (K w.params) maker = some (c, T) ∧ (K w.params).lookup T = none ∧
      (∀ (s : Shared) (u : Value), BindsTo s fd ⟨[u], []⟩ [(x, u)]) ∧ ∀ base : Heap, (K w.params).In base → base.Ns mainGlobals mg → LamX.TabB base mg c T → FnG l.prog w (K w.params) mg base k fa fd [x] (sp w T))
    (want : ∀ (w : World) (T : Addr) (M : Hp) (a : Addr) (ns : List Int), ns.length ≤ n → M T = some (.tbl #[]) → SqL (K w.params) M a (ns.map V.int) → sp w T [.ref a] M (fun v _ => v = .bl true) fun _ _ _ => False) :
    PySem.W.WalkO q loose XP YP l.row.toRowW d [] (fun f vs => PySem.call f vs) := by
  refine Att.attach_call most plain fun w s₀ s₁ mg mb fa o pm cd doc a vs ns G Y ho hd hcd hmg hobj hints hlen hg => ?_
  have inK := part w _ Y
  obtain ⟨dr, hdr⟩ := Option.isSome_iff_exists.mp recd
  obtain ⟨fd, c, T, ht, noK, bind, run⟩ := F w mg fa _ inK G.T.g hmg
  obtain ⟨cod, tab⟩ := PySem.W.tab_of G.T inK hdr ht
  exact head_T inK G.T.g G.T.b G.T.builtins G.T.nolimit hg tab noK cod G.T.bmain hobj hints (Nat.le_trans hlen most2) room run bind fun M hM seq => want w T M a ns hlen hM seq
end HT1

namespace My
open PySem PySem.Spec PyProof.Rows L2
/-! ### laws whose _law_right makes lambdas -/
/-- the name of a lambda of _law_right -/
def lamQ : Str := "_law_right.<locals>.<lambda>"
abbrev Tb (T : Addr) : List (Addr × Str) := [(T, lamQ)]
/-- all that was tracked stands, but a and the tables -/
def ButN (a : Addr) (H H' : Hp) : Prop := ∀ b o, H b = some o → b ≠ a → (∀ ps, o ≠ .tbl ps) → H' b = some o
theorem But.n {a : Addr} {H H' : Hp} (x : But a H H') : ButN a H H' := fun b o e n _ => x b o e n
theorem ButN.trans {a : Addr} {H H1 H2 : Hp} (x : ButN a H H1) (y : ButN a H1 H2) : ButN a H H2 := fun b o e n t => y b o (x b o e n t) n t
theorem extN_but {a : Addr} {H H' : Hp} (x : LamX.ExtN H H') : ButN a H H' := fun b o e _ t => x b o e t
theorem same_extN {H H' : Hp} (x : Same H H') : LamX.ExtN H H' := fun b o e _ => x b o e
theorem extN_sql {K : PySem.W.Frag} {a : Addr} {xs : List V} {H H' : Hp} (x : LamX.ExtN H H') (h : SqL K H a xs) : SqL K H' a xs := by
  rcases h with (h | ⟨o, h⟩) | h
  · exact .inl (.inl (x _ _ h fun _ z => by cases z))
  · exact .inl (.inr ⟨o, x _ _ h fun _ z => by cases z⟩)
  · exact .inr h
theorem extN_sqt {K : PySem.W.Frag} {a : Addr} {xs : List V} {H H' : Hp} (x : LamX.ExtN H H') (h : SqT K H a xs) : SqT K H' a xs := by
  rcases h with (h | ⟨o, h⟩) | h
  · exact .inl (.inl (x _ _ h fun _ z => by cases z))
  · exact .inl (.inr ⟨o, x _ _ h fun _ z => by cases z⟩)
  · exact .inr h
theorem tabs_upd {T D : Addr} {o : HO} {H : Hp} (t : LamX.Tabs (Tb T) H) (h : ∀ o', H D = some o' → (∀ ps, o' ≠ .tbl ps) ∧ ∀ q, o' ≠ LamX.CodeO D q) : LamX.Tabs (Tb T) (upd H D o) := by
  intro p hp
  obtain ⟨ps, h1, h2, h3⟩ := t p hp
  have n1 : p.1 ≠ D := fun z => by
    rw [z] at h1
    exact (h _ h1).1 ps rfl
  refine ⟨ps, by rw [upd_ne n1]; exact h1, h2, fun pos cv hc => ?_⟩
  obtain ⟨c, e1, e2⟩ := h3 pos cv hc
  refine ⟨c, e1, ?_⟩
  have n2 : c ≠ D := fun z => by
    rw [z] at e2
    exact (h _ e2).2 _ rfl
  rw [upd_ne n2]
  exact e2
theorem tabs_but {T a : Addr} {H H' : Hp} (t : LamX.Tabs (Tb T) H) (x : But a H H') (h : ∀ o', H a = some o' → (∀ ps, o' ≠ .tbl ps) ∧ ∀ q, o' ≠ LamX.CodeO a q) : LamX.Tabs (Tb T) H' := by
  intro p hp
  obtain ⟨ps, h1, h2, h3⟩ := t p hp
  refine ⟨ps, x _ _ h1 fun z => ?_, h2, fun pos cv hc => ?_⟩
  · rw [z] at h1
    exact (h _ h1).1 ps rfl
  · obtain ⟨c, e1, e2⟩ := h3 pos cv hc
    refine ⟨c, e1, x _ _ e2 fun z => ?_⟩
    rw [z] at e2
    exact (h _ e2).2 _ rfl
theorem lst_not {D : Addr} {H : Hp} {xs : List V} (h : H D = some (.lst xs)) : ∀ o', H D = some o' → (∀ ps, o' ≠ .tbl ps) ∧ ∀ q, o' ≠ LamX.CodeO D q := fun o' e => by
  rw [h] at e
  cases e
  exact ⟨fun _ z => (by cases z), fun _ z => by unfold LamX.CodeO at z; cases z⟩
theorem none_not {D : Addr} {H : Hp} (h : H D = none) : ∀ o', H D = some o' → (∀ ps, o' ≠ .tbl ps) ∧ ∀ q, o' ≠ LamX.CodeO D q := fun o' e => by
  rw [h] at e
  cases e
theorem tabs_spr {T a : Addr} {H H' : Hp} (t : LamX.Tabs (Tb T) H) (x : But a H H') (h : Spr H a) : LamX.Tabs (Tb T) H' := by
  obtain ⟨_, _, _, e⟩ := h
  exact tabs_but t x (lst_not e)
theorem tabs_same {T : Addr} {H H' : Hp} (t : LamX.Tabs (Tb T) H) (x : Same H H') : LamX.Tabs (Tb T) H' := t.ext x
/-- what such a _law_right promises -/
def spRightT (T : Addr) : Sp := fun vs H Q _ => ∃ a : Addr, vs = [.ref a] ∧ Spr H a ∧ LamX.Tabs (Tb T) H ∧ ∀ H', ButN a H H' → LamX.Tabs (Tb T) H' → Q (.bl true) H'
def spLawT (K : PySem.W.Frag) (T : Addr) : Sp := fun vs H Q _ => ∃ (a : Addr) (ns : List Int), vs = [.ref a] ∧ SqL K H a (ns.map V.int) ∧ ns.length ≤ 63 ∧ LamX.Tabs (Tb T) H ∧ ∀ H', Q (.bl true) H'
section
variable {P : Program} {w : World} {K : PySem.W.Frag} {mg : Str → Option Value} {base : Heap}
theorem ok_lawT {kR : Nat} {f fS fR T : Addr} {fd fdS fdR : FuncData} (F : Fun K "law" "law" sLaw f fd) (FS : Fun K "_law_spring" "_law_spring" sSpring fS fdS) (bS : Binds K fdS ["_law_script", "_law_k"] []) (gS : mg "_law_spring" = some (.ref fS))
    (kpR : PySem.W.keepIn K (.ref fR) = true) (GR : FnG P w K mg base (kR + 2) fR fdR ["_law_spring_here"] (spRightT T)) (bR : Binds K fdR ["_law_spring_here"] []) (gR : mg "_law_right" = some (.ref fR)) (B : Bt mg) :
    FnG P w K mg base (kR + 3) f fd ["_law_script"] (spLawT K T) := by
  have GS : FnOk P w K mg base CX0 2 fS fdS ["_law_script", "_law_k"] (spSpring K) := ok_spring FS B
  refine Fun_okG F scLaw (fun vs H Q E h => ?_) (fun cdv A outer s H vs Q E gd hr h => ?_)
  · obtain ⟨a, xs, rfl, _⟩ := h
    rfl
  · obtain ⟨a, ns, rfl, hs, hlen, hT, q⟩ := h
    have hr1 : Room 2 _ := hr.mono (by omega)
    refine ⟨_, pss_one (ps_ret (pe_callB (cr_all rfl) (by rfl) B.all (by decide +kernel) (pa_cons
      (pe_lc (own := [("_law_k", 1)]) (g := gName 1) (tt := tYes) rfl scLaw.nd
        (pi_range1 (by rfl) B.range (pa_cons (pe_callB (call_max2 rfl) (by rfl) B.max (by decide +kernel) (pa_cons pe_int (pa_cons (pe_callB (call_min2 rfl) (by rfl) B.min (by decide +kernel) (pa_cons (pe_callB call_len_seq (by rfl) B.len PySem.boot_len (pa_cons (pv 0) pa_nil)) (pa_cons pe_int pa_nil))) pa_nil))) pa_nil))
        (blkOk_by (own := [("_law_k", 1)]) (N := ["_law_script", "_law_k"]) (sc := defScope sLaw) (by decide +kernel)) (fun _ _ _ _ _ => pg_name (i := 1) scLaw.nd rfl (Or.inl rfl)) (fun _ _ _ _ _ => pts_nil)
        (fun _ _ _ _ _ => pe_callG GR gd hr (by rfl) gR kpR bR pass0 (pa_cons (pe_call GS hr1 (by rfl) gS FS.kp bS .nil pass0 (pa_cons (pv 0) (pa_cons (pv 1) pa_nil))) pa_nil)))
      pa_nil))), ?_⟩
    refine ⟨.ref a, rfl, a, _, rfl, .inl hs, _, 5, rfl, 2, _, rfl, _, rfl, ?_, ?_, ?_⟩
    · split <;> (try split) <;> rw [List.length_map] at * <;> omega
    · split <;> (try split) <;> rw [List.length_map] at * <;> omega
    · intro D nD
      refine lc_range (n := _) (fun i H2 => LamX.ExtN H H2 ∧ LamX.Tabs (Tb T) H2 ∧ H2 D = some (.lst (List.replicate i (V.bl true)))) ⟨same_extN (same_upd nD), tabs_same hT (same_upd nD), upd_same⟩ ?_ ?_
      · rintro i H2 hi ⟨sm, hT2, hD⟩
        refine ⟨rfl, .ref a, rfl, .int (0 + (i : Int)), rfl, a, _, ns, rfl, extN_sql sm hs, by omega, hlen, fun p H3 sm3 np hp => ?_⟩
        have nDp : D ≠ p := ne_of_none hD np
        refine ⟨p, rfl, hp, tabs_same hT2 sm3, fun H4 b4 hT4 => ?_⟩
        have hD4 : H4 D = some (.lst (List.replicate i (V.bl true))) := b4 _ _ (sm3 _ _ hD) nDp fun _ z => by cases z
        refine ⟨_, hD4, ?_, fun b o e t => ?_, tabs_upd hT4 (lst_not hD4), ?_⟩
        · rw [List.length_replicate]
          have hi2 : i < 6 := by
            revert hi
            split <;> (try split) <;> omega
          exact Nat.lt_of_lt_of_le hi2 (by decide)
        · have nbD : b ≠ D := ne_of_none e nD
          rw [upd_ne nbD]
          exact b4 _ _ (sm3 _ _ (sm _ _ e t)) (ne_of_none (sm _ _ e t) np) t
        · rw [upd_same, List.replicate_succ']
      · rintro H2 ⟨sm, _, hD⟩
        obtain ⟨n, hD⟩ : ∃ n, H2 D = some (.lst (List.replicate n (V.bl true))) := ⟨_, hD⟩
        refine ⟨D, List.replicate n true, rfl, ?_, ?_⟩
        · rw [List.map_replicate]
          exact SqL.of hD
        · have e : (List.replicate n true).all id = true := by simp
          rw [e]
          exact q _
end
end My
namespace My
open PySem PySem.Spec PyProof.Rows L2
section
variable {P : Program} {w : World} {K : PySem.W.Frag} {mg : Str → Option Value} {base : Heap}
/-- a def called while nothing is displayed, its code object known -/
theorem Fun_okGc {x qual : Str} {st : Stmt} {f c : Addr} {fd : FuncData} {N ps : List Str} {k : Nat} {sp : Sp} (F : Fun K x qual st f fd) (hcode : fd.code = .ref c) (S : FnScope N ps (defScope st)) (len : ∀ xs M Q E, sp xs M Q E → xs.length = ps.length)
    (body : ∀ (A : Around) (up : List Env) (s : Shared) (M : Hp) (xs : List V) (Q : VK) (E : XK), A.guards = some [] → Room k (A.deeper (envOfC qual (defScope st) s.heap.objs.size f (.ref c))) → sp xs M Q E →
      ∃ t, PSs (cxOf CX0 P w K mg base N qual (defScope st) f (.ref c) A up s M E).nox (defBody st) t ∧ t { nx := fun _ M' => Q .non M', rt := Q } (start N xs) M) : FnG P w K mg base (k + 1) f fd ps sp := by
  obtain ⟨oc, od, kV, doc, pm, an, cdv, ct, osl, rfl, look, hc⟩ := F.ex
  have e : cdv = .ref c := hcode
  subst e
  refine ⟨len, fun A up s M given us xs Q E gd room en bd rel want => ?_⟩
  have inK : K.In s.heap := en.mod.kin.keeps fun b o e => (en.bs b o e).1
  have free := en.mod.nolimit.keeps (h' := s.heap) fun b o e => (en.bs b o e).1
  have many := len _ _ _ _ want
  have kinds : ∀ y ∈ ps.zip us, (defScope st).names.lookup y.1 = some .local ∨ ((defScope st).names.lookup y.1 = some .cell ∧ ((cellsFrom (s.heap.objs.size + 1) (defScope st).names []).lookup y.1).isSome = true) := by
    rintro ⟨n, v⟩ hy
    rcases S.par n (List.of_mem_zip hy).1 with z | z
    · exact .inl z
    · exact .inr ⟨z, PySem.W.cellsFrom_some _ _ _ (.inl z)⟩
  refine codeAny_call_function room.depth (inK _ _ look) rfl S.co S.gen rfl (PySem.W.codeRec_of inK hc) (bd _ _ _ _ ?_)
  refine wpAny_newFunctionEnv_cells S.kind kinds fun env same s1 made => ?_
  subst same
  refine ⟨free.keeps made.toInCall.keep, codeAny_func ?_⟩
  obtain ⟨t, h0, q⟩ := body A up s M xs Q E gd (room.deeper _) want
  have h1 := h0.nox
  have J := inv_start (CX := CX0) (E := E) S room.hd en many rel made
  refine wpAny_mono (h1.run [] s1 (start N xs) M _ J q) (fun fl s' z => ?_) fun e s' z => z
  cases fl with
  | ret u =>
    obtain ⟨v, σ', M', I, rv, hq⟩ := z
    exact ⟨v, M', I.os, I.bare, I.base, I.hok, rv, hq⟩
  | next =>
    obtain ⟨σ', M', I, hq⟩ := z
    exact ⟨V.non, M', I.os, I.bare, I.base, I.hok, rfl, hq⟩
  | brk => exact z.elim fun _ z => z.elim fun _ z => z.2.elim
  | cont => exact z.elim fun _ z => z.elim fun _ z => z.2.elim
end
end My

namespace My
open PySem PySem.Spec PyProof.Rows L2
/-! ### things of any kind -/
inductive Th where
  | non
  | bl (b : Bool)
  | int (i : Int)
  | str (s : Str)
  | lst (xs : List Th)
  | tup (xs : List Th)
  | dic
  | lad (us : List (Str × Int)) (d : Nat) (s : Str) (c : Bool) (l : Int)
mutual
/-- the value v is such a thing -/
inductive Ta (K : PySem.W.Frag) (C : Addr) (H : Hp) : V → Th → Prop
  | non : Ta K C H .non .non
  | bl (b : Bool) : Ta K C H (.bl b) (.bl b)
  | int (i : Int) : Ta K C H (.int i) (.int i)
  | str (s : Str) (h : s.length ≤ 1000) : Ta K C H (.str s) (.str s)
  | lst {a : Addr} {vs : List V} {ds : List Th} (h : H a = some (.lst vs)) (t : TaAll K C H vs ds) : Ta K C H (.ref a) (.lst ds)
  | tup {a : Addr} {vs : List V} {ds : List Th} (h : SqT K H a vs) (t : TaAll K C H vs ds) : Ta K C H (.ref a) (.tup ds)
  | dic {a : Addr} (h : H a = some (.dK [])) : Ta K C H (.ref a) .dic
  | lad {a : Addr} {us : List (Str × Int)} {d : Nat} {s : Str} {c : Bool} {l : Int} (h : LadAt K C H a us d s c l) (g : Good us d s l) : Ta K C H (.ref a) (.lad us d s c l)
inductive TaAll (K : PySem.W.Frag) (C : Addr) (H : Hp) : List V → List Th → Prop
  | nil : TaAll K C H [] []
  | cons {v : V} {t : Th} {vs : List V} {ts : List Th} (h : Ta K C H v t) (r : TaAll K C H vs ts) : TaAll K C H (v :: vs) (t :: ts)
end
theorem UA.extN {K : PySem.W.Frag} {H H' : Hp} {a : Addr} {us : List (Str × Int)} (s : LamX.ExtN H H') (h : UA K H a us) : UA K H' a us := by
  obtain ⟨ps, h1, h2⟩ := h
  exact ⟨ps, extN_sqt s h1, paired_imp (fun _ _ => extN_sqt s) h2⟩
theorem LadAt.extN {K : PySem.W.Frag} {C : Addr} {H H' : Hp} {p : Addr} {us : List (Str × Int)} {d : Nat} {s : Str} {c : Bool} {l : Int} (k : LamX.ExtN H H') (h : LadAt K C H p us d s c l) : LadAt K C H' p us d s c l := by
  obtain ⟨dx, ua, t, st, th, h1, h2, h3, h4, h5⟩ := h
  exact ⟨dx, ua, t, st, th, k _ _ h1 (fun _ z => by cases z), h2.extN k, extN_sqt k h3, extN_sqt k h4, extN_sqt k h5⟩
mutual
theorem Ta.extN {K : PySem.W.Frag} {C : Addr} {H H' : Hp} (k : LamX.ExtN H H') : ∀ (t : Th) (v : V), Ta K C H v t → Ta K C H' v t
  | .non, _, h => by
    cases h
    exact .non
  | .bl _, _, h => by
    cases h
    exact .bl _
  | .int _, _, h => by
    cases h
    exact .int _
  | .str _, _, h => by
    cases h with
    | str _ h => exact .str _ h
  | .lst ds, _, h => by
    cases h with
    | lst h t => exact .lst (k _ _ h fun _ z => by cases z) (TaAll.extN k ds _ t)
  | .tup ds, _, h => by
    cases h with
    | tup h t => exact .tup (extN_sqt k h) (TaAll.extN k ds _ t)
  | .dic, _, h => by
    cases h with
    | dic h => exact .dic (k _ _ h fun _ z => by cases z)
  | .lad .., _, h => by
    cases h with
    | lad h g => exact .lad (h.extN k) g
theorem TaAll.extN {K : PySem.W.Frag} {C : Addr} {H H' : Hp} (k : LamX.ExtN H H') : ∀ (ts : List Th) (vs : List V), TaAll K C H vs ts → TaAll K C H' vs ts
  | [], _, h => by
    cases h
    exact .nil
  | t :: ts, _, h => by
    cases h with
    | cons h1 h2 => exact .cons (Ta.extN k t _ h1) (TaAll.extN k ts _ h2)
end
theorem Ta.to {K : PySem.W.Frag} {C : Addr} {H H' : Hp} {v : V} {t : Th} (h : Ta K C H v t) (k : LamX.ExtN H H') : Ta K C H' v t := Ta.extN k t v h
theorem Ta.sm {K : PySem.W.Frag} {C : Addr} {H H' : Hp} {v : V} {t : Th} (h : Ta K C H v t) (k : Same H H') : Ta K C H' v t := h.to (same_extN k)
theorem TaAll.to {K : PySem.W.Frag} {C : Addr} {H H' : Hp} {vs : List V} {ts : List Th} (h : TaAll K C H vs ts) (k : LamX.ExtN H H') : TaAll K C H' vs ts := TaAll.extN k ts vs h
theorem TaAll.sm {K : PySem.W.Frag} {C : Addr} {H H' : Hp} {vs : List V} {ts : List Th} (h : TaAll K C H vs ts) (k : Same H H') : TaAll K C H' vs ts := h.to (same_extN k)
theorem TaAll.len {K : PySem.W.Frag} {C : Addr} {H : Hp} : ∀ {vs : List V} {ts : List Th}, TaAll K C H vs ts → vs.length = ts.length
  | _, _, .nil => rfl
  | _, _, .cons _ r => by rw [List.length_cons, List.length_cons, r.len]
theorem TaAll.at {K : PySem.W.Frag} {C : Addr} {H : Hp} : ∀ {vs : List V} {ts : List Th} {i : Nat} {v : V}, TaAll K C H vs ts → vs[i]? = some v → ∃ t, ts[i]? = some t ∧ Ta K C H v t
  | _, _, i, v, .nil, e => by simp at e
  | _, _, 0, v, .cons h _, e => by
    simp at e
    subst e
    exact ⟨_, rfl, h⟩
  | _, _, i + 1, v, .cons _ r, e => by
    obtain ⟨t, h1, h2⟩ := TaAll.at (i := i) (v := v) r (by simpa using e)
    exact ⟨t, by simpa using h1, h2⟩
theorem TaAll.app {K : PySem.W.Frag} {C : Addr} {H : Hp} : ∀ {vs ws : List V} {ts us : List Th}, TaAll K C H vs ts → TaAll K C H ws us → TaAll K C H (vs ++ ws) (ts ++ us)
  | _, _, _, _, .nil, h => h
  | _, _, _, _, .cons h r, k => .cons h (r.app k)
theorem TaAll.mem {K : PySem.W.Frag} {C : Addr} {H : Hp} {vs : List V} {ts : List Th} {v : V} (h : TaAll K C H vs ts) (hv : v ∈ vs) : ∃ t ∈ ts, Ta K C H v t := by
  obtain ⟨i, hi⟩ := List.getElem?_of_mem hv
  obtain ⟨t, h1, h2⟩ := h.at hi
  exact ⟨t, List.mem_of_getElem? h1, h2⟩
/-! ### what kind of thing it is -/
def Th.is (n : String) : Th → Bool
  | .non => n == "NoneType"
  | .bl _ => n == "bool" || n == "int"
  | .int _ => n == "int"
  | .str _ => n == "str"
  | .lst _ => n == "list"
  | .tup _ => n == "tuple"
  | .dic => n == "dict"
  | .lad .. => false
def Th.isLad : Th → Bool
  | .lad .. => true
  | _ => false
/-- what the questions about kinds ask of the class -/
structure KitO (K : PySem.W.Frag) (C : Addr) : Prop where
  own : ∀ n ∈ ["int", "bool", "str", "tuple"], PySem.W.kitOne K (.ref C) (.type n) = some false
  typ : ∀ n ∈ ["NoneType", "bool", "int", "str", "list", "tuple", "dict"], PySem.W.kitOne K (.type n) (.ref C) = some false
theorem tyx_lst {K : PySem.W.Frag} {H : Hp} {p : Addr} {xs : List V} (h : SqL K H p xs) : TyX K H (.ref p) (.type "list") := by
  rcases h with (h | ⟨o, h⟩) | ⟨o, its, n, h1, h2, _⟩
  · exact .base (.lst h)
  · exact .base (.frz h)
  · exact .kList h1 h2
theorem Ta.ty {K : PySem.W.Frag} {mg : Str → Option Value} {H : Hp} {v : V} {t : Th} (L : LadC K mg) (I : LadI K L.C) (k : KitO K L.C) (h : Ta K L.C H v t) :
    ∃ T, TyX K H v T ∧ (∀ n ∈ ["int", "bool", "str", "tuple"], PySem.W.kitOne K T (.type n) = some (t.is n)) ∧ PySem.W.kitOne K T (.ref L.C) = some t.isLad := by
  cases h with
  | non =>
    refine ⟨_, .base .non, fun n hn => ?_, k.typ _ (by simp)⟩
    simp only [List.mem_cons, List.not_mem_nil, or_false] at hn
    rcases hn with rfl | rfl | rfl | rfl <;> first | exact kit_ty (r := true) (by decide +kernel) | exact kit_ty (r := false) (by decide +kernel)
  | bl b =>
    refine ⟨_, .base (.bl b), fun n hn => ?_, k.typ _ (by simp)⟩
    simp only [List.mem_cons, List.not_mem_nil, or_false] at hn
    rcases hn with rfl | rfl | rfl | rfl <;> first | exact kit_ty (r := true) (by decide +kernel) | exact kit_ty (r := false) (by decide +kernel)
  | int i =>
    refine ⟨_, .base (.int i), fun n hn => ?_, k.typ _ (by simp)⟩
    simp only [List.mem_cons, List.not_mem_nil, or_false] at hn
    rcases hn with rfl | rfl | rfl | rfl <;> first | exact kit_ty (r := true) (by decide +kernel) | exact kit_ty (r := false) (by decide +kernel)
  | str s _ =>
    refine ⟨_, .base (.str s), fun n hn => ?_, k.typ _ (by simp)⟩
    simp only [List.mem_cons, List.not_mem_nil, or_false] at hn
    rcases hn with rfl | rfl | rfl | rfl <;> first | exact kit_ty (r := true) (by decide +kernel) | exact kit_ty (r := false) (by decide +kernel)
  | lst h _ =>
    refine ⟨_, .base (.lst h), fun n hn => ?_, k.typ _ (by simp)⟩
    simp only [List.mem_cons, List.not_mem_nil, or_false] at hn
    rcases hn with rfl | rfl | rfl | rfl <;> first | exact kit_ty (r := true) (by decide +kernel) | exact kit_ty (r := false) (by decide +kernel)
  | tup h _ =>
    refine ⟨_, tyx_tup h, fun n hn => ?_, k.typ _ (by simp)⟩
    simp only [List.mem_cons, List.not_mem_nil, or_false] at hn
    rcases hn with rfl | rfl | rfl | rfl <;> first | exact kit_ty (r := true) (by decide +kernel) | exact kit_ty (r := false) (by decide +kernel)
  | dic h =>
    refine ⟨_, .base (.dK h), fun n hn => ?_, k.typ _ (by simp)⟩
    simp only [List.mem_cons, List.not_mem_nil, or_false] at hn
    rcases hn with rfl | rfl | rfl | rfl <;> first | exact kit_ty (r := true) (by decide +kernel) | exact kit_ty (r := false) (by decide +kernel)
  | lad h _ =>
    obtain ⟨dx, ua, t, st, th, hp, _⟩ := h
    exact ⟨_, .base (.ins hp L.cl I.i1 I.i2 I.i3 I.i4), k.own, I.i5⟩
theorem iteB {c : Bool} {P Q : Prop} (h : c = true) (p : P) : if c = true then P else Q := by
  subst h
  exact iteT p
def Th.isI : Th → Bool
  | .int _ => true
  | _ => false
def Th.within (lo hi : Int) : Th → Bool
  | .int i => decide (lo ≤ i ∧ i ≤ hi)
  | _ => false
def Th.isName : Th → Bool
  | .str z => decide (z.length ≤ 3) && decide (Txt.stripChars z letters = "")
  | _ => false
def Th.isUnit : Th → Bool
  | .tup [a, b] => a.isName && b.within 1 1000000000000000000
  | _ => false
theorem Th.tup_or (t : Th) : (∃ ds, t = .tup ds) ∨ (t.is "tuple" = false ∧ t.isUnit = false) := by
  cases t with
  | tup ds => exact .inl ⟨ds, rfl⟩
  | _ => exact .inr ⟨by rfl, by rfl⟩
theorem Ta.tup_inv {K : PySem.W.Frag} {C : Addr} {H : Hp} {v : V} {ds : List Th} (h : Ta K C H v (.tup ds)) : ∃ (a : Addr) (vs : List V), v = .ref a ∧ SqT K H a vs ∧ TaAll K C H vs ds := by
  cases h with
  | tup h t => exact ⟨_, _, rfl, h, t⟩
theorem TaAll.two {K : PySem.W.Frag} {C : Addr} {H : Hp} {vs : List V} {ds : List Th} (h : TaAll K C H vs ds) (h2 : vs.length = 2) : ∃ x y a b, vs = [x, y] ∧ ds = [a, b] ∧ Ta K C H x a ∧ Ta K C H y b := by
  match vs, ds, h, h2 with
  | [x, y], [a, b], .cons hx (.cons hy .nil), _ => exact ⟨x, y, a, b, rfl, rfl, hx, hy⟩
theorem TaAll.three {K : PySem.W.Frag} {C : Addr} {H : Hp} {vs : List V} {ds : List Th} (h : TaAll K C H vs ds) (h3 : vs.length = 3) : ∃ x y z a b c, vs = [x, y, z] ∧ ds = [a, b, c] ∧ Ta K C H x a ∧ Ta K C H y b ∧ Ta K C H z c := by
  match vs, ds, h, h3 with
  | [x, y, z], [a, b, c], .cons hx (.cons hy (.cons hz .nil)), _ => exact ⟨x, y, z, a, b, c, rfl, rfl, hx, hy, hz⟩
theorem unit_two {ds : List Th} (h : ds.length ≠ 2) : (Th.tup ds).isUnit = false := by
  match ds, h with
  | [], _ => rfl
  | [_], _ => rfl
  | [_, _], h => exact absurd rfl h
  | _ :: _ :: _ :: _, _ => rfl
theorem len_ne {n m : Nat} (h : n ≠ m) : (!decide (V.int (n : Int) = V.int (m : Int))) = true := by
  rw [decide_eq_false (fun w => h (by have := V.int.inj w; omega))]
  rfl
theorem len_eq {n m : Nat} (h : n = m) : (!decide (V.int (n : Int) = V.int (m : Int))) = false := by
  rw [h, decide_eq_true rfl]
  rfl
def spIntT (K : PySem.W.Frag) (C : Addr) : Sp := fun vs H Q _ => ∃ (v : V) (t : Th), vs = [v] ∧ Ta K C H v t ∧ Q (.bl t.isI) H
def spWithinT (K : PySem.W.Frag) (C : Addr) : Sp := fun vs H Q _ => ∃ (v : V) (t : Th) (lo hi : Int), vs = [v, .int lo, .int hi] ∧ Ta K C H v t ∧ Q (.bl (t.within lo hi)) H
def spUNameT (K : PySem.W.Frag) (C : Addr) : Sp := fun vs H Q _ => ∃ (v : V) (t : Th), vs = [v] ∧ Ta K C H v t ∧ Q (.bl t.isName) H
def spUnitT (K : PySem.W.Frag) (C : Addr) : Sp := fun vs H Q _ => ∃ (v : V) (t : Th), vs = [v] ∧ Ta K C H v t ∧ Q (.bl t.isUnit) H
section
variable {P : Program} {w : World} {K : PySem.W.Frag} {mg : Str → Option Value} {base : Heap}
theorem ok_integerT (d : Dd K mg "is_integer" sInteger ["value"]) (L : LadC K mg) (I : LadI K L.C) (k : KitO K L.C) (B : Bt mg) : FnOk P w K mg base CX0 1 d.f d.fd ["value"] (spIntT K L.C) := by
  refine d.F.ok scInteger (fun vs H Q E h => ?_) (fun cdv A outer s H vs Q E hr h => ?_)
  · obtain ⟨_, _, rfl, _⟩ := h
    rfl
  · obtain ⟨v, t, rfl, ht, q⟩ := h
    obtain ⟨T, h1, h2, _⟩ := ht.ty L I k
    refine ⟨_, pss_one (ps_ret (pe_and (pe_callB call_isi (by rfl) B.isinstance (by decide +kernel) (pa_cons (pv 0) (pa_cons (pe_bltn (v := .ty "int") (by rfl) B.int (by decide +kernel) rfl) pa_nil)))
      (pe_one (pe_not (pe_callB call_isi (by rfl) B.isinstance (by decide +kernel) (pa_cons (pv 0) (pa_cons (pe_bltn (v := .ty "bool") (by rfl) B.bool (by decide +kernel) rfl) pa_nil))))))), ?_⟩
    refine ⟨_, rfl, _, _, _, _, _, rfl, .ty "int", h1, h2 "int" (by simp), _, rfl, ?_⟩
    cases t with
    | int i => exact iteT ⟨_, rfl, _, _, _, _, _, rfl, .ty "bool", h1, h2 "bool" (by simp), _, rfl, q⟩
    | bl b => exact iteT ⟨_, rfl, _, _, _, _, _, rfl, .ty "bool", h1, h2 "bool" (by simp), _, rfl, q⟩
    | _ => exact iteF q
theorem ok_withinT (d : DdW K mg) (L : LadC K mg) (I : LadI K L.C) (k : KitO K L.C) (B : Bt mg) : FnOk P w K mg base CX0 2 d.f d.fd ["value", "low", "high"] (spWithinT K L.C) := by
  have GI : FnOk P w K mg base CX0 1 d.dI.f d.dI.fd ["value"] (spIntT K L.C) := ok_integerT d.dI L I k B
  refine d.F.ok scWithin (fun vs H Q E h => ?_) (fun cdv A outer s H vs Q E hr h => ?_)
  · obtain ⟨_, _, _, _, rfl, _⟩ := h
    rfl
  · obtain ⟨v, t, lo, hi, rfl, ht, q⟩ := h
    refine ⟨_, pss_one (ps_ret (pe_and (pe_call GI hr (by rfl) d.dI.g d.dI.F.kp d.dI.b .nil pass0 (pa_cons (pv 0) pa_nil))
        (pe_one (pe_chain op_le op_le (pv 1) (pv 0) (pv 2))))), ?_⟩
    refine ⟨v, rfl, v, t, rfl, ht, _, rfl, ?_⟩
    cases t with
    | int v =>
      cases ht
      refine iteT ⟨.int lo, rfl, .int v, rfl, lo, v, rfl, rfl, _, rfl, ite2 (fun e => ?_) (fun e => ?_)⟩
      · have h1 : lo ≤ v := of_decide_eq_true e
        refine ⟨.int hi, rfl, v, hi, rfl, rfl, ?_⟩
        have e2 : decide (v ≤ hi) = (Th.int v).within lo hi := by simp [Th.within, h1]
        show Q (.bl (decide (v ≤ hi))) H
        rw [← e2] at q
        exact q
      · have h1 : ¬ lo ≤ v := fun z => e (decide_eq_true z)
        have e2 : false = (Th.int v).within lo hi := by simp [Th.within, h1]
        rw [← e2] at q
        exact q
    | _ => exact iteF q
theorem ok_unameT (d : Dd K mg "is_unit_name" sUName ["name"]) (L : LadC K mg) (I : LadI K L.C) (k : KitO K L.C) (B : Bt mg) (G : Gc K mg) : FnOk P w K mg base CX0 2 d.f d.fd ["name"] (spUNameT K L.C) := by
  obtain ⟨t1, g1⟩ := G.mlet
  obtain ⟨t2, g2⟩ := G.letters
  refine d.F.ok scUName (fun vs H Q E h => ?_) (fun cdv A outer s H vs Q E hr h => ?_)
  · obtain ⟨_, _, rfl, _⟩ := h
    rfl
  · obtain ⟨v, t, rfl, ht, q⟩ := h
    obtain ⟨T, h1, h2, _⟩ := ht.ty L I k
    refine ⟨_, pss_one (ps_ret (pe_and (pe_callB call_isi (by rfl) B.isinstance (by decide +kernel) (pa_cons (pv 0) (pa_cons (pe_bltn (v := .ty "str") (by rfl) B.str (by decide +kernel) rfl) pa_nil)))
      (pe_and (pe_cmpR op_le (pe_callB call_len_str (by rfl) B.len PySem.boot_len (pa_cons (pv 0) pa_nil)) (pe_glob (v := .int 3) (by rfl) g1 ⟨_, rfl⟩) (nomark _))
        (pe_one (pe_cmpR op_eq (pe_bm PySem.F.plainAttrs_str PySem.F.slot_str_strip PySem.F.type_str_strip mt_stripChars (pv 0) (pa_cons (pe_glob (v := .str letters) (by rfl) g2 ⟨_, rfl⟩) pa_nil)) pe_str (nomark _)))))), ?_⟩
    refine ⟨_, rfl, _, _, _, _, _, rfl, .ty "str", h1, h2 "str" (by simp), _, rfl, ?_⟩
    cases t with
    | str z =>
      cases ht with
      | str _ hz =>
      refine iteT ⟨.str z, rfl, z, rfl, Nat.le_trans hz (by decide), _, _, rfl, rfl, _, rfl, ite2 (fun e => ?_) (fun e => ?_)⟩
      · have h3 : z.length ≤ 3 := by
          have h := of_decide_eq_true e
          omega
        refine ⟨.str z, rfl, rfl, z, _, rfl, rfl, Nat.le_trans hz (by decide), rfl, ?_⟩
        have e2 : decide (V.str (Txt.stripChars z letters) = V.str "") = (Th.str z).isName := by
          simp [Th.isName, h3]
        rw [← e2] at q
        exact q
      · have h3 : ¬ z.length ≤ 3 := fun h => e (decide_eq_true (by omega))
        have e2 : false = (Th.str z).isName := by simp [Th.isName, h3]
        rw [← e2] at q
        exact q
    | _ => exact iteF q
theorem ok_unitT (d : Dd K mg "is_unit" sUnit ["unit"]) (dN : Dd K mg "is_unit_name" sUName ["name"]) (dW : DdW K mg) (L : LadC K mg) (I : LadI K L.C) (k : KitO K L.C) (B : Bt mg) (G : Gc K mg) : FnOk P w K mg base CX0 3 d.f d.fd ["unit"] (spUnitT K L.C) := by
  obtain ⟨t1, g1⟩ := G.num
  have GN : FnOk P w K mg base CX0 2 dN.f dN.fd ["name"] (spUNameT K L.C) := ok_unameT dN L I k B G
  have GW : FnOk P w K mg base CX0 2 dW.f dW.fd ["value", "low", "high"] (spWithinT K L.C) := ok_withinT dW L I k B
  refine d.F.ok scUnit (fun vs H Q E h => ?_) (fun cdv A outer s H vs Q E hr h => ?_)
  · obtain ⟨_, _, rfl, _⟩ := h
    rfl
  · obtain ⟨v, t, rfl, ht, q⟩ := h
    obtain ⟨T, h1, h2, _⟩ := ht.ty L I k
    refine ⟨_, pss_cons (ps_if (PW.pt (pw_or (pt_not (pt_val (pe_callB call_isi (by rfl) B.isinstance (by decide +kernel) (pa_cons (pv 0) (pa_cons (pe_bltn (v := .ty "tuple") (by rfl) B.tuple (by decide +kernel) rfl) pa_nil)))))
        (pw_or1 (pt_cmpR op_ne (pe_callB call_len_seq (by rfl) B.len PySem.boot_len (pa_cons (pv 0) pa_nil)) pe_int (nomark _))))) (pss_one (ps_ret pe_bl)) pss_nil)
      (pss_one (ps_ret (pe_and (pe_call GN hr (by rfl) dN.g dN.F.kp dN.b .nil pass0 (pa_cons (pe_ix ix_tup (pv 0) pe_int (fun _ _ => rfl)) pa_nil))
        (pe_one (pe_call GW hr (by rfl) dW.g dW.F.kp dW.b .nil pass0 (pa_cons (pe_ix ix_tup (pv 0) pe_int (fun _ _ => rfl)) (pa_cons pe_int (pa_cons (pe_glob (v := .int 1000000000000000000) (by rfl) g1 ⟨_, rfl⟩) pa_nil)))))))), ?_⟩
    refine ⟨_, rfl, _, _, _, _, _, rfl, .ty "tuple", h1, h2 "tuple" (by simp), _, rfl, ?_⟩
    rcases t.tup_or with ⟨ds, rfl⟩ | ⟨et, eu⟩
    · obtain ⟨a, vs, rfl, hp, hd⟩ := ht.tup_inv
      have hl := hd.len
      refine iteF ⟨.ref a, rfl, a, _, rfl, .inr hp, rfl, _, rfl, ?_⟩
      by_cases hv : vs.length = 2
      · obtain ⟨x, y, a1, a2, rfl, rfl, hx, hy⟩ := hd.two hv
        refine iteE (len_eq (m := 2) hv) ⟨.ref a, rfl, a, _, 0, x, rfl, rfl, hp, rfl, x, a1, rfl, hx, _, rfl, ?_⟩
        have e2 : (Th.tup [a1, a2]).isUnit = (a1.isName && a2.within 1 1000000000000000000) := rfl
        rw [e2] at q
        cases hn : a1.isName with
        | false =>
          rw [hn] at q
          exact iteF q
        | true =>
          rw [hn] at q
          exact iteT ⟨.ref a, rfl, a, _, 1, y, rfl, rfl, hp, rfl, y, a2, 1, _, rfl, hy, q⟩
      · rw [unit_two (fun z => hv (by omega))] at q
        exact iteB (len_ne (m := 2) hv) q
    · rw [eu] at q
      exact iteB (by rw [et]; rfl) q
end
end My

namespace My
open PySem PySem.Spec PyProof.Rows L2
/-! ### texts of any kind, read as figures -/
theorem rstrip_le (z : Str) : (Txt.rstripChars z letters).length ≤ z.length := by
  unfold Txt.rstripChars
  rw [stripBy_eq]
  unfold Builtin.Str.strSub
  rw [str_len, str_len, Array.toList_extract, List.extract_eq_drop_take, List.length_take, List.length_drop]
  omega
theorem repl_le (z : Str) : (Txt.replace z "." "").length ≤ z.length := by
  rw [str_len, str_len, replace_point]
  exact List.length_filter_le _ _
theorem dval_lt : ∀ (n : Nat) (cs : List Nat), cs.length = n → (∀ c ∈ cs, c ≤ 57) → NumText.digitsVal cs < 10 ^ n
  | 0, cs, h, _ => by
    rw [List.eq_nil_of_length_eq_zero h]
    decide
  | n + 1, cs, h, hc => by
    have hne : cs ≠ [] := fun z => by
      rw [z] at h
      cases h
    have e := List.dropLast_concat_getLast hne
    have l : cs.dropLast.length = n := by rw [List.length_dropLast]; omega
    have ih := dval_lt n cs.dropLast l fun c hm => hc c ((List.dropLast_sublist cs).subset hm)
    have hl := hc _ (List.getLast_mem hne)
    rw [← e, NumText.digitsVal_snoc, Nat.pow_succ]
    omega
def isMarkB (z : Str) : Bool := Txt.isascii z && (Txt.isdigit z && decide (z.length ≤ 24))
def markV (z : Str) : Int := (NumText.digitsVal z.cps.toList : Nat)
def unitP (us : List (Str × Int)) (z : Str) : Option Nat := us.findIdx? fun u => decide (u.1 = z)
def figT (us : List (Str × Int)) (d : Nat) (z : Str) : Option (Nat × Int) :=
  match unitP us (cutS z (some ((Txt.rstripChars z letters).length : Int)) none) with
  | none => none
  | some p => if isMarkB (Txt.replace (Txt.rstripChars z letters) "." "") = true then (if writ us d p (markV (Txt.replace (Txt.rstripChars z letters) "." "")) = z then some (p, markV (Txt.replace (Txt.rstripChars z letters) "." "")) else none) else none
theorem mark_ok {z : Str} (h : isMarkB z = true) : PySem.intText? z = some (markV z) ∧ 0 ≤ markV z ∧ markV z < 10 ^ 24 ∧ z.length ≤ 24 := by
  unfold isMarkB at h
  rw [Bool.and_eq_true, Bool.and_eq_true] at h
  obtain ⟨h1, h2, h3⟩ := h
  have h3 := of_decide_eq_true h3
  unfold Txt.isascii at h1
  unfold Txt.isdigit at h2
  rw [Bool.and_eq_true] at h2
  obtain ⟨h2, h4⟩ := h2
  have h2 := of_decide_eq_true h2
  rw [← Array.all_toList, List.all_eq_true] at h1 h4
  have hd : ∀ k, k < 128 → Unicode.isDigit k = true → 48 ≤ k ∧ k ≤ 57 := by decide +kernel
  have all : ∀ c ∈ z.cps.toList, 48 ≤ c ∧ c ≤ 57 := fun c hc => hd c (by have := of_decide_eq_true (h1 c hc); omega) (h4 c hc)
  have ne : z.cps.toList ≠ [] := fun e => by
    rw [str_len, e] at h2
    simp at h2
  refine ⟨PySem.intText_digits all ne (by omega), Int.natCast_nonneg _, ?_, h3⟩
  have := dval_lt z.cps.toList.length z.cps.toList rfl fun c hc => (all c hc).2
  have l : z.cps.toList.length ≤ 24 := by rw [← str_len]; exact h3
  have p := Nat.pow_le_pow_right (show 0 < 10 by decide) l
  show ((NumText.digitsVal z.cps.toList : Nat) : Int) < 10 ^ 24
  have q : NumText.digitsVal z.cps.toList < 10 ^ 24 := Nat.lt_of_lt_of_le this p
  omega
theorem unitP_some {us : List (Str × Int)} {z : Str} {p : Nat} (h : unitP us z = some p) : ∃ u, us[p]? = some u ∧ u.1 = z ∧ ∀ m v, m < p → us[m]? = some v → v.1 ≠ z := by
  unfold unitP at h
  obtain ⟨h1, h2, h3⟩ := List.findIdx?_eq_some_iff_getElem.mp h
  refine ⟨us[p], List.getElem?_eq_getElem h1, of_decide_eq_true h2, fun m v hm hv e => ?_⟩
  have := h3 m hm
  rw [(List.getElem?_eq_some_iff.mp hv).2] at this
  exact this (decide_eq_true e)
theorem unitP_none {us : List (Str × Int)} {z : Str} (h : unitP us z = none) : ∀ u ∈ us, u.1 ≠ z := fun u hu e => by
  have := List.findIdx?_eq_none_iff.mp h u hu
  rw [decide_eq_true e] at this
  cases this
theorem figT_of {us : List (Str × Int)} {d p : Nat} {m : Int} {z : Str} (h : figT us d z = some (p, m)) : p < us.length ∧ 0 ≤ m ∧ m < 10 ^ 24 ∧ z = writ us d p m := by
  unfold figT at h
  cases e : unitP us (cutS z (some ((Txt.rstripChars z letters).length : Int)) none) with
  | none =>
    rw [e] at h
    cases h
  | some p' =>
    rw [e] at h
    simp only at h
    split at h
    · rename_i hm
      split at h
      · rename_i hw
        cases h
        obtain ⟨u, hu, _⟩ := unitP_some e
        obtain ⟨_, m0, m1, _⟩ := mark_ok hm
        exact ⟨(List.getElem?_eq_some_iff.mp hu).1, m0, m1, hw.symm⟩
      · cases h
    · cases h
def Th.fig (us : List (Str × Int)) (d : Nat) : Th → Option (Nat × Int)
  | .str z => figT us d z
  | _ => none
theorem str_or2 (t : Th) : (∃ z, t = .str z) ∨ (t.is "str" = false ∧ ∀ us d, t.fig us d = none) := by
  cases t with
  | str z => exact .inl ⟨z, rfl⟩
  | _ => exact .inr ⟨by rfl, fun _ _ => by rfl⟩
theorem ta_strL {K : PySem.W.Frag} {C : Addr} {H : Hp} {u : V} {s : Str} (h : Ta K C H u (.str s)) : u = .str s ∧ s.length ≤ 1000 := by
  cases h with
  | str _ h => exact ⟨rfl, h⟩
def spIsMarkT : Sp := fun vs H Q _ => ∃ z : Str, vs = [.str z] ∧ z.length ≤ 1000 ∧ Q (.bl (isMarkB z)) H
def spPlaceUT (K : PySem.W.Frag) (C : Addr) : Sp := fun vs H Q _ => ∃ (a : Addr) (us : List (Str × Int)) (d : Nat) (s : Str) (c : Bool) (l : Int) (z : Str), vs = [.ref a, .str z] ∧ LadAt K C H a us d s c l ∧ Good us d s l ∧
  (unitP us z = none → ∀ H', Same H H' → Q .non H') ∧ ∀ p, unitP us z = some p → ∀ H', Same H H' → Q (.int (p : Int)) H'
def spPartsT (K : PySem.W.Frag) (C : Addr) : Sp := fun vs H Q _ => ∃ (a : Addr) (us : List (Str × Int)) (d : Nat) (s : Str) (c : Bool) (l : Int) (v : V) (t : Th), vs = [.ref a, v] ∧ LadAt K C H a us d s c l ∧ Good us d s l ∧ Ta K C H v t ∧
  (t.fig us d = none → ∀ H', Same H H' → Q .non H') ∧ ∀ p m, t.fig us d = some (p, m) → ∀ (r : Addr) (H' : Hp), Same H H' → SqT K H' r [.int (p : Int), .int m] → Q (.ref r) H'
section
variable {P : Program} {w : World} {K : PySem.W.Frag} {mg : Str → Option Value} {base : Heap}
theorem ok_ismarkT (d : Dd K mg "is_mark" sIsMark ["digits"]) (B : Bt mg) (gM : ∃ t, mg "MOST_DIGITS" = some (.int 24 t)) : FnOk P w K mg base CX0 2 d.f d.fd ["digits"] spIsMarkT := by
  obtain ⟨t1, g1⟩ := gM
  refine d.F.ok scIsMark (fun vs H Q E h => ?_) (fun cdv A outer s H vs Q E hr h => ?_)
  · obtain ⟨_, rfl, _⟩ := h
    rfl
  · obtain ⟨z, rfl, hz, q⟩ := h
    refine ⟨_, pss_one (ps_ret (pe_and (pe_bm0 PySem.F.plainAttrs_str PySem.F.slot_str_isascii PySem.F.type_str_isascii mt_isascii (pv 0)) (pe_and (pe_bm0 PySem.F.plainAttrs_str PySem.F.slot_str_isdigit PySem.F.type_str_isdigit mt_isdigit (pv 0))
      (pe_one (pe_cmpR op_le (pe_callB call_len_str (by rfl) B.len PySem.boot_len (pa_cons (pv 0) pa_nil)) (pe_glob (v := .int 24) (by rfl) g1 ⟨_, rfl⟩) (nomark _)))))), ?_⟩
    unfold isMarkB at q
    refine ⟨_, rfl, rfl, z, rfl, rfl, trivial, _, rfl, ?_⟩
    cases e1 : Txt.isascii z with
    | false =>
      rw [e1] at q
      exact iteF q
    | true =>
      rw [e1] at q
      refine iteT ⟨_, rfl, rfl, z, rfl, rfl, trivial, _, rfl, ?_⟩
      cases e2 : Txt.isdigit z with
      | false =>
        rw [e2] at q
        exact iteF q
      | true =>
        rw [e2] at q
        refine iteT ⟨_, rfl, z, rfl, Nat.le_trans hz (by decide), _, _, rfl, rfl, ?_⟩
        have e3 : decide ((z.length : Int) ≤ 24) = decide (z.length ≤ 24) := by
          by_cases h : z.length ≤ 24
          · rw [decide_eq_true h, decide_eq_true (by omega)]
          · rw [decide_eq_false h, decide_eq_false (by omega)]
        show Q (.bl (decide ((z.length : Int) ≤ 24))) H
        rw [e3]
        exact q
theorem ok_placeuT (d : Dd K mg "place_of_unit" sPlaceU ["ladder", "name"]) (L : LadC K mg) (B : Bt mg) : FnOk P w K mg base CX0 2 d.f d.fd ["ladder", "name"] (spPlaceUT K L.C) := by
  refine d.F.ok scPlaceU (fun vs H Q E h => ?_) (fun cdv A outer s H vs Q E hr h => ?_)
  · obtain ⟨_, _, _, _, _, _, _, rfl, _⟩ := h
    rfl
  · obtain ⟨a, us, dn, z, c, l, x, rfl, ⟨dx, ua, t, st, th, hp, ⟨ps, hua, hu⟩, _⟩, g, q0, q1⟩ := h
    have nd := scPlaceU.nd
    have el := UP.len hu
    refine ⟨_, Evl.pss_cut (ps_setLc (i := 2) (own := [("unit", 3)]) (g := gName 3) (tt := tYes) (by rfl) nd rfl rfl (sw_true rfl rfl rfl (by decide +kernel)) (pi_tup (pe_fld (pv 0) rfl))
        (blkOk_by (own := [("unit", 3)]) (N := ["ladder", "name", "names", "unit"]) (sc := defScope sPlaceU) (by decide +kernel)) (fun _ _ _ _ _ => pg_name (i := 3) nd rfl (Or.inl rfl)) (fun _ _ _ _ _ => pts_nil)
        (fun _ _ _ _ _ => pe_ix (r := rIxT K) ix_tup (pv 3) pe_int (fun _ _ => rfl)))
      (pss_cons (ps_if (pt_cmpR op_notIn_seq (pv 1) (pv 2) (by rfl)) (pss_one (ps_ret pe_non)) pss_nil)
      (pss_one (ps_ret (pe_bm PySem.F.plainAttrs_list PySem.F.slot_list_index PySem.F.type_list_index mt_index (pv 2) (pa_cons (pv 1) pa_nil))))), ?_⟩
    refine ⟨fun σ' H' => ∃ D, Same H H' ∧ H' D = some (.lst (us.map fun v => V.str v.1)) ∧ σ' = [some (.ref a), some (.str x), some (.ref D), none], ?_, ?_⟩
    · refine ⟨_, rfl, a, L.C, dx, _, _, rfl, hp, L.cl, L.nUnits, fl_units .., ua, rfl, ⟨_, hua⟩, fun D nD => ?_⟩
      refine lc_tup (K := K) (a := ua) (xs := ps.map V.ref) (fun i H2 => Same H H2 ∧ H2 D = some (.lst ((us.take i).map fun v => V.str v.1))) ⟨same_upd nD, upd_same⟩ (fun i H2 _ h => same_sqt h.1 hua) ?_ ?_
      · rintro i x H2 hi ⟨sm, hD⟩
        obtain ⟨pi, hpi, rfl⟩ := of_get_ref hi
        obtain ⟨v, hv, hs⟩ := paired_fst hu hpi
        refine ⟨rfl, _, rfl, pi, _, 0, .str v.1, rfl, rfl, same_sqt sm hs, rfl, _, hD, ?_, fun b o eb => ?_, ?_⟩
        · rw [List.length_map, List.length_take]
          exact Nat.lt_of_le_of_lt (Nat.le_trans (Nat.min_le_right _ _) g.u.hi) (by decide)
        · rw [upd_ne (ne_of_none eb nD)]
          exact sm _ _ eb
        · rw [upd_same, List.take_add_one, hv, List.map_append]
          rfl
      · rintro H2 ⟨sm, hD⟩
        rw [List.length_map, el, List.take_of_length_le (Nat.le_refl _)] at hD
        exact ⟨D, sm, hD, rfl⟩
    · rintro σ' H2 ⟨D, sm, hD, rfl⟩
      have hflat : (us.map fun v => V.str v.1).all flatV = true := by simp [List.all_map, flatV]
      refine ⟨_, rfl, _, rfl, D, _, rfl, .inl (SqL.of hD), rfl, hflat, ?_⟩
      rw [if_pos rfl]
      cases e : unitP us x with
      | none =>
        have hin : inV (.str x) (us.map fun v => V.str v.1) = false := by
          unfold inV
          rw [List.any_eq_false]
          intro y hy
          obtain ⟨v, hv, rfl⟩ := List.mem_map.mp hy
          have := unitP_none e v hv
          simpa [eqV] using this
        rw [hin]
        exact ⟨true, rfl, iteT (q0 e _ sm)⟩
      | some p =>
        obtain ⟨u, hpu, rfl, hmin⟩ := unitP_some e
        have hin : inV (.str u.1) (us.map fun v => V.str v.1) = true := by
          unfold inV
          rw [List.any_eq_true]
          exact ⟨.str u.1, List.mem_map.mpr ⟨u, List.mem_of_getElem? hpu, rfl⟩, by simp [eqV]⟩
        rw [hin]
        refine ⟨false, rfl, iteF ?_⟩
        refine ⟨_, rfl, .inl ⟨rfl, _, SqL.of hD⟩, _, rfl, D, _, .str u.1, p, .str u.1, rfl, rfl, SqL.of hD, rfl, hflat, ?_, by simp [eqV], fun m z' hm hz' => ?_, q1 p e _ sm⟩
        · rw [List.getElem?_map, hpu]
          rfl
        · rw [List.getElem?_map] at hz'
          cases e : us[m]? with
          | none => rw [e] at hz'; cases hz'
          | some v =>
            rw [e] at hz'
            have ez := Option.some.inj hz'
            subst ez
            have := hmin m v hm e
            simpa [eqV] using this
theorem ok_partsT (d : Dd K mg "parts_of" sPartsOf ["ladder", "text"]) (dU : Dd K mg "place_of_unit" sPlaceU ["ladder", "name"]) (dM : Dd K mg "is_mark" sIsMark ["digits"]) (dW : Dd K mg "written" sWritten ["ladder", "place", "mark"]) (L : LadC K mg) (I : LadI K L.C) (k : KitO K L.C) (B : Bt mg) (G : Gc K mg) (gM : ∃ t, mg "MOST_DIGITS" = some (.int 24 t)) :
    FnOk P w K mg base CX0 3 d.f d.fd ["ladder", "text"] (spPartsT K L.C) := by
  have GU : FnOk P w K mg base CX0 2 dU.f dU.fd ["ladder", "name"] (spPlaceUT K L.C) := ok_placeuT dU L B
  have GM : FnOk P w K mg base CX0 2 dM.f dM.fd ["digits"] spIsMarkT := ok_ismarkT dM B gM
  have GW : FnOk P w K mg base CX0 2 dW.f dW.fd ["ladder", "place", "mark"] (spWritten K L.C) := ok_written dW L B
  obtain ⟨t1, g1⟩ := G.letters
  obtain ⟨oc, od, kV, doc, pm, an, cdv, ct, osl, e, lk, hcd⟩ := d.F.ex
  rw [e] at lk ⊢
  refine fn_ofT lk hcd scPartsOf (by decide +kernel) (by decide) (fun vs H Q E h => ?_) (fun A outer s H vs Q E hr h => ?_)
  · obtain ⟨_, _, _, _, _, _, _, _, rfl, _⟩ := h
    rfl
  · obtain ⟨a, us, dn, z, c, l, v, t, rfl, hL, g, ht, q0, q1⟩ := h
    have nd := scPartsOf.nd
    obtain ⟨Ty, ty1, ty2, _⟩ := ht.ty L I k
    refine ⟨_, psst_cons (PST.of (ps_if (pt_not (pt_val (pe_callB call_isi (by rfl) B.isinstance (by decide +kernel) (pa_cons (pv 1) (pa_cons (pe_bltn (v := .ty "str") (by rfl) B.str (by decide +kernel) rfl) pa_nil))))) (pss_one (ps_ret pe_non)) pss_nil))
      (psst_cons (PST.of (ps_set (i := 2) nd rfl (.inl rfl) (pe_bm PySem.F.plainAttrs_str PySem.F.slot_str_rstrip PySem.F.type_str_rstrip mt_rstripChars (pv 1) (pa_cons (pe_glob (v := .str letters) (by rfl) g1 ⟨_, rfl⟩) pa_nil))))
      (psst_cons (PST.of (ps_set (i := 3) nd rfl (.inl rfl) (pe_call GU hr (by rfl) dU.g dU.F.kp dU.b .nil pass0 (pa_cons (pv 0) (pa_cons (pe_slice sl_str (pv 1) (po_some (pe_callB call_len_str (by rfl) B.len PySem.boot_len (pa_cons (pv 2) pa_nil))) po_none) pa_nil)))))
      (psst_cons (pst_set (i := 4) nd rfl (.inl rfl) (CwR.pet_replC (pv 2)))
      (PSsT.of (pss_cons (ps_if (PW.pt (pw_or (pt_cmp (pc_isN (pv 3))) (pw_or1 (pt_not (pt_val (pe_call GM hr (by rfl) dM.g dM.F.kp dM.b .nil pass0 (pa_cons (pv 4) pa_nil))))))) (pss_one (ps_ret pe_non)) pss_nil)
      (pss_cons (ps_set (i := 5) nd rfl (.inl rfl) (pe_callTy call_int_str (by rfl) B.int (by decide +kernel) (pa_cons (pv 4) pa_nil)))
      (pss_cons (ps_if (pt_cmpR op_ne (pe_call GW hr (by rfl) dW.g dW.F.kp dW.b .nil pass0 (pa_cons (pv 0) (pa_cons (pv 3) (pa_cons (pv 5) pa_nil)))) (pv 1) (nomark _)) (pss_one (ps_ret pe_non)) pss_nil)
      (pss_one (ps_ret (pe_tup (pa_cons (pv 3) (pa_cons (pv 5) pa_nil)))))))))))), ?_⟩
    refine ⟨_, rfl, _, _, _, _, _, rfl, .ty "str", ty1, ty2 "str" (by simp), _, rfl, ?_⟩
    rcases str_or2 t with ⟨x, rfl⟩ | ⟨et, ef⟩
    rotate_left
    · exact iteB (by rw [et]; rfl) (q0 (ef us dn) _ (Same.refl _))
    obtain ⟨rfl, hx⟩ := ta_strL ht
    have q0 : figT us dn x = none → ∀ H', Same H H' → Q .non H' := q0
    have q1 : ∀ p m, figT us dn x = some (p, m) → ∀ (r : Addr) (H' : Hp), Same H H' → SqT K H' r [.int (p : Int), .int m] → Q (.ref r) H' := q1
    have la := rstrip_le x
    unfold figT at q0 q1
    refine iteF ⟨_, rfl, rfl, _, _, rfl, rfl, Nat.le_trans hx (by decide), ?_⟩
    generalize Txt.rstripChars x letters = zz at la q0 q1 ⊢
    refine ⟨_, rfl, _, rfl, _, rfl, zz, rfl, Nat.le_trans la (Nat.le_trans hx (by decide)), _, rfl, _, rfl, Nat.le_trans hx (by decide), ?_⟩
    have lb := repl_le zz
    refine ⟨a, us, dn, z, c, l, _, rfl, hL, g, fun e H1 s1 => ?_, fun p e H1 s1 => ?_⟩
    · rw [e] at q0
      refine ⟨_, rfl, zz, rfl, by show _ + (_ + 1) * 0 ≤ _; omega, ?_⟩
      exact ⟨_, rfl, _, rfl, iteT (q0 rfl _ s1)⟩
    · rw [e] at q0 q1
      simp only at q0 q1
      refine ⟨_, rfl, zz, rfl, by show _ + (_ + 1) * 0 ≤ _; omega, ?_⟩
      generalize Txt.replace zz "." "" = yy at lb q0 q1 ⊢
      refine ⟨_, rfl, _, rfl, iteF ⟨_, rfl, yy, rfl, by omega, _, rfl, ?_⟩⟩
      cases em : isMarkB yy with
      | false =>
        rw [em] at q0
        exact iteT (q0 rfl _ s1)
      | true =>
        rw [em] at q0 q1
        obtain ⟨m1, m0, m2, m3⟩ := mark_ok em
        obtain ⟨u, hu, _⟩ := unitP_some e
        have hlt := (List.getElem?_eq_some_iff.mp hu).1
        refine iteF ⟨_, rfl, yy, markV yy, rfl, m1, by omega, ?_⟩
        refine ⟨_, rfl, _, rfl, _, rfl, a, us, dn, z, c, l, p, markV yy, rfl, hL.same s1, g, hlt, m0, Int.lt_trans m2 (by decide), _, rfl, rfl, _, rfl, ?_⟩
        by_cases hw : writ us dn p (markV yy) = x
        · refine iteE (ne_sameS hw) ⟨_, rfl, _, rfl, (by show 2 ≤ sizeLine; decide), fun r nr => ?_⟩
          exact q1 p (markV yy) (by rw [if_pos rfl, if_pos hw]) r _ (s1.trans (same_upd nr)) (SqT.of upd_same)
        · refine iteB (by rw [eq_otherS hw]; rfl) (q0 (by rw [if_pos rfl, if_neg hw]) _ s1)
end
end My

namespace My
open PySem PySem.Spec PyProof.Rows L2
/-! ### written data -/
/-- all but a -/
def hid (a : Addr) (H : Hp) : Hp := fun b => if b = a then none else H b
theorem hid_same (a : Addr) (H : Hp) : Same (hid a H) H := fun b o e => by
  unfold hid at e
  split at e
  · cases e
  · exact e
theorem hid_at {a b : Addr} {H : Hp} (n : b ≠ a) : hid a H b = H b := if_neg n
theorem but_hid {a : Addr} {H H' : Hp} (x : But a H H') : Same (hid a H) (hid a H') := fun b o e => by
  have n : b ≠ a := fun z => by
    rw [z] at e
    unfold hid at e
    rw [if_pos rfl] at e
    cases e
  rw [hid_at n] at e ⊢
  exact x b o e n
theorem same_hid {a : Addr} {H H' : Hp} (x : Same H H') : Same (hid a H) (hid a H') := but_hid (Same.but x)
theorem PE.weak {X : Cx} {e : Expr} {t t' : TE} (h : PE X e t) (w : ∀ σ H Q, t' σ H Q → t σ H Q) : PE X e t' := ⟨fun pins s σ H Q I q => h.run pins s σ H Q I (w σ H Q q)⟩
theorem PA.weak {X : Cx} {es : List Expr} {t t' : TA} (h : PA X es t) (w : ∀ σ H Q, t' σ H Q → t σ H Q) : PA X es t' := ⟨fun pos pins s σ H Q I q => h.run pos pins s σ H Q I (w σ H Q q)⟩
/-- what stands in a list or a tuple -/
abbrev tl : Th → List Th
  | .lst xs => xs
  | .tup xs => xs
  | _ => []
theorem Ta.lst_inv {K : PySem.W.Frag} {C : Addr} {H : Hp} {v : V} {ds : List Th} (h : Ta K C H v (.lst ds)) : ∃ (p : Addr) (vs : List V), v = .ref p ∧ H p = some (.lst vs) ∧ TaAll K C H vs ds := by
  cases h with
  | lst h t => exact ⟨_, _, rfl, h, t⟩
theorem TaAll.rep {K : PySem.W.Frag} {C : Addr} {H : Hp} {vs : List V} {ds : List Th} (h : TaAll K C H vs ds) : ∀ n : Nat, TaAll K C H (List.replicate n vs).flatten (List.replicate n ds).flatten
  | 0 => .nil
  | n + 1 => by
    rw [List.replicate_succ, List.replicate_succ, List.flatten_cons, List.flatten_cons]
    exact h.app (h.rep n)
/-- what the slots hold, by ρ -/
def Lok (K : PySem.W.Frag) (C a : Addr) (us : List Nat) (ρ : Nat → Th) (σ : L2.St) (H : Hp) : Prop := Spr H a ∧ ∀ i ∈ us, ∃ v, σ[i]? = some (some v) ∧ Ta K C (hid a H) v (ρ i)
theorem Lok.sm {K : PySem.W.Frag} {C a : Addr} {us : List Nat} {ρ : Nat → Th} {σ : L2.St} {H H' : Hp} (h : Lok K C a us ρ σ H) (s : Same H H') : Lok K C a us ρ σ H' := by
  obtain ⟨h1, h2⟩ := h
  refine ⟨h1.same s, fun p hp => ?_⟩
  obtain ⟨v, e, t⟩ := h2 p hp
  exact ⟨v, e, t.sm (same_hid s)⟩
theorem Lok.ne {K : PySem.W.Frag} {C a p : Addr} {us : List Nat} {ρ : Nat → Th} {σ : L2.St} {H : Hp} (h : Lok K C a us ρ σ H) (n : H p = none) : p ≠ a := fun z => by
  obtain ⟨⟨_, _, _, h1⟩, _⟩ := h
  rw [z, h1] at n
  cases n
theorem Lok.fst {K : PySem.W.Frag} {C a : Addr} {u1 u2 : List Nat} {ρ : Nat → Th} {σ : L2.St} {H : Hp} (h : Lok K C a (u1 ++ u2) ρ σ H) : Lok K C a u1 ρ σ H := ⟨h.1, fun i hi => h.2 i (List.mem_append_left _ hi)⟩
theorem Lok.snd {K : PySem.W.Frag} {C a : Addr} {u1 u2 : List Nat} {ρ : Nat → Th} {σ : L2.St} {H : Hp} (h : Lok K C a (u1 ++ u2) ρ σ H) : Lok K C a u2 ρ σ H := ⟨h.1, fun i hi => h.2 i (List.mem_append_right _ hi)⟩
abbrev Gf := (Nat → Th) → Th
/-- data, as the slots us make it: g; ok: what it asks of them -/
def tLit (K : PySem.W.Frag) (C a : Addr) (us : List Nat) (ok : (Nat → Th) → Prop) (g : Gf) : TE := fun σ H Q => ∃ ρ, ok ρ ∧ Lok K C a us ρ σ H ∧ ∀ v H', Same H H' → Ta K C (hid a H') v (g ρ) → Q v H'
def tLits (K : PySem.W.Frag) (C a : Addr) (us : List Nat) (ok : (Nat → Th) → Prop) (gs : (Nat → Th) → List Th) : TA := fun σ H Q => ∃ ρ, ok ρ ∧ Lok K C a us ρ σ H ∧ ∀ vs H', Same H H' → TaAll K C (hid a H') vs (gs ρ) → Q vs H'
section
variable {X : Cx} {C a : Addr} {us u1 u2 : List Nat} {ok ok1 ok2 : (Nat → Th) → Prop} {g g1 g2 : Gf} {gs : (Nat → Th) → List Th}
/-- a value that costs nothing: v, of the kind d -/
theorem li_val {e : Expr} {te : TE} {v : V} {d : Th} (h : PE X e te) (w : ∀ σ H (Q : VK), Q v H → te σ H Q) (k : ∀ H, Ta X.K C H v d) : PE X e (tLit X.K C a [] (fun _ => True) fun _ => d) :=
  PE.weak h fun σ H Q ⟨_, _, _, q⟩ => w σ H Q (q v H (Same.refl _) (k _))
theorem li_str {s : Str} {k : Nat} {p : Pos} (h : s.length ≤ 1000 := by decide) : PE X (.Constant (.str s) k p) (tLit X.K C a [] (fun _ => True) fun _ => .str s) := li_val pe_str (fun _ _ _ q => q) fun _ => .str _ h
theorem li_int {i : Int} {k : Nat} {p : Pos} : PE X (.Constant (.int i) k p) (tLit X.K C a [] (fun _ => True) fun _ => .int i) := li_val pe_int (fun _ _ _ q => q) fun _ => .int _
theorem li_neg {i : Int} {k : Nat} {p p2 : Pos} : PE X (.UnaryOp .USub (.Constant (.int i) k p) p2) (tLit X.K C a [] (fun _ => True) fun _ => .int (-i)) := li_val (pe_un un_neg pe_int) (fun _ _ _ q => ⟨i, rfl, q⟩) fun _ => .int _
theorem li_bl {b : Bool} {k : Nat} {p : Pos} : PE X (.Constant (.bool b) k p) (tLit X.K C a [] (fun _ => True) fun _ => .bl b) := li_val pe_bl (fun _ _ _ q => q) fun _ => .bl _
theorem li_non {k : Nat} {p : Pos} : PE X (.Constant .none k p) (tLit X.K C a [] (fun _ => True) fun _ => .non) := li_val pe_non (fun _ _ _ q => q) fun _ => .non
theorem li_pow {b n : Int} {k1 k2 : Nat} {p1 p2 p : Pos} (h : CPow b n := by exact ⟨by decide, by decide, by decide⟩) : PE X (.BinOp (.Constant (.int b) k1 p1) .Pow (.Constant (.int n) k2 p2) p) (tLit X.K C a [] (fun _ => True) fun _ => .int (b ^ n.toNat)) :=
  li_val (pe_op op_pow pe_int pe_int) (fun _ _ _ q => ⟨b, n, rfl, rfl, h, q⟩) fun _ => .int _
theorem li_pow1 {b n m : Int} {k1 k2 k3 : Nat} {p1 p2 p3 p p' : Pos} (h : CPow b n := by exact ⟨by decide, by decide, by decide⟩) : PE X (.BinOp (.BinOp (.Constant (.int b) k1 p1) .Pow (.Constant (.int n) k2 p2) p) .Add (.Constant (.int m) k3 p3) p') (tLit X.K C a [] (fun _ => True) fun _ => .int (b ^ n.toNat + m)) :=
  li_val (pe_op op_add (pe_op op_pow pe_int pe_int) pe_int) (fun _ _ _ q => ⟨b, n, rfl, rfl, h, _, m, rfl, rfl, q⟩) fun _ => .int _
/-- a name that the frame holds -/
theorem li_var {e : Expr} {i : Nat} (h : PE X e (tVar i)) : PE X e (tLit X.K C a [i] (fun _ => True) fun ρ => ρ i) :=
  PE.weak h fun σ H Q ⟨ρ, _, o, q⟩ => by
    obtain ⟨v, e, t⟩ := o.2 i (List.mem_singleton.mpr rfl)
    exact ⟨v, e, q v H (Same.refl _) t⟩
theorem lis_nil : PA X [] (tLits X.K C a [] (fun _ => True) fun _ => []) := PA.weak pa_nil fun σ H Q ⟨_, _, _, q⟩ => q [] H (Same.refl _) .nil
theorem lis_cons {e : Expr} {es : List Expr} (h : PE X e (tLit X.K C a u1 ok1 g)) (r : PA X es (tLits X.K C a u2 ok2 gs)) (he : starEach (e :: es) X.env = (false, eval e X.env) :: starEach es X.env := by rfl) : PA X (e :: es) (tLits X.K C a (u1 ++ u2) (fun ρ => ok1 ρ ∧ ok2 ρ) fun ρ => g ρ :: gs ρ) :=
  PA.weak (pa_cons h r he) fun σ H Q ⟨ρ, ho, o, q⟩ => ⟨ρ, ho.1, o.fst, fun v H1 s1 t1 => ⟨ρ, ho.2, o.snd.sm s1, fun vs H2 s2 t2 => q _ _ (s1.trans s2) (.cons (t1.sm (same_hid s2)) t2)⟩⟩
theorem li_tup {es : List Expr} {x : Nat} {p : Pos} (h : PA X es (tLits X.K C a us ok gs)) (hl : ∀ ρ, Nat.ble (gs ρ).length 1000 = true := by intro _; rfl) : PE X (.Tuple es x p) (tLit X.K C a us ok fun ρ => .tup (gs ρ)) :=
  PE.weak (pe_tup h) fun σ H Q ⟨ρ, ho, o, q⟩ => ⟨ρ, ho, o, fun vs H1 s1 t1 => ⟨by rw [t1.len]; exact Nat.le_trans (Nat.le_of_ble_eq_true (hl ρ)) (by decide), fun p np => q _ _ (s1.trans (same_upd np)) (.tup (SqT.of (by rw [hid_at ((o.sm s1).ne np)]; exact upd_same)) (t1.sm (same_hid (same_upd np))))⟩⟩
theorem li_lst {es : List Expr} {p : Pos} (h : PA X es (tLits X.K C a us ok gs)) (hl : ∀ ρ, Nat.ble (gs ρ).length 1000 = true := by intro _; rfl) : PE X (.List es p) (tLit X.K C a us ok fun ρ => .lst (gs ρ)) :=
  PE.weak (pe_lst h) fun σ H Q ⟨ρ, ho, o, q⟩ => ⟨ρ, ho, o, fun vs H1 s1 t1 => ⟨by rw [t1.len]; exact Nat.le_trans (Nat.le_of_ble_eq_true (hl ρ)) (by decide), fun p np => q _ _ (s1.trans (same_upd np)) (.lst (by rw [hid_at ((o.sm s1).ne np)]; exact upd_same) (t1.sm (same_hid (same_upd np))))⟩⟩
/-- two tuples put together -/
theorem li_catT {e1 e2 : Expr} {p : Pos} (h1 : PE X e1 (tLit X.K C a u1 ok1 g1)) (h2 : PE X e2 (tLit X.K C a u2 ok2 g2)) :
    PE X (.BinOp e1 .Add e2 p) (tLit X.K C a (u1 ++ u2) (fun ρ => ok1 ρ ∧ ok2 ρ ∧ g1 ρ = .tup (tl (g1 ρ)) ∧ g2 ρ = .tup (tl (g2 ρ)) ∧ Nat.ble ((tl (g1 ρ)).length + (tl (g2 ρ)).length) 1000 = true) fun ρ => .tup (tl (g1 ρ) ++ tl (g2 ρ))) := by
  refine PE.weak (pe_op (r := rCatA X.K) op_catA h1 h2) fun σ H Q ⟨ρ, ⟨o1, o2, k1, k2, hl⟩, o, q⟩ => ⟨ρ, o1, o.fst, fun x H1 s1 t1 => ⟨ρ, o2, o.snd.sm s1, fun y H2 s2 t2 => ?_⟩⟩
  have hl := Nat.le_of_ble_eq_true hl
  rw [k1] at t1
  rw [k2] at t2
  obtain ⟨b, vs, rfl, hb, tb⟩ := t1.tup_inv
  obtain ⟨c, ws, rfl, hc, tc⟩ := t2.tup_inv
  have hb2 := same_sqt (same_hid s2) hb
  have tb2 := tb.sm (same_hid (a := a) s2)
  have app := TaAll.app tb2 tc
  refine ⟨b, c, vs, ws, rfl, rfl, same_sqt (hid_same a H2) hb2, same_sqt (hid_same a H2) hc, ?_, fun e => ?_, fun _ e => ?_, fun _ _ p np => ?_⟩
  · rw [tb.len, tc.len]
    exact Nat.le_trans hl (by decide)
  · subst e
    exact q _ _ (s1.trans s2) (.tup hc app)
  · subst e
    rw [List.append_nil] at app
    exact q _ _ (s1.trans s2) (.tup hb2 app)
  · exact q _ _ ((s1.trans s2).trans (same_upd np)) (.tup (SqT.of (by rw [hid_at (((o.sm s1).sm s2).ne np)]; exact upd_same)) (app.sm (same_hid (same_upd np))))
/-- two lists put together -/
theorem li_catL {e1 e2 : Expr} {p : Pos} (h1 : PE X e1 (tLit X.K C a u1 ok1 g1)) (h2 : PE X e2 (tLit X.K C a u2 ok2 g2)) :
    PE X (.BinOp e1 .Add e2 p) (tLit X.K C a (u1 ++ u2) (fun ρ => ok1 ρ ∧ ok2 ρ ∧ g1 ρ = .lst (tl (g1 ρ)) ∧ g2 ρ = .lst (tl (g2 ρ)) ∧ Nat.ble ((tl (g1 ρ)).length + (tl (g2 ρ)).length) 1000 = true) fun ρ => .lst (tl (g1 ρ) ++ tl (g2 ρ))) := by
  refine PE.weak (pe_op (r := rCat) op_cat h1 h2) fun σ H Q ⟨ρ, ⟨o1, o2, k1, k2, hl⟩, o, q⟩ => ⟨ρ, o1, o.fst, fun x H1 s1 t1 => ⟨ρ, o2, o.snd.sm s1, fun y H2 s2 t2 => ?_⟩⟩
  have hl := Nat.le_of_ble_eq_true hl
  rw [k1] at t1
  rw [k2] at t2
  obtain ⟨b, vs, rfl, hb, tb⟩ := t1.lst_inv
  obtain ⟨c, ws, rfl, hc, tc⟩ := t2.lst_inv
  have hb2 := hid_same a H2 _ _ (same_hid s2 _ _ hb)
  have tb2 := tb.sm (same_hid (a := a) s2)
  refine ⟨b, c, vs, ws, rfl, rfl, hb2, hid_same a H2 _ _ hc, ?_, fun p np => ?_⟩
  · rw [tb.len, tc.len]
    exact Nat.le_trans hl (by decide)
  · exact q _ _ ((s1.trans s2).trans (same_upd np)) (.lst (by rw [hid_at (((o.sm s1).sm s2).ne np)]; exact upd_same) ((TaAll.app tb2 tc).sm (same_hid (same_upd np))))
/-- a tuple several times -/
theorem li_repT {e1 : Expr} {n : Int} {k : Nat} {p p2 : Pos} (h1 : PE X e1 (tLit X.K C a us ok g)) (h2 : 2 ≤ n := by decide) (h3 : n ≤ 1000 := by decide) :
    PE X (.BinOp e1 .Mult (.Constant (.int n) k p) p2) (tLit X.K C a us (fun ρ => ok ρ ∧ g ρ = .tup (tl (g ρ)) ∧ Nat.ble 1 (tl (g ρ)).length = true ∧ Nat.ble (tl (g ρ)).length 1000 = true) fun ρ => .tup (List.replicate n.toNat (tl (g ρ))).flatten) := by
  refine PE.weak (pe_op (r := rRepT X.K) op_repT h1 pe_int) fun σ H Q ⟨ρ, ⟨o1, k1, l1, l2⟩, o, q⟩ => ⟨ρ, o1, o, fun x H1 s1 t1 => ?_⟩
  have l1 := Nat.le_of_ble_eq_true l1
  have l2 := Nat.le_of_ble_eq_true l2
  rw [k1] at t1
  obtain ⟨b, vs, rfl, hb, tb⟩ := t1.tup_inv
  refine ⟨b, n, vs, rfl, rfl, same_sqt (hid_same a H1) hb, fun e => ?_, h2, h3, by rw [tb.len]; exact l2, fun p np => ?_⟩
  · rw [← tb.len, e] at l1
    cases l1
  · exact q _ _ (s1.trans (same_upd np)) (.tup (SqT.of (by rw [hid_at ((o.sm s1).ne np)]; exact upd_same)) ((tb.rep n.toNat).sm (same_hid (same_upd np))))
theorem li_dic {p : Pos} : PE X (.Dict [] [] p) (tLit X.K C a [] (fun _ => True) fun _ => .dic) :=
  PE.weak pe_dnewK fun σ H Q ⟨ρ, _, o, q⟩ => fun p np => q _ _ (same_upd np) (.dic (by rw [hid_at (o.ne np)]; exact upd_same))
/-- a list several times -/
theorem li_repL {e1 : Expr} {n : Int} {k : Nat} {p p2 : Pos} (h1 : PE X e1 (tLit X.K C a us ok g)) (h2 : 0 ≤ n ∧ n ≤ 100 := by decide) :
    PE X (.BinOp e1 .Mult (.Constant (.int n) k p) p2) (tLit X.K C a us (fun ρ => ok ρ ∧ g ρ = .lst (tl (g ρ)) ∧ Nat.ble (tl (g ρ)).length 1000 = true) fun ρ => .lst (List.replicate n.toNat (tl (g ρ))).flatten) := by
  refine PE.weak (pe_op (r := rRep) op_rep h1 pe_int) fun σ H Q ⟨ρ, ⟨o1, k1, l2⟩, o, q⟩ => ⟨ρ, o1, o, fun x H1 s1 t1 => ?_⟩
  have l2 := Nat.le_of_ble_eq_true l2
  rw [k1] at t1
  obtain ⟨b, vs, rfl, hb, tb⟩ := t1.lst_inv
  refine ⟨b, n, vs, rfl, rfl, hid_same a H1 _ _ hb, by omega, by omega, ?_, fun p np => ?_⟩
  · rw [tb.len]
    exact Nat.le_trans (Nat.mul_le_mul l2 (show n.toNat ≤ 100 by omega)) (by decide)
  · exact q _ _ (s1.trans (same_upd np)) (.lst (by rw [hid_at ((o.sm s1).ne np)]; exact upd_same) ((tb.rep n.toNat).sm (same_hid (same_upd np))))
end
end My

namespace My
open PySem PySem.Spec PyProof.Rows L2
/-! ### data stands as what was tracked stands -/
theorem same_sql {K : PySem.W.Frag} {a : Addr} {xs : List V} {H H' : Hp} (b : Same H H') (h : SqL K H a xs) : SqL K H' a xs := by
  rcases h with (h | ⟨o, h⟩) | h
  · exact .inl (.inl (b _ _ h))
  · exact .inl (.inr ⟨o, b _ _ h⟩)
  · exact .inr h
mutual
theorem dp_same {K : PySem.W.Frag} {H H' : Hp} (b : Same H H') : ∀ (d : PyData) (v : V), Dp K H v d → Dp K H' v d
  | .none, _, h => by
    cases h
    exact .non
  | .bool _, _, h => by
    cases h
    exact .bl _
  | .int _, _, h => by
    cases h
    exact .int _
  | .str _, _, h => by
    cases h
    exact .str _
  | .list ds, _, h => by
    cases h with
    | lst hs ha => exact .lst (same_sql b hs) (dpAll_same b ds _ ha)
  | .tuple ds, _, h => by
    cases h with
    | tup hs ha => exact .tup (same_sqt b hs) (dpAll_same b ds _ ha)
  | .dict _, _, h => by cases h
theorem dpAll_same {K : PySem.W.Frag} {H H' : Hp} (b : Same H H') : ∀ (ds : List PyData) (vs : List V), DpAll K H vs ds → DpAll K H' vs ds
  | [], _, h => by
    cases h
    exact .nil
  | d :: ds, _, h => by
    cases h with
    | cons h1 h2 => exact .cons (dp_same b d _ h1) (dpAll_same b ds _ h2)
end
theorem dpAll_app {K : PySem.W.Frag} {H : Hp} : ∀ {ds es : List PyData} {vs ws : List V}, DpAll K H vs ds → DpAll K H ws es → DpAll K H (vs ++ ws) (ds ++ es)
  | [], _, _, _, h, k => by
    cases h
    exact k
  | _ :: _, _, _, _, h, k => by
    cases h with
    | cons h1 h2 => exact .cons h1 (dpAll_app h2 k)
end My

namespace My
open PySem PySem.Spec PyProof.Rows L2
/-! ### _law_came_out of a lambda of _law_right -/
abbrev sCame : Stmt := top 61
abbrev nCame : List Str := ["_law_ask", "_law_given", "e"]
theorem scCame : FnScope nCame ["_law_ask"] (defScope sCame) := ⟨rfl, rfl, rfl, by decide +kernel, rfl, by decide +kernel, by decide +kernel⟩
/-- a call of _law_came_out with a lambda -/
theorem pe_came {X : Cx} {c T : Addr} {cs : List (Addr × Str × Str)} {k : Nat} {params : Arguments} {body : Expr} {scope : Scope} {t : XK → TE} {p lpos pos : Pos} (d : Dd X.K X.mg "_law_came_out" sCame ["_law_ask"])
    (hG : ∀ cdv, LamX.GivesTo X nCame "_law_came_out" (defScope sCame) d.f cdv (defBody sCame) "_law_ask" (X.env.qual ++ "<lambda>") (CO.TCame X.K cs)) (TB : LamX.TabB X.base X.mg c T) (hcode : X.env.code = .ref c) (hq : X.env.qual ++ "<lambda>" = lamQ) (hr : Room (k + 2) X.A)
    (hg : Gl X "_law_came_out") (L : LamX.LamS X.env.scope scope) (hdef : defaultsOf params X.env = ([], [])) (hbind : ∀ (q : Str) (cl : List (Str × Addr)) (pm cv ctv : Value), bindArgs (PySem.W.kla_fn "<lambda>" q params body scope cl pm cv ctv) ⟨[], []⟩ = pure [])
    (hbody : ∀ (A : Around) (outer : List Env) (s : Shared) (H : Hp) (E : XK) (f c' : Addr), Room k (A.deeper (LamX.lamEnv X scope s.heap.objs.size f c')) → PE (LamX.lamCx X A outer s H E scope f c') body (t E)) :
    PE X (.Call (.Name "_law_came_out" p) [.Lambda params body scope lpos] [] pos) (LamX.tLam (Tb T) (CO.TCame X.K cs) t) := by
  obtain ⟨oc, od, kV, doc, pm, an, cdv, ct, osl, e, lk, hcd⟩ := d.F.ex
  have hb := d.b
  rw [e] at hb lk
  exact LamX.pe_lamcall (Ng := nCame) (a := "_law_ask") hg d.g d.F.kp lk hcd hb scCame rfl (.inl rfl) (hG cdv) TB hcode (by rw [hq]; exact List.mem_singleton.mpr rfl) (fun p hp _ => by rw [hq, List.mem_singleton.mp hp]) hr L hdef hbind hbody
/-! ### the rows of what came out -/
/-- the list at D, new behind H1, holds rows, each a list of its own -/
def Rows (T : Addr) (H1 H : Hp) (D : Addr) (rs : List (List V)) : Prop := LamX.ExtN H1 H ∧ LamX.Tabs (Tb T) H ∧ (∀ o, H1 D = some o → ∃ ps, o = .tbl ps) ∧ ∃ ps : List Addr, H D = some (.lst (ps.map V.ref)) ∧ PySem.Paired (fun p r => p ≠ D ∧ H p = some (.lst r)) ps rs
theorem Rows.ext {T : Addr} {H1 H H' : Hp} {D : Addr} {rs : List (List V)} (h : Rows T H1 H D rs) (x : LamX.ExtN H H') (t : LamX.Tabs (Tb T) H') : Rows T H1 H' D rs := by
  obtain ⟨h1, _, h3, ps, h4, h5⟩ := h
  exact ⟨h1.trans x, t, h3, ps, x _ _ h4 (fun _ z => by cases z), paired_imp (fun _ _ ⟨a, b⟩ => ⟨a, x _ _ b (fun _ z => by cases z)⟩) h5⟩
theorem Rows.nil {T D : Addr} {H1 H : Hp} (x : LamX.ExtN H1 H) (t : LamX.Tabs (Tb T) H) (nD : H D = none) : Rows T H1 (upd H D (.lst [])) D [] := by
  refine ⟨x.trans (same_extN (same_upd nD)), tabs_same t (same_upd nD), fun o e => ?_, [], upd_same, .nil⟩
  refine Classical.byContradiction fun hz => ?_
  have := x _ _ e (fun ps z => hz ⟨ps, z⟩)
  rw [nD] at this
  cases this
/-- one row more: the new list stands, it is put behind -/
theorem Rows.more {T D p : Addr} {H1 H : Hp} {rs : List (List V)} {r : List V} (h : Rows T H1 H D rs) (np : H p = none) (hl : rs.length < 1000) :
    ∃ acc, (upd H p (.lst r)) D = some (.lst acc) ∧ acc.length < sizeLine ∧ Rows T H1 (upd (upd H p (.lst r)) D (.lst (acc ++ [.ref p]))) D (rs ++ [r]) := by
  have s := same_upd np (o := .lst r)
  obtain ⟨h1, h2, h3, ps, h4, h5⟩ := h.ext (same_extN s) (tabs_same h.2.1 s)
  have npD : p ≠ D := fun z => by
    obtain ⟨_, _, _, ps', h4', _⟩ := h
    rw [z, h4'] at np
    cases np
  refine ⟨_, h4, ?_, fun b o e t => ?_, tabs_upd h2 (lst_not h4), h3, ps ++ [p], ?_, ?_⟩
  · rw [List.length_map, h5.length]
    exact Nat.lt_trans hl (by decide)
  · have nb : b ≠ D := fun z => by
      rw [z] at e
      obtain ⟨q, hq⟩ := h3 o e
      exact t q hq
    rw [upd_ne nb]
    exact h1 _ _ e t
  · rw [upd_same, List.map_append]
    rfl
  · refine PySem.Paired.snoc (paired_imp (fun q r ⟨a, b⟩ => ⟨a, by rw [upd_ne a]; exact b⟩) h5) ⟨npD, ?_⟩
    rw [upd_ne npD]
    exact upd_same
/-- the first row, within the display -/
theorem Rows.one {T D p : Addr} {H1 H : Hp} {r : List V} (x : LamX.ExtN H1 H) (t : LamX.Tabs (Tb T) H) (np : H p = none) (nD : (upd H p (.lst r)) D = none) : Rows T H1 (upd (upd H p (.lst r)) D (.lst [.ref p])) D [r] := by
  have s := same_upd np (o := .lst r)
  have npD : p ≠ D := fun z => by
    rw [z, upd_same] at nD
    cases nD
  have n1 : H D = none := s.free nD
  refine ⟨(x.trans (same_extN s)).trans (same_extN (same_upd nD)), tabs_same (tabs_same t s) (same_upd nD), ?_, [p], upd_same, .cons ⟨npD, ?_⟩ .nil⟩
  · intro o e
    refine Classical.byContradiction fun hz => ?_
    have := x _ _ e (fun ps z => hz ⟨ps, z⟩)
    rw [n1] at this
    cases this
  · rw [upd_ne npD]
    exact upd_same
end My

namespace My
open PySem PySem.Spec PyProof.Rows L2
/-! ### the state of a _law_right that draws things and asks -/
abbrev LEnv := List (Nat × Th)
/-- what the frame holds -/
abbrev lk (env : LEnv) : Nat → Th := fun i => (env.lookup i).getD .non
abbrev has (env : LEnv) (us : List Nat) : Bool := us.all fun i => (env.lookup i).isSome
theorem lk_mem {i : Nat} {d : Th} : ∀ {env : LEnv}, env.lookup i = some d → (i, d) ∈ env
  | [], h => by cases h
  | (j, e) :: r, h => by
    rw [List.lookup_cons] at h
    cases hb : i == j with
    | true =>
      rw [hb] at h
      cases h
      rw [eq_of_beq hb]
      exact List.mem_cons_self ..
    | false =>
      rw [hb] at h
      exact List.mem_cons_of_mem _ (lk_mem h)
structure Jx (K : PySem.W.Frag) (C a T : Addr) (n : Nat) (H0 : Hp) (env : LEnv) (σ : L2.St) (H : Hp) : Prop where
  n : σ.length = n
  s0 : σ[0]? = some (some (.ref a))
  ok : (∃ o, H a = some o) ∧ ∀ p ∈ env, ∃ v, σ[p.1]? = some (some v) ∧ Ta K C (hid a H) v p.2
  b : ButN a H0 H
  t : LamX.Tabs (Tb T) H
  sp : Spr H a
/-- env' is a part of env, without the slot i -/
inductive Sub (i : Nat) : LEnv → LEnv → Prop
  | nil {e : LEnv} : Sub i [] e
  | keep {p : Nat × Th} {e' e : LEnv} (h : Sub i e' e) (n : (p.1 == i) = false := by rfl) : Sub i (p :: e') (p :: e)
  | drop {p : Nat × Th} {e' e : LEnv} (h : Sub i e' e) : Sub i e' (p :: e)
theorem Sub.mem {i : Nat} {e' e : LEnv} (h : Sub i e' e) : ∀ p ∈ e', p ∈ e ∧ p.1 ≠ i := by
  induction h with
  | nil => exact fun p hp => nomatch hp
  | keep h n ih =>
    intro q hq
    rcases List.mem_cons.mp hq with rfl | hq
    · exact ⟨List.mem_cons_self .., fun z => by rw [z] at n; simp at n⟩
    · exact ⟨List.mem_cons_of_mem _ (ih q hq).1, (ih q hq).2⟩
  | drop h ih => exact fun q hq => ⟨List.mem_cons_of_mem _ (ih q hq).1, (ih q hq).2⟩
section
variable {K : PySem.W.Frag} {C a T : Addr} {n : Nat} {H0 : Hp} {env env' : LEnv} {σ : L2.St} {H H' : Hp}
theorem Jx.same (h : Jx K C a T n H0 env σ H) (s : Same H H') : Jx K C a T n H0 env σ H' :=
  ⟨h.n, h.s0, ⟨h.ok.1.elim fun o e => ⟨o, s _ _ e⟩, fun p hp => (h.ok.2 p hp).elim fun v ⟨e, t⟩ => ⟨v, e, t.sm (same_hid s)⟩⟩, h.b.trans (Same.but s).n, tabs_same h.t s, h.sp.same s⟩
theorem Jx.lok {us : List Nat} (h : Jx K C a T n H0 env σ H) (hu : has env us = true) : Lok K C a us (lk env) σ H := by
  refine ⟨h.sp, fun i hi => ?_⟩
  have := List.all_eq_true.mp hu i hi
  obtain ⟨d, hd⟩ := Option.isSome_iff_exists.mp this
  obtain ⟨v, e, t⟩ := h.ok.2 (i, d) (lk_mem hd)
  refine ⟨v, e, ?_⟩
  show Ta K C (hid a H) v ((env.lookup i).getD .non)
  rw [hd]
  exact t
theorem Jx.ext (h : Jx K C a T n H0 env σ H) (s : LamX.ExtN H H') (t : LamX.Tabs (Tb T) H') : Jx K C a T n H0 env σ H' := by
  obtain ⟨x, y, z, e⟩ := h.sp
  have ea := s _ _ e (fun _ w => by cases w)
  refine ⟨h.n, h.s0, ⟨⟨_, ea⟩, fun p hp => ?_⟩, h.b.trans (extN_but s), t, ⟨x, y, z, ea⟩⟩
  obtain ⟨v, e1, t1⟩ := h.ok.2 p hp
  refine ⟨v, e1, t1.to fun b o eb tb => ?_⟩
  have nb : b ≠ a := fun w => by
    rw [w] at eb
    unfold hid at eb
    rw [if_pos rfl] at eb
    cases eb
  rw [hid_at nb] at eb ⊢
  exact s _ _ eb tb
theorem Jx.but (h : Jx K C a T n H0 env σ H) (s : But a H H') (sp : Spr H' a) : Jx K C a T n H0 env σ H' := by
  obtain ⟨x, y, z, e⟩ := id sp
  refine ⟨h.n, h.s0, ⟨⟨_, e⟩, fun p hp => ?_⟩, h.b.trans s.n, tabs_spr h.t s h.sp, sp⟩
  obtain ⟨v, e1, t1⟩ := h.ok.2 p hp
  exact ⟨v, e1, t1.sm (but_hid s)⟩
theorem Jx.setV (h : Jx K C a T n H0 env σ H) {i : Nat} {v : V} (hi : 0 < i) (sub : Sub i env' env) : Jx K C a T n H0 env' (σ.set i (some v)) H := by
  refine ⟨by rw [List.length_set]; exact h.n, ?_, ⟨h.ok.1, fun p hp => ?_⟩, h.b, h.t, h.sp⟩
  · rw [List.getElem?_set_ne (by omega)]
    exact h.s0
  · obtain ⟨m, ne⟩ := sub.mem p hp
    obtain ⟨u, e, t⟩ := h.ok.2 p m
    exact ⟨u, by rw [List.getElem?_set_ne (fun z => ne z.symm)]; exact e, t⟩
theorem Jx.set (h : Jx K C a T n H0 env σ H) {i : Nat} {v : V} {d : Th} (t : Ta K C (hid a H) v d) (hi : 0 < i ∧ i < n) (sub : Sub i env' env) : Jx K C a T n H0 ((i, d) :: env') (σ.set i (some v)) H := by
  have j := h.setV (v := v) hi.1 sub
  refine ⟨j.n, j.s0, ⟨j.ok.1, fun p hp => ?_⟩, j.b, j.t, j.sp⟩
  rcases List.mem_cons.mp hp with rfl | hp
  · exact ⟨v, List.getElem?_set_self (by rw [h.n]; exact hi.2), t⟩
  · exact j.ok.2 p hp
theorem Jx.less (h : Jx K C a T n H0 env σ H) (m : ∀ p ∈ env', p ∈ env) : Jx K C a T n H0 env' σ H := ⟨h.n, h.s0, ⟨h.ok.1, fun p hp => h.ok.2 p (m p hp)⟩, h.b, h.t, h.sp⟩
theorem Jx.got (h : Jx K C a T n H0 env σ H) {i : Nat} {d : Th} (m : (i, d) ∈ env) : ∃ v, σ[i]? = some (some v) ∧ Ta K C H v d := by
  obtain ⟨v, e, t⟩ := h.ok.2 _ m
  exact ⟨v, e, t.sm (hid_same a H)⟩
variable {D : Ends} {us : List Nat} {ok : (Nat → Th) → Prop} {g : Gf}
theorem st_lit {i : Nat} {d : Th} (h : Jx K C a T n H0 env σ H) (hu : has env us = true) (ho : ok (lk env)) (hd : g (lk env) = d) (hi : 0 < i ∧ i < n) (sub : Sub i env' env) (k : ∀ σ' H', Jx K C a T n H0 ((i, d) :: env') σ' H' → D.nx σ' H') : tAsg (tLit K C a us ok g) (gName i) D σ H :=
  ⟨lk env, ho, h.lok hu, fun v H' s t => k _ _ ((h.same s).set (by rw [← hd]; exact t) hi sub)⟩
theorem st_two {i j : Nat} {d1 d2 : Th} {env1 env2 : LEnv} (h : Jx K C a T n H0 env σ H) (hu : has env us = true) (ho : ok (lk env)) (hd : g (lk env) = .tup [d1, d2]) (hi : 0 < i ∧ i < n) (hj : 0 < j ∧ j < n) (s1 : Sub i env1 env) (s2 : Sub j env2 ((i, d1) :: env1)) (k : ∀ σ' H', Jx K C a T n H0 ((j, d2) :: env2) σ' H' → D.nx σ' H') :
    tAsg (tLit K C a us ok g) (gTup K 2 (gCons (gName i) (gCons (gName j) gNil))) D σ H := by
  refine ⟨lk env, ho, h.lok hu, fun v H' s t => ?_⟩
  rw [hd] at t
  clear hd
  have h' := h.same s
  obtain ⟨p, vs, rfl, hp, hd⟩ := t.tup_inv
  obtain ⟨x, y, a1, a2, rfl, e, hx, hy⟩ := hd.two (by rw [hd.len]; rfl)
  cases e
  exact ⟨p, _, rfl, same_sqt (hid_same a H') hp, rfl, x, [y], rfl, y, [], rfl, rfl, k _ _ ((h'.set hx hi s1).set hy hj s2)⟩
theorem st_par {i j : Nat} {gs : (Nat → Th) → List Th} {d1 d2 : Th} {env1 env2 : LEnv} (h : Jx K C a T n H0 env σ H) (hu : has env us = true) (ho : ok (lk env)) (hd : gs (lk env) = [d1, d2]) (hi : 0 < i ∧ i < n) (hj : 0 < j ∧ j < n) (s1 : Sub i env1 env) (s2 : Sub j env2 ((i, d1) :: env1)) (k : ∀ σ' H', Jx K C a T n H0 ((j, d2) :: env2) σ' H' → D.nx σ' H') :
    tPar i j (tLits K C a us ok gs) D σ H := by
  refine ⟨lk env, ho, h.lok hu, fun vs H' s t => ?_⟩
  rw [hd] at t
  have h' := h.same s
  obtain ⟨x, y, a1, a2, rfl, e, hx, hy⟩ := t.two (by rw [t.len]; rfl)
  cases e
  exact ⟨x, y, rfl, k _ _ ((h'.set hx hi s1).set hy hj s2)⟩
theorem st_pair {i j : Nat} {ds : List Th} {R : Th → Th → Prop} {E : XK} {env1 : LEnv} (h : Jx K C a T n H0 env σ H) (hu : has env us = true) (ho : ok (lk env)) (hg : g (lk env) = .lst ds) (hR : ∀ t ∈ ds, ∃ x y, t = .tup [x, y] ∧ R x y) (hne : ds ≠ []) (hlen : ds.length < 1000) (hi : 0 < i ∧ i < n) (hj : 0 < j ∧ j < n) (s1 : Sub i env1 env) (nij : i ≠ j) (s2 : Sub j env' env1)
    (k : ∀ x y σ' H', R x y → Jx K C a T n H0 ((j, y) :: (i, x) :: env') σ' H' → D.nx σ' H') :
    tAsg (tCall (spSome K) [] E (tCons (tVar 0) (tCons (tLit K C a us ok g) tNil))) (gTup K 2 (gCons (gName i) (gCons (gName j) gNil))) D σ H := by
  refine ⟨_, h.s0, lk env, ho, h.lok hu, fun v H' s t => ?_⟩
  rw [hg] at t
  have h' := h.same s
  obtain ⟨l, vs, rfl, hl, hd⟩ := t.lst_inv
  have nl : l ≠ a := fun z => by
    rw [z] at hl
    unfold hid at hl
    rw [if_pos rfl] at hl
    cases hl
  refine ⟨a, l, vs, rfl, h'.sp, .inl (SqL.of (hid_same a H' _ _ hl)), nl, fun e => hne ?_, by rw [hd.len]; exact hlen, fun u H2 hu s2' b2 => ?_⟩
  · rw [e] at hd
    cases hd
    rfl
  · obtain ⟨tt, htt, ht⟩ := hd.mem hu
    obtain ⟨x, y, rfl, r⟩ := hR tt htt
    have h2 := h'.but b2 s2'
    obtain ⟨p, ws, rfl, hp, hw⟩ := (ht.sm (but_hid b2)).tup_inv
    obtain ⟨vx, vy, a1, a2, rfl, e, hx, hy⟩ := hw.two (by rw [hw.len]; rfl)
    cases e
    exact ⟨p, _, rfl, same_sqt (hid_same a H2) hp, rfl, vx, [vy], rfl, vy, [], rfl, rfl, k x y _ _ r ((h2.set hx hi s1).set hy hj (.keep s2 (by show (i == j) = false; exact beq_eq_false_iff_ne.mpr nij)))⟩
theorem st_some {i : Nat} {ds : List Th} {E : XK} (h : Jx K C a T n H0 env σ H) (hu : has env us = true) (ho : ok (lk env)) (hg : g (lk env) = .lst ds) (hne : ds ≠ []) (hlen : ds.length < 1000) (hi : 0 < i ∧ i < n) (s1 : Sub i env' env)
    (k : ∀ d σ' H', d ∈ ds → Jx K C a T n H0 ((i, d) :: env') σ' H' → D.nx σ' H') :
    tAsg (tCall (spSome K) [] E (tCons (tVar 0) (tCons (tLit K C a us ok g) tNil))) (gName i) D σ H := by
  refine ⟨_, h.s0, lk env, ho, h.lok hu, fun v H' s t => ?_⟩
  rw [hg] at t
  have h' := h.same s
  obtain ⟨l, vs, rfl, hl, hd⟩ := t.lst_inv
  have nl : l ≠ a := fun z => by
    rw [z] at hl
    unfold hid at hl
    rw [if_pos rfl] at hl
    cases hl
  refine ⟨a, l, vs, rfl, h'.sp, .inl (SqL.of (hid_same a H' _ _ hl)), nl, fun e => hne ?_, by rw [hd.len]; exact hlen, fun u H2 hu s2' b2 => ?_⟩
  · rw [e] at hd
    cases hd
    rfl
  · obtain ⟨tt, htt, ht⟩ := hd.mem hu
    exact k tt _ _ htt ((h'.but b2 s2').set (ht.sm (but_hid b2)) hi s1)
/-- .. and the list that is asked into -/
structure J2 (K : PySem.W.Frag) (C a T : Addr) (n i : Nat) (H0 H1 : Hp) (env : LEnv) (L : Addr) (rs : List (List V)) (σ : L2.St) (H : Hp) : Prop where
  j1 : Jx K C a T n H0 env σ H1
  r : Rows T H1 H L rs
  d : σ[i]? = some (some (.ref L))
variable {cs : List (Addr × Str × Str)} {t : XK → TE} {CE : Addr} {nm fd : Str} {v : V}
theorem J2.j {i : Nat} {L : Addr} {H1 : Hp} {rs : List (List V)} (h : J2 K C a T n i H0 H1 env L rs σ H) : Jx K C a T n H0 env σ H := h.j1.ext h.r.1 h.r.2.1
theorem J2.ne {i : Nat} {L : Addr} {H1 : Hp} {rs : List (List V)} (h : J2 K C a T n i H0 H1 env L rs σ H) (sp : Spr H1 a) : L ≠ a := fun z => by
  obtain ⟨x, y, w, e⟩ := sp
  obtain ⟨q, hq⟩ := h.r.2.2.1 _ (by rw [z]; exact e)
  cases hq
theorem st_first {i : Nat} (h : Jx K C a T n H0 env σ H) (hi : 0 < i ∧ i < n) (sub : Sub i env' env) (mem : (CE, nm, fd) ∈ cs)
    (call : ∀ H2 (E : XK) (Q : VK), LamX.ExtN H H2 → Jx K C a T n H0 env σ H2 → (∀ dd H3, Same H2 H3 → H3 dd = some (.xd [(fd, v)]) → E (.ref CE) (some dd) H3) → t E σ H2 Q)
    (k : ∀ L σ' H', J2 K C a T n i H0 H env' L [[.str nm, v, .bl true]] σ' H' → D.nx σ' H') : tAsg (tLst (tCons (LamX.tLam (Tb T) (CO.TCame K cs) t) tNil)) (gName i) D σ H := by
  refine ⟨h.t, fun H2 x t2 => ?_⟩
  have h2 := h.ext x t2
  refine call H2 _ _ x h2 fun dd H3 s3 hv => ⟨CE, nm, fd, v, dd, mem, rfl, rfl, hv, fun p np => ⟨by show 1 ≤ sizeLine; decide, fun L nL => ?_⟩⟩
  have t3 := tabs_same t2 s3
  have h3 := h2.same s3
  refine k L _ _ ⟨h.setV hi.1 sub, Rows.one (x.trans (same_extN s3)) t3 np nL, List.getElem?_set_self (by rw [h.n]; exact hi.2)⟩
theorem st_more {i : Nat} {L : Addr} {H1 : Hp} {rs : List (List V)} (h : J2 K C a T n i H0 H1 env L rs σ H) (hl : rs.length < 1000) (mem : (CE, nm, fd) ∈ cs)
    (call : ∀ H2 (E : XK) (Q : VK), LamX.ExtN H H2 → Jx K C a T n H0 env σ H2 → (∀ dd H3, Same H2 H3 → H3 dd = some (.xd [(fd, v)]) → E (.ref CE) (some dd) H3) → t E σ H2 Q)
    (k : ∀ H', J2 K C a T n i H0 H1 env L (rs ++ [[.str nm, v, .bl true]]) σ H' → D.nx σ H') : tDrop (tBM K "list" rAppend (tVar i) (tCons (LamX.tLam (Tb T) (CO.TCame K cs) t) tNil)) D σ H := by
  obtain ⟨ps, hL, _⟩ := h.r.2.2.2
  refine ⟨_, h.d, .inl ⟨rfl, _, SqL.of hL⟩, h.j.t, fun H2 x t2 => ?_⟩
  refine call H2 _ _ x (h.j.ext x t2) fun dd H3 s3 hv => ⟨CE, nm, fd, v, dd, mem, rfl, rfl, hv, fun p np => ?_⟩
  obtain ⟨acc, a1, a2, a3⟩ := (h.r.ext (x.trans (same_extN s3)) (tabs_same t2 s3)).more (r := [.str nm, v, .bl true]) np hl
  exact ⟨L, acc, _, rfl, rfl, a1, a2, k _ ⟨h.j1, a3, h.d⟩⟩
/-- what is given, not raised -/
theorem st_moreG {i : Nat} {L : Addr} {H1 : Hp} {rs : List (List V)} (h : J2 K C a T n i H0 H1 env L rs σ H) (hl : rs.length < 1000)
    (call : ∀ H2 (E : XK) (Q : VK), LamX.ExtN H H2 → Jx K C a T n H0 env σ H2 → (∀ H3, Same H2 H3 → Q v H3) → t E σ H2 Q)
    (k : ∀ H', J2 K C a T n i H0 H1 env L (rs ++ [[.str "given", v]]) σ H' → D.nx σ H') : tDrop (tBM K "list" rAppend (tVar i) (tCons (LamX.tLam (Tb T) (CO.TCame K cs) t) tNil)) D σ H := by
  obtain ⟨ps, hL, _⟩ := h.r.2.2.2
  refine ⟨_, h.d, .inl ⟨rfl, _, SqL.of hL⟩, h.j.t, fun H2 x t2 => ?_⟩
  refine call H2 _ _ x (h.j.ext x t2) fun H3 s3 p np => ?_
  obtain ⟨acc, a1, a2, a3⟩ := (h.r.ext (x.trans (same_extN s3)) (tabs_same t2 s3)).more (r := [.str "given", v]) np hl
  exact ⟨L, acc, _, rfl, rfl, a1, a2, k _ ⟨h.j1, a3, h.d⟩⟩
theorem st_litR {i j : Nat} {L : Addr} {H1 : Hp} {rs : List (List V)} {d : Th} (h : J2 K C a T n i H0 H1 env L rs σ H) (hu : has env us = true) (ho : ok (lk env)) (hd : g (lk env) = d) (hi : 0 < j ∧ j < n) (nij : i ≠ j) (sub : Sub j env' env)
    (k : ∀ σ' H', Jx K C a T n H0 ((j, d) :: env') σ' H' → Rows T H1 H' L rs → σ'[i]? = some (some (.ref L)) → D.nx σ' H') : tAsg (tLit K C a us ok g) (gName j) D σ H :=
  ⟨lk env, ho, h.j.lok hu, fun v H' s t => k _ _ ((h.j.same s).set (by rw [← hd]; exact t) hi sub) (h.r.ext (same_extN s) (tabs_same h.j.t s)) (by rw [List.getElem?_set_ne (fun z => nij z.symm)]; exact h.d)⟩
end
/-! ### the rows as data -/
mutual
def thD : Th → PyData
  | .non => .none
  | .bl b => .bool b
  | .int i => .int i
  | .str s => .str s
  | .lst xs => .list (thDs xs)
  | .tup xs => .tuple (thDs xs)
  | .dic => .none
  | .lad .. => .none
def thDs : List Th → List PyData
  | [] => []
  | x :: r => thD x :: thDs r
end
mutual
def Th.dat : Th → Bool
  | .lst xs => Th.dats xs
  | .tup xs => Th.dats xs
  | .dic => false
  | .lad .. => false
  | _ => true
def Th.dats : List Th → Bool
  | [] => true
  | x :: r => x.dat && Th.dats r
end
mutual
theorem ta_dp {K : PySem.W.Frag} {C : Addr} {H : Hp} : ∀ (t : Th) (v : V), t.dat = true → Ta K C H v t → Dp K H v (thD t)
  | .non, _, _, h => by
    cases h
    rw [thD]
    exact .non
  | .bl _, _, _, h => by
    cases h
    rw [thD]
    exact .bl _
  | .int _, _, _, h => by
    cases h
    rw [thD]
    exact .int _
  | .str _, _, _, h => by
    cases h
    rw [thD]
    exact .str _
  | .lst ds, _, e, h => by
    rw [Th.dat] at e
    rw [thD]
    cases h with
    | lst h t => exact .lst (SqL.of h) (tas_dp ds _ e t)
  | .tup ds, _, e, h => by
    rw [Th.dat] at e
    rw [thD]
    cases h with
    | tup h t => exact .tup h (tas_dp ds _ e t)
  | .dic, _, e, h => by
    rw [Th.dat] at e
    cases e
  | .lad .., _, e, h => by
    rw [Th.dat] at e
    cases e
theorem tas_dp {K : PySem.W.Frag} {C : Addr} {H : Hp} : ∀ (ts : List Th) (vs : List V), Th.dats ts = true → TaAll K C H vs ts → DpAll K H vs (thDs ts)
  | [], _, _, h => by
    cases h
    rw [thDs]
    exact .nil
  | t :: ts, _, e, h => by
    rw [Th.dats, Bool.and_eq_true] at e
    rw [thDs]
    cases h with
    | cons h1 h2 => exact .cons (ta_dp t _ e.1 h1) (tas_dp ts _ e.2 h2)
end
/-- the rows, each of such things, are such a thing -/
theorem rows_ta {K : PySem.W.Frag} {C T L : Addr} {H1 H : Hp} {rs : List (List V)} (h : Rows T H1 H L rs) {ts : List (List Th)} (e : PySem.Paired (fun r t => TaAll K C H r t) rs ts) : Ta K C H (.ref L) (.lst (ts.map Th.lst)) := by
  obtain ⟨_, _, _, ps, h4, h5⟩ := h
  refine .lst h4 ?_
  clear h4
  induction h5 generalizing ts with
  | nil => cases e; exact .nil
  | cons a r ih =>
    cases e with
    | cons e1 e2 => exact .cons (.lst a.2 e1) (ih e2)
end My

namespace My
open PySem PySem.Spec PyProof.Rows L2
/-! ### the classes of errors, what their __init__ does -/
abbrev sEUnitsC : Stmt := top 8
abbrev sEUnits : Stmt := inClass sEUnitsC 0
theorem scEUnits : FnScope ["self", "index"] ["self", "index"] (defScope sEUnits) := ⟨rfl, rfl, rfl, by decide +kernel, rfl, by decide +kernel, by decide +kernel⟩
abbrev EUnits (K : PySem.W.Frag) (mg : Str → Option Value) := EX.Err K mg "InvalidUnits" "index" "InvalidUnits.__init__" sEUnits
theorem ok_eunits {P : Program} {w : World} {K : PySem.W.Frag} {mg : Str → Option Value} {base : Heap} (T : EUnits K mg) : FnOk P w K mg base CX0 1 T.f T.fdd ["self", "index"] (EX.spIni K T.C "index") := by
  refine T.F.ok scEUnits (fun vs H Q E h => ?_) (fun cdv A outer s H vs Q E hr h => ?_)
  · obtain ⟨_, _, rfl, _⟩ := h
    rfl
  · obtain ⟨a, v, rfl, ha, q⟩ := h
    refine ⟨_, pss_one (ps_ost (pv 0) (pv 1)), ?_⟩
    exact ⟨_, rfl, _, rfl, a, T.C, rfl, T.T, T.no, .inl ⟨ha, fun dx h1 h2 => q dx h1 h2⟩⟩
abbrev sERndC : Stmt := top 4
abbrev sERnd : Stmt := inClass sERndC 0
theorem scERnd : FnScope ["self", "value"] ["self", "value"] (defScope sERnd) := ⟨rfl, rfl, rfl, by decide +kernel, rfl, by decide +kernel, by decide +kernel⟩
abbrev ERnd (K : PySem.W.Frag) (mg : Str → Option Value) := EX.Err K mg "InvalidRounding" "value" "InvalidRounding.__init__" sERnd
theorem ok_ernd {P : Program} {w : World} {K : PySem.W.Frag} {mg : Str → Option Value} {base : Heap} (T : ERnd K mg) : FnOk P w K mg base CX0 1 T.f T.fdd ["self", "value"] (EX.spIni K T.C "value") := by
  refine T.F.ok scERnd (fun vs H Q E h => ?_) (fun cdv A outer s H vs Q E hr h => ?_)
  · obtain ⟨_, _, rfl, _⟩ := h
    rfl
  · obtain ⟨a, v, rfl, ha, q⟩ := h
    refine ⟨_, pss_one (ps_ost (pv 0) (pv 1)), ?_⟩
    exact ⟨_, rfl, _, rfl, a, T.C, rfl, T.T, T.no, .inl ⟨ha, fun dx h1 h2 => q dx h1 h2⟩⟩
abbrev sECarryC : Stmt := top 5
abbrev sECarry : Stmt := inClass sECarryC 0
theorem scECarry : FnScope ["self", "value"] ["self", "value"] (defScope sECarry) := ⟨rfl, rfl, rfl, by decide +kernel, rfl, by decide +kernel, by decide +kernel⟩
abbrev ECarry (K : PySem.W.Frag) (mg : Str → Option Value) := EX.Err K mg "InvalidCarry" "value" "InvalidCarry.__init__" sECarry
theorem ok_ecarry {P : Program} {w : World} {K : PySem.W.Frag} {mg : Str → Option Value} {base : Heap} (T : ECarry K mg) : FnOk P w K mg base CX0 1 T.f T.fdd ["self", "value"] (EX.spIni K T.C "value") := by
  refine T.F.ok scECarry (fun vs H Q E h => ?_) (fun cdv A outer s H vs Q E hr h => ?_)
  · obtain ⟨_, _, rfl, _⟩ := h
    rfl
  · obtain ⟨a, v, rfl, ha, q⟩ := h
    refine ⟨_, pss_one (ps_ost (pv 0) (pv 1)), ?_⟩
    exact ⟨_, rfl, _, rfl, a, T.C, rfl, T.T, T.no, .inl ⟨ha, fun dx h1 h2 => q dx h1 h2⟩⟩
abbrev sELeastC : Stmt := top 6
abbrev sELeast : Stmt := inClass sELeastC 0
theorem scELeast : FnScope ["self", "value"] ["self", "value"] (defScope sELeast) := ⟨rfl, rfl, rfl, by decide +kernel, rfl, by decide +kernel, by decide +kernel⟩
abbrev ELeast (K : PySem.W.Frag) (mg : Str → Option Value) := EX.Err K mg "InvalidLeast" "value" "InvalidLeast.__init__" sELeast
theorem ok_eleast {P : Program} {w : World} {K : PySem.W.Frag} {mg : Str → Option Value} {base : Heap} (T : ELeast K mg) : FnOk P w K mg base CX0 1 T.f T.fdd ["self", "value"] (EX.spIni K T.C "value") := by
  refine T.F.ok scELeast (fun vs H Q E h => ?_) (fun cdv A outer s H vs Q E hr h => ?_)
  · obtain ⟨_, _, rfl, _⟩ := h
    rfl
  · obtain ⟨a, v, rfl, ha, q⟩ := h
    refine ⟨_, pss_one (ps_ost (pv 0) (pv 1)), ?_⟩
    exact ⟨_, rfl, _, rfl, a, T.C, rfl, T.T, T.no, .inl ⟨ha, fun dx h1 h2 => q dx h1 h2⟩⟩
abbrev sELadC : Stmt := top 2
abbrev sELad : Stmt := inClass sELadC 0
theorem scELad : FnScope ["self", "value"] ["self", "value"] (defScope sELad) := ⟨rfl, rfl, rfl, by decide +kernel, rfl, by decide +kernel, by decide +kernel⟩
abbrev ELad (K : PySem.W.Frag) (mg : Str → Option Value) := EX.Err K mg "NotALadder" "value" "NotALadder.__init__" sELad
theorem ok_elad {P : Program} {w : World} {K : PySem.W.Frag} {mg : Str → Option Value} {base : Heap} (T : ELad K mg) : FnOk P w K mg base CX0 1 T.f T.fdd ["self", "value"] (EX.spIni K T.C "value") := by
  refine T.F.ok scELad (fun vs H Q E h => ?_) (fun cdv A outer s H vs Q E hr h => ?_)
  · obtain ⟨_, _, rfl, _⟩ := h
    rfl
  · obtain ⟨a, v, rfl, ha, q⟩ := h
    refine ⟨_, pss_one (ps_ost (pv 0) (pv 1)), ?_⟩
    exact ⟨_, rfl, _, rfl, a, T.C, rfl, T.T, T.no, .inl ⟨ha, fun dx h1 h2 => q dx h1 h2⟩⟩
abbrev sEFigC : Stmt := top 7
abbrev sEFig : Stmt := inClass sEFigC 0
theorem scEFig : FnScope ["self", "value"] ["self", "value"] (defScope sEFig) := ⟨rfl, rfl, rfl, by decide +kernel, rfl, by decide +kernel, by decide +kernel⟩
abbrev EFig (K : PySem.W.Frag) (mg : Str → Option Value) := EX.Err K mg "InvalidFigure" "value" "InvalidFigure.__init__" sEFig
theorem ok_efig {P : Program} {w : World} {K : PySem.W.Frag} {mg : Str → Option Value} {base : Heap} (T : EFig K mg) : FnOk P w K mg base CX0 1 T.f T.fdd ["self", "value"] (EX.spIni K T.C "value") := by
  refine T.F.ok scEFig (fun vs H Q E h => ?_) (fun cdv A outer s H vs Q E hr h => ?_)
  · obtain ⟨_, _, rfl, _⟩ := h
    rfl
  · obtain ⟨a, v, rfl, ha, q⟩ := h
    refine ⟨_, pss_one (ps_ost (pv 0) (pv 1)), ?_⟩
    exact ⟨_, rfl, _, rfl, a, T.C, rfl, T.T, T.no, .inl ⟨ha, fun dx h1 h2 => q dx h1 h2⟩⟩
abbrev sETextsC : Stmt := top 9
abbrev sETexts : Stmt := inClass sETextsC 0
theorem scETexts : FnScope ["self", "index"] ["self", "index"] (defScope sETexts) := ⟨rfl, rfl, rfl, by decide +kernel, rfl, by decide +kernel, by decide +kernel⟩
abbrev ETexts (K : PySem.W.Frag) (mg : Str → Option Value) := EX.Err K mg "InvalidTexts" "index" "InvalidTexts.__init__" sETexts
theorem ok_etexts {P : Program} {w : World} {K : PySem.W.Frag} {mg : Str → Option Value} {base : Heap} (T : ETexts K mg) : FnOk P w K mg base CX0 1 T.f T.fdd ["self", "index"] (EX.spIni K T.C "index") := by
  refine T.F.ok scETexts (fun vs H Q E h => ?_) (fun cdv A outer s H vs Q E hr h => ?_)
  · obtain ⟨_, _, rfl, _⟩ := h
    rfl
  · obtain ⟨a, v, rfl, ha, q⟩ := h
    refine ⟨_, pss_one (ps_ost (pv 0) (pv 1)), ?_⟩
    exact ⟨_, rfl, _, rfl, a, T.C, rfl, T.T, T.no, .inl ⟨ha, fun dx h1 h2 => q dx h1 h2⟩⟩
end My

namespace My
open PySem PySem.Spec PyProof.Rows L2
/-! ### units, decimals, roundings that are refused -/
def optN : Option Nat → V
  | none => .non
  | some i => .int (i : Int)
/-- a unit fits behind others -/
def fitB (us : List (Str × Int)) (u : Str × Int) : Bool :=
  if us.length = 0 then decide (V.int u.2 = V.int 1) else
    decide ((us.getD (us.length - 1) ("", 1)).2 < u.2) && (decide (V.int (u.2 % (us.getD (us.length - 1) ("", 1)).2) = V.int 0) && !inV (.str u.1) (us.map fun v => V.str v.1))
def Th.unitOf : Th → Option (Str × Int)
  | .tup [.str z, .int n] => if (Th.tup [.str z, .int n]).isUnit = true then some (z, n) else none
  | _ => none
def badGo : List (Str × Int) → Nat → List Th → Option (Option Nat)
  | _, _, [] => none
  | us, i, d :: r => match d.unitOf with
    | none => some (some i)
    | some u => if fitB us u = true then badGo (us ++ [u]) (i + 1) r else some (some i)
/-- what is bad of units: nothing | all of it | the place -/
def unitsBad : Th → Option (Option Nat)
  | .tup ds => if ds.length = 0 ∨ 6 < ds.length then some none else badGo [] 0 ds
  | _ => some none
theorem unitOf_inv {K : PySem.W.Frag} {C : Addr} {H : Hp} {v : V} {t : Th} {u : Str × Int} (h : Ta K C H v t) (e : t.unitOf = some u) : t.isUnit = true ∧ 1 ≤ u.2 ∧ ∃ p, v = .ref p ∧ SqT K H p [.str u.1, .int u.2] := by
  unfold Th.unitOf at e
  split at e
  · rename_i z n
    split at e
    · rename_i hu
      cases e
      obtain ⟨a, vs, rfl, hp, hd⟩ := h.tup_inv
      refine ⟨hu, ?_, a, rfl, ?_⟩
      · have : (Th.tup [.str z, .int n]).isUnit = ((Th.str z).isName && (Th.int n).within 1 1000000000000000000) := rfl
        rw [this, Bool.and_eq_true] at hu
        exact (of_decide_eq_true (show decide (1 ≤ n ∧ n ≤ 1000000000000000000) = true from hu.2)).1
      · cases hd with
        | cons h1 r =>
          cases r with
          | cons h2 r =>
            cases r
            cases h1
            cases h2
            exact hp
    · cases e
  · cases e
theorem unitOf_no {t : Th} (e : t.unitOf = none) : t.isUnit = false := by
  unfold Th.unitOf at e
  split at e
  · rename_i z n
    split at e
    · cases e
    · rename_i hu
      exact Bool.eq_false_iff.mpr hu
  · rename_i hn
    match t, hn with
    | .non, _ => rfl
    | .bl _, _ => rfl
    | .int _, _ => rfl
    | .str _, _ => rfl
    | .lst _, _ => rfl
    | .dic, _ => rfl
    | .lad .., _ => rfl
    | .tup [], _ => rfl
    | .tup [_], _ => rfl
    | .tup (_ :: _ :: _ :: _), _ => rfl
    | .tup [a, b], hn =>
      show (a.isName && b.within 1 1000000000000000000) = false
      cases a with
      | str z =>
        cases b with
        | int n => exact absurd rfl (hn z n)
        | _ => exact Bool.and_false _
      | _ => rfl
def spFitsB (K : PySem.W.Frag) : Sp := fun vs H Q _ => ∃ (b p : Addr) (us : List (Str × Int)) (u : Str × Int), vs = [.ref b, .ref p] ∧ UA K H b us ∧ SqT K H p [.str u.1, .int u.2] ∧ (∀ v ∈ us, 0 < v.2) ∧ us.length ≤ 6 ∧ ∀ H', Same H H' → Q (.bl (fitB us u)) H'
def spCUnitsX (K : PySem.W.Frag) (C CE : Addr) : Sp := fun vs H _ E => ∃ (v : V) (t : Th) (r : Option Nat), vs = [v] ∧ Ta K C H v t ∧ unitsBad t = some r ∧ ∀ dd H', Same H H' → H' dd = some (.xd [("index", optN r)]) → E (.ref CE) (some dd) H'
section
variable {P : Program} {w : World} {K : PySem.W.Frag} {mg : Str → Option Value} {base : Heap}
theorem ok_fitsB (d : Dd K mg "fits_behind" sFits ["before", "unit"]) (B : Bt mg) : FnOk P w K mg base CX0 2 d.f d.fd ["before", "unit"] (spFitsB K) := by
  refine d.F.ok scFits (fun vs H Q E h => ?_) (fun cdv A outer s H vs Q E hr h => ?_)
  · obtain ⟨_, _, _, _, rfl, _⟩ := h
    rfl
  · obtain ⟨b, p, us, u, rfl, ⟨ps, hb, hu⟩, hp, hpos, hlen, q⟩ := h
    refine ⟨_, pss_cons (ps_asg (pv 1) (pg_tup rfl (pgs_cons (pg_name (i := 2) scFits.nd rfl (.inl rfl)) (pgs_cons (pg_name (i := 3) scFits.nd rfl (.inl rfl)) pgs_nil))))
      (pss_cons (ps_if (pt_not (pt_truth (pv 0) (fun _ => rfl))) (pss_one (ps_ret (pe_cmpR op_eq (pv 3) pe_int (nomark _)))) pss_nil)
      (pss_cons (ps_set (i := 4) scFits.nd rfl (.inl rfl) (pe_ix ix_tup (pe_ix ix_tup (pv 0) (pe_un un_neg pe_int) (fun _ _ => rfl)) pe_int (fun _ _ => rfl)))
      (pss_one (ps_ret (pe_and (pe_cmpR op_gt (pv 3) (pv 4) (nomark _)) (pe_and (pe_cmpR op_eq (pe_op op_mod (pv 3) (pv 4)) pe_int (nomark _))
        (pe_one (pe_cmpR op_notIn_seq (pv 2)
          (pe_lc (own := [("other", 5)]) (g := gName 5) (tt := tYes) rfl scFits.nd (pi_tup (pv 0))
            (blkOk_by (own := [("other", 5)]) (N := ["before", "unit", "name", "size", "last_size", "other"]) (sc := defScope sFits) (by decide +kernel)) (fun _ _ _ _ _ => pg_name (i := 5) scFits.nd rfl (Or.inl rfl)) (fun _ _ _ _ _ => pts_nil)
            (fun _ _ _ _ _ => pe_ix (r := rIxT K) ix_tup (pv 5) pe_int (fun _ _ => rfl))) (by rfl))))))))), ?_⟩
    have el := UP.len hu
    refine ⟨.ref p, rfl, p, _, rfl, hp, rfl, .str u.1, [.int u.2], rfl, .int u.2, [], rfl, rfl, ?_⟩
    refine ⟨.ref b, rfl, _, .inr (.inl ⟨_, hb, rfl⟩), ?_⟩
    by_cases h0 : us.length = 0
    · have e : ps = [] := List.length_eq_zero_iff.mp (by omega)
      subst e
      have e2 : fitB us u = decide (V.int u.2 = V.int 1) := if_pos h0
      refine iteT ⟨.int u.2, rfl, rfl, ?_⟩
      have q := q _ (Same.refl _)
      rw [e2] at q
      exact q
    · have hpos' : 0 < ps.length := by omega
      obtain ⟨l, hl⟩ : ∃ l, us[us.length - 1]? = some l := ⟨_, List.getElem?_eq_getElem (by omega)⟩
      obtain ⟨pl, hpl, hsl⟩ := paired_at hu hl
      have eg : us.getD (us.length - 1) ("", 1) = l := by rw [List.getD_eq_getElem?_getD, hl]; rfl
      have e2 : fitB us u = (decide (l.2 < u.2) && (decide (V.int (u.2 % l.2) = V.int 0) && !inV (.str u.1) (us.map fun v => V.str v.1))) := by
        unfold fitB
        rw [if_neg h0, eg]
      have l0 := hpos l (List.mem_of_getElem? hl)
      rw [e2] at q
      have e0 : (!!(ps.map V.ref).isEmpty) = false := by
        cases ps with
        | nil => exact absurd hpos' (by simp)
        | cons a l => rfl
      refine iteE e0 ?_
      refine ⟨.ref b, rfl, 1, rfl, b, _, -1, .ref pl, rfl, rfl, hb, atI_end (by rw [List.length_map]; exact hpos') (by rw [List.length_map, el]; exact get_ref hpl), pl, _, 1, .int l.2, rfl, rfl, hsl, rfl, ?_⟩
      refine ⟨.int u.2, rfl, .int l.2, rfl, u.2, l.2, rfl, rfl, _, rfl, ite2 (fun c1 => ?_) (fun c1 => ?_)⟩
      · rw [c1] at q
        refine ⟨.int u.2, rfl, .int l.2, rfl, u.2, l.2, rfl, rfl, l0, rfl, _, rfl, ite2 (fun c2 => ?_) (fun c2 => ?_)⟩
        · rw [c2] at q
          refine ⟨.str u.1, rfl, .ref b, rfl, b, rfl, ⟨_, hb⟩, fun D nD => ?_⟩
          refine lc_tup (K := K) (a := b) (xs := ps.map V.ref) (fun i H2 => Same H H2 ∧ H2 D = some (.lst ((us.take i).map fun u => V.str u.1))) ⟨same_upd nD, upd_same⟩ (fun i H2 _ h => same_sqt h.1 hb) ?_ ?_
          · rintro i x H2 hi ⟨sm, hD⟩
            obtain ⟨pi, hpi, rfl⟩ := of_get_ref hi
            obtain ⟨uu, hui, hsi⟩ := paired_fst hu hpi
            refine ⟨rfl, .ref pi, rfl, pi, _, 0, .str uu.1, rfl, rfl, same_sqt sm hsi, rfl, _, hD, ?_, fun c o e => ?_, ?_⟩
            · rw [List.length_map, List.length_take]
              exact Nat.lt_of_le_of_lt (Nat.le_trans (Nat.min_le_right _ _) hlen) (by decide)
            · rw [upd_ne (ne_of_none e nD)]
              exact sm _ _ e
            · rw [upd_same, List.take_add_one, hui, List.map_append]
              rfl
          · rintro H2 ⟨sm, hD⟩
            have et : us.take (ps.map V.ref).length = us := List.take_of_length_le (by rw [List.length_map, el]; exact Nat.le_refl _)
            rw [et] at hD
            refine ⟨D, _, rfl, .inl (SqL.of hD), rfl, ?_, ?_⟩
            · simp [List.all_map, flatV]
            · exact q _ sm
        · rw [Bool.eq_false_iff.mpr c2] at q
          exact q _ (Same.refl _)
      · rw [Bool.eq_false_iff.mpr c1] at q
        exact q _ (Same.refl _)
theorem ok_cunitsX (T : EUnits K mg) (d : Dd K mg "check_units" sCUnits ["units"]) (dU : Dd K mg "is_unit" sUnit ["unit"]) (dF : Dd K mg "fits_behind" sFits ["before", "unit"]) (L : LadC K mg) (I : LadI K L.C) (k : KitO K L.C) (B : Bt mg) (G : Gc K mg)
    (GU : FnOk P w K mg base CX0 3 dU.f dU.fd ["unit"] (spUnitT K L.C)) : FnOk P w K mg base (L2.CX P w) 4 d.f d.fd ["units"] (spCUnitsX K L.C T.C) := by
  obtain ⟨t1, g1⟩ := G.units
  have GF : FnOk P w K mg base CX0 2 dF.f dF.fd ["before", "unit"] (spFitsB K) := ok_fitsB dF B
  have GE : FnOk P w K mg base CX0 1 T.f T.fdd ["self", "index"] (EX.spIni K T.C "index") := ok_eunits T
  refine d.F.okX scCUnits (fun vs H Q E h => ?_) (fun cdv A outer s H vs Q E hr h => ?_)
  · obtain ⟨_, _, _, rfl, _⟩ := h
    rfl
  · obtain ⟨v, t, r, rfl, ht, hb, q⟩ := h
    have hr1 : Room 2 _ := hr.mono (by decide)
    obtain ⟨Ty, ty1, ty2, _⟩ := ht.ty L I k
    refine ⟨_, pss_cons (ps_if (PW.pt (pw_or (pt_not (pt_val (pe_callB call_isi (by rfl) B.isinstance (by decide +kernel) (pa_cons (pv 0) (pa_cons (pe_bltn (v := .ty "tuple") (by rfl) B.tuple (by decide +kernel) rfl) pa_nil)))))
        (pw_or1 (pt_not (pt_chain op_le op_le pe_int (pe_callB call_len_seq (by rfl) B.len PySem.boot_len (pa_cons (pv 0) pa_nil)) (pe_glob (v := .int 6) (by rfl) g1 ⟨_, rfl⟩)))))) (pss_one (EX.rs_err (X := cxOf (L2.CX P w) P w K mg base _ _ _ _ _ A outer s H E) T GE rfl hr1 (takes_of rfl rfl rfl rfl) (pa_cons pe_non pa_nil) rfl (by decide))) pss_nil)
      (pss_one (ps_for (passes_of rfl) rfl (pi_enT (by rfl) B.enumerate (pa_cons (pv 0) pa_nil)) (pg_tup rfl (pgs_cons (pg_name (i := 1) scCUnits.nd rfl (.inl rfl)) (pgs_cons (pg_name (i := 2) scCUnits.nd rfl (.inl rfl)) pgs_nil)))
        (pss_one (ps_if (PW.pt (pw_or (pt_not (pt_val (pe_call GU hr (by rfl) dU.g dU.F.kp dU.b .nil pass0 (pa_cons (pv 2) pa_nil))))
          (pw_or1 (pt_not (pt_val (pe_call GF hr1 (by rfl) dF.g dF.F.kp dF.b .nil pass0 (pa_cons (pe_slice sl_tupA (pv 0) po_none (po_some (pv 1))) (pa_cons (pv 2) pa_nil)))))))) (pss_one (EX.rs_err (X := cxOf (L2.CX P w) P w K mg base _ _ _ _ _ A outer s H E) T GE rfl hr1 (takes_of rfl rfl rfl rfl) (pa_cons (pv 1) pa_nil) rfl (by decide))) pss_nil)))), ?_⟩
    refine ⟨_, rfl, _, _, _, _, _, rfl, .ty "tuple", ty1, ty2 "tuple" (by simp), _, rfl, ?_⟩
    rcases t.tup_or with ⟨ds, rfl⟩ | ⟨et, eu⟩
    rotate_left
    · refine iteB (by rw [et]; rfl) ?_
      have hr0 : r = none := by
        cases t with
        | tup ds => cases et
        | _ => exact (Option.some.inj hb).symm
      subst hr0
      exact ⟨_, rfl, fun dd H' hv => q dd H' hv.2.1 hv.2.2⟩
    · obtain ⟨a, vs, rfl, ha, hd⟩ := ht.tup_inv
      have hl := hd.len
      refine iteF ⟨.ref a, rfl, a, _, rfl, .inr ha, 1, _, rfl, rfl, _, rfl, ?_⟩
      have hb2 : (if ds.length = 0 ∨ 6 < ds.length then some none else badGo [] 0 ds) = some r := hb
      by_cases hz : ds.length = 0 ∨ 6 < ds.length
      · rw [if_pos hz] at hb2
        have hr0 : r = none := (Option.some.inj hb2).symm
        subst hr0
        have fin : ∀ dd H', EX.ErrV H H' "index" .non dd → E (.ref T.C) (some dd) H' := fun dd H' hv => q dd H' hv.2.1 hv.2.2
        rcases hz with hz | hz
        · have e1 : decide ((1 : Int) ≤ (vs.length : Int)) = false := decide_eq_false (by omega)
          refine iteE e1 ⟨_, rfl, iteT ?_⟩
          exact ⟨_, rfl, fin⟩
        · have e1 : decide ((1 : Int) ≤ (vs.length : Int)) = true := decide_eq_true (by omega)
          have e2 : decide ((vs.length : Int) ≤ 6) = false := decide_eq_false (by omega)
          refine iteB e1 ⟨_, _, rfl, rfl, _, rfl, iteB (by rw [e2]; rfl) ?_⟩
          exact ⟨_, rfl, fin⟩
      · rw [if_neg hz] at hb2
        have e1 : decide ((1 : Int) ≤ (vs.length : Int)) = true := decide_eq_true (by omega)
        have e2 : decide ((vs.length : Int) ≤ 6) = true := decide_eq_true (by omega)
        refine iteB e1 ⟨_, _, rfl, rfl, _, rfl, iteE (by rw [e2]; rfl) ?_⟩
        refine ⟨.ref a, rfl, a, _, rfl, ha, for_enT (K := K) (a := a) (xs := vs) (fun i σ H2 => Same H H2 ∧ (∃ v1 v2, σ = [some (.ref a), v1, v2]) ∧ ∃ (us : List (Str × Int)) (ps : List Addr), vs.take i = ps.map V.ref ∧ UP K H ps us ∧ us.length = i ∧ (∀ u ∈ us, 0 < u.2) ∧ badGo us i (ds.drop i) = some r)
          ⟨Same.refl _, ⟨none, none, rfl⟩, [], [], rfl, .nil, rfl, (fun _ h => nomatch h), hb2⟩ (fun i σ H2 _ h => same_sqt h.1 ha) ?_ ?_⟩
        · rintro i x σ H2 Tt hi ⟨sm, ⟨v1, v2, rfl⟩, us, ps, e3, hu, hul, hup, hgo⟩ nT
          obtain ⟨t, hti, hx⟩ := hd.at hi
          have hil := (List.getElem?_eq_some_iff.mp hti).1
          have hdr : ds.drop i = t :: ds.drop (i + 1) := by
            rw [List.drop_eq_getElem_cons hil]
            congr 1
            exact (List.getElem?_eq_some_iff.mp hti).2
          rw [hdr] at hgo
          have smT : Same H (upd H2 Tt (.tup [.int (i : Nat), x])) := sm.trans (same_upd nT)
          refine ⟨Tt, _, rfl, .inl (.inl upd_same), rfl, .int (i : Nat), [x], rfl, x, [], rfl, rfl, ?_⟩
          refine ⟨x, rfl, x, t, rfl, hx.sm smT, _, rfl, ?_⟩
          cases eu : t.unitOf with
          | none =>
            rw [unitOf_no eu]
            have hgo : (match t.unitOf with | none => some (some i) | some u => if fitB us u = true then badGo (us ++ [u]) (i + 1) (ds.drop (i + 1)) else some (some i)) = some r := hgo
            rw [eu] at hgo
            have hr0 : r = some i := (Option.some.inj hgo).symm
            subst hr0
            exact iteT ⟨_, rfl, _, rfl, fun dd H' hv => q dd H' (smT.trans hv.2.1) hv.2.2⟩
          | some u =>
            obtain ⟨u1, u2, p, rfl, hs⟩ := unitOf_inv hx eu
            rw [u1]
            have hgo : (match t.unitOf with | none => some (some i) | some u => if fitB us u = true then badGo (us ++ [u]) (i + 1) (ds.drop (i + 1)) else some (some i)) = some r := hgo
            rw [eu] at hgo
            refine iteF ⟨.ref a, rfl, .int (i : Nat), rfl, _, rfl, a, _, rfl, same_sqt smT ha, fun z => ?_, fun _ c nc => ?_⟩
            · obtain ⟨_, z⟩ := z
              rw [HT.sIx_nat] at z
              omega
            · have smc := smT.trans (same_upd nc (o := .tup (cutV vs none (some (i : Int)))))
              have hcut : UA K (upd (upd H2 Tt (.tup [.int (i : Nat), .ref p])) c (.tup (cutV vs none (some (i : Int))))) c us := by
                refine ⟨ps, ?_, paired_imp (fun _ _ => same_sqt smc) hu⟩
                rw [← e3, ← cut_take i (by omega)]
                exact SqT.of upd_same
              refine ⟨.ref p, rfl, c, p, us, u, rfl, hcut, same_sqt smc hs, hup, by omega, fun H3 sm3 => ⟨_, rfl, ?_⟩⟩
              cases ef : fitB us u with
              | false =>
                have hgo : (if fitB us u = true then badGo (us ++ [u]) (i + 1) (ds.drop (i + 1)) else some (some i)) = some r := hgo
                rw [ef, if_neg Bool.false_ne_true] at hgo
                have hr0 : r = some i := (Option.some.inj hgo).symm
                subst hr0
                exact iteT ⟨_, rfl, _, rfl, fun dd H' hv => q dd H' ((smc.trans sm3).trans hv.2.1) hv.2.2⟩
              | true =>
                have hgo : (if fitB us u = true then badGo (us ++ [u]) (i + 1) (ds.drop (i + 1)) else some (some i)) = some r := hgo
                rw [ef, if_pos rfl] at hgo
                refine iteF ⟨smc.trans sm3, ⟨_, _, rfl⟩, us ++ [u], ps ++ [p], ?_, hu.snoc hs, by rw [List.length_append, hul]; rfl, fun y hy => ?_, hgo⟩
                · rw [List.take_add_one, hi, e3, List.map_append]
                  rfl
                · rcases List.mem_append.mp hy with z | z
                  · exact hup y z
                  · rw [List.mem_singleton.mp z]
                    omega
        · rintro σ H2 ⟨sm, _, us, ps, e3, hu, hul, hup, hgo⟩
          exfalso
          rw [List.drop_of_length_le (by omega)] at hgo
          cases hgo
end
end My

namespace My
open PySem PySem.Spec PyProof.Rows L2
/-! ### ladders that are not made -/
def suitsB (us : List (Str × Int)) (d : Nat) : Bool := (us.drop 1).all fun u => decide (u.2 % (2 * 10 ^ d) = 0)
theorem suitsB_iff {us : List (Str × Int)} {d : Nat} : suitsB us d = true ↔ Suits us d := by
  unfold suitsB Suits
  rw [List.all_eq_true]
  exact ⟨fun h u hu => of_decide_eq_true (h u hu), fun h u hu => decide_eq_true (h u hu)⟩
def decB (us : List (Str × Int)) : Th → Bool
  | .int i => decide (0 ≤ i ∧ i ≤ 3) && suitsB us i.toNat
  | _ => false
def Th.isSort : Th → Bool
  | .str z => decide (z ∈ sorts)
  | _ => false
def Th.isB : Th → Bool
  | .bl _ => true
  | _ => false
theorem decB_inv {K : PySem.W.Frag} {C : Addr} {H : Hp} {us : List (Str × Int)} {v : V} {t : Th} (h : Ta K C H v t) (e : decB us t = true) : ∃ d : Nat, v = .int (d : Int) ∧ t = .int (d : Int) ∧ d ≤ 3 ∧ Suits us d := by
  unfold decB at e
  split at e
  · rename_i i
    rw [Bool.and_eq_true] at e
    have h1 := of_decide_eq_true e.1
    cases h
    refine ⟨i.toNat, ?_, ?_, by omega, suitsB_iff.mp e.2⟩
    · rw [Int.toNat_of_nonneg h1.1]
    · rw [Int.toNat_of_nonneg h1.1]
  · cases e
theorem decB_no {us : List (Str × Int)} {t : Th} (e : decB us t = false) : t.within 0 3 = false ∨ ∃ d : Nat, t = .int (d : Int) ∧ d ≤ 3 ∧ ¬ Suits us d := by
  cases t with
  | int i =>
    by_cases h : 0 ≤ i ∧ i ≤ 3
    · refine .inr ⟨i.toNat, by rw [Int.toNat_of_nonneg h.1], by omega, fun z => ?_⟩
      have e1 : decB us (.int i) = (decide (0 ≤ i ∧ i ≤ 3) && suitsB us i.toNat) := rfl
      rw [e1, decide_eq_true h, suitsB_iff.mpr z] at e
      cases e
    · exact .inl (decide_eq_false h)
  | _ => exact .inl rfl
theorem sort_inv {K : PySem.W.Frag} {C : Addr} {H : Hp} {v : V} {t : Th} (h : Ta K C H v t) (e : t.isSort = true) : ∃ z : Str, v = .str z ∧ z ∈ sorts := by
  unfold Th.isSort at e
  split at e
  · cases h
    exact ⟨_, rfl, of_decide_eq_true e⟩
  · cases e
theorem isB_inv {K : PySem.W.Frag} {C : Addr} {H : Hp} {v : V} {t : Th} (h : Ta K C H v t) (e : t.isB = true) : ∃ b : Bool, v = .bl b ∧ t = .bl b := by
  unfold Th.isB at e
  split at e
  · cases h
    exact ⟨_, rfl, rfl⟩
  · cases e
theorem isB_is {t : Th} : t.is "bool" = t.isB := by
  cases t <;> rfl
theorem str_or (t : Th) : (∃ z, t = .str z) ∨ (t.is "str" = false ∧ t.isSort = false) := by
  cases t with
  | str z => exact .inl ⟨z, rfl⟩
  | _ => exact .inr ⟨by rfl, by rfl⟩
theorem not_sort {z : Str} (h : ¬ z ∈ sorts) : inV (.str z) [.str "down", .str "up", .str "near", .str "even"] = false := by
  have : inV (.str z) (sorts.map V.str) = false := by
    unfold inV
    rw [List.any_eq_false]
    intro y hy
    obtain ⟨v, hv, rfl⟩ := List.mem_map.mp hy
    have : v ≠ z := fun e => h (by rw [← e]; exact hv)
    simpa [eqV] using this
  exact this
def spCDecT (K : PySem.W.Frag) (C CE : Addr) : Sp := fun vs H _ E => ∃ (a : Addr) (us : List (Str × Int)) (v : V) (t : Th), vs = [.ref a, v] ∧ UA K H a us ∧ 1 ≤ us.length ∧ Ta K C H v t ∧ decB us t = false ∧ ∀ dd H', Same H H' → H' dd = some (.xd [("value", v)]) → E (.ref CE) (some dd) H'
def spCRndT (K : PySem.W.Frag) (C CE : Addr) : Sp := fun vs H _ E => ∃ (v : V) (t : Th), vs = [v] ∧ Ta K C H v t ∧ t.isSort = false ∧ ∀ dd H', Same H H' → H' dd = some (.xd [("value", v)]) → E (.ref CE) (some dd) H'
/-- the classes that a ladder's making may raise -/
structure LErr (K : PySem.W.Frag) (mg : Str → Option Value) where
  D : EDec K mg
  R : ERnd K mg
  B : ECarry K mg
/-- what is refused first, in the order of the text: the class and the value -/
def LBad {K : PySem.W.Frag} {mg : Str → Option Value} (T : LErr K mg) (us : List (Str × Int)) (x y z : V) (tx ty tz : Th) (CE : Addr) (v : V) : Prop :=
  (decB us tx = false ∧ CE = T.D.C ∧ v = x) ∨ (decB us tx = true ∧ ty.isSort = false ∧ CE = T.R.C ∧ v = y) ∨ (decB us tx = true ∧ ty.isSort = true ∧ tz.isB = false ∧ CE = T.B.C ∧ v = z)
def spLInitT {mg : Str → Option Value} (K : PySem.W.Frag) (C : Addr) (T : LErr K mg) : Sp := fun vs H _ E => ∃ (p dx ua : Addr) (us : List (Str × Int)) (x y z l : V) (tx ty tz : Th) (CE : Addr) (v : V), vs = [.ref p, .ref ua, x, y, z, l] ∧ H p = some (.ins C dx []) ∧ UA K H ua us ∧ GoodUs us ∧
  Ta K C H x tx ∧ Ta K C H y ty ∧ Ta K C H z tz ∧ LBad T us x y z tx ty tz CE v ∧ ∀ dd H', Same H H' → H' dd = some (.xd [("value", v)]) → E (.ref CE) (some dd) H'
section
variable {P : Program} {w : World} {K : PySem.W.Frag} {mg : Str → Option Value} {base : Heap}
theorem ok_cdecT (T : EDec K mg) (d : Dd K mg "check_decimals" sCDec ["units", "decimals"]) (dW : DdW K mg) (L : LadC K mg) (I : LadI K L.C) (k : KitO K L.C) (B : Bt mg) (G : Gc K mg) : FnOk P w K mg base (L2.CX P w) 3 d.f d.fd ["units", "decimals"] (spCDecT K L.C T.C) := by
  obtain ⟨t1, g1⟩ := G.decs
  obtain ⟨a2, g2, g3⟩ := G.parts
  have GW : FnOk P w K mg base CX0 2 dW.f dW.fd ["value", "low", "high"] (spWithinT K L.C) := ok_withinT dW L I k B
  have GE : FnOk P w K mg base CX0 1 T.f T.fdd ["self", "value"] (EX.spIni K T.C "value") := ok_edec T
  refine d.F.okX scCDec (fun vs H Q E h => ?_) (fun cdv A outer s H vs Q E hr h => ?_)
  · obtain ⟨_, _, _, _, rfl, _⟩ := h
    rfl
  · obtain ⟨a, us, v, t, rfl, ⟨ps, ha, hu⟩, hlen, ht, hbad, q⟩ := h
    refine ⟨_, pss_cons (ps_if (pt_not (pt_val (pe_call GW hr (by rfl) dW.g dW.F.kp dW.b .nil pass0 (pa_cons (pv 1) (pa_cons pe_int (pa_cons (pe_glob (v := .int 3) (by rfl) g1 ⟨_, rfl⟩) pa_nil)))))) (pss_one (EX.rs_err (X := cxOf (L2.CX P w) P w K mg base _ _ _ _ _ A outer s H E) T GE rfl hr (takes_of rfl rfl rfl rfl) (pa_cons (pv 1) pa_nil) rfl (by decide))) pss_nil)
      (pss_one (ps_for (passes_of rfl) rfl (pi_tup (pe_slice sl_tupA (pv 0) (po_some pe_int) po_none)) (pg_name (i := 2) scCDec.nd rfl (.inl rfl))
        (pss_one (ps_if (pt_cmpR op_ne (pe_op op_mod (pe_ix ix_tup (pv 2) pe_int (fun _ _ => rfl)) (pe_op op_mul pe_int (pe_ix ix_tup (pe_glob (v := .ref a2) (by rfl) g2 rfl) (pv 1) (fun _ _ => rfl)))) pe_int (nomark _)) (pss_one (EX.rs_err (X := cxOf (L2.CX P w) P w K mg base _ _ _ _ _ A outer s H E) T GE rfl hr (takes_of rfl rfl rfl rfl) (pa_cons (pv 1) pa_nil) rfl (by decide))) pss_nil)))), ?_⟩
    have el := UP.len hu
    refine ⟨v, rfl, v, t, 0, 3, rfl, ht, _, rfl, ?_⟩
    rcases decB_no hbad with e | ⟨dn, rfl, hd, hno⟩
    · refine iteB (by rw [e]; rfl) ?_
      exact ⟨_, rfl, _, rfl, fun dd H' hv => q dd H' hv.2.1 hv.2.2⟩
    · obtain rfl : v = .int (dn : Int) := by
        cases ht
        rfl
      have e : (Th.int (dn : Int)).within 0 3 = true := decide_eq_true (by omega)
      refine iteE (by rw [e]; rfl) ?_
      refine ⟨.ref a, rfl, 1, rfl, a, _, rfl, ha, fun z => ?_, fun _ c nc => ?_⟩
      · obtain ⟨z, _⟩ := z
        rw [show HT.sIx (ps.map V.ref).length 0 (some 1) = min 1 (ps.map V.ref).length from HT.sIx_nat _ 0 1, List.length_map] at z
        omega
      · have smc : Same H (upd H c (.tup (cutV (ps.map V.ref) (some 1) none))) := same_upd nc
        refine ⟨c, rfl, ⟨_, SqT.of upd_same⟩, for_tup (K := K) (a := c) (xs := cutV (ps.map V.ref) (some 1) none) (fun i σ H2 => Same (upd H c (.tup (cutV (ps.map V.ref) (some 1) none))) H2 ∧ (∃ v, σ = [some (.ref a), some (.int (dn : Int)), v]) ∧ ∀ u ∈ (us.drop 1).take i, u.2 % (2 * 10 ^ dn) = 0)
          ⟨Same.refl _, ⟨none, rfl⟩, (fun _ h => nomatch h)⟩ (fun i σ H2 _ h => same_sqt h.1 (SqT.of upd_same)) ?_ ?_⟩
        · rintro i x σ H2 hi ⟨sm, ⟨v, rfl⟩, hgood⟩
          rw [cut_drop1, ← List.map_drop] at hi
          obtain ⟨p, hp, rfl⟩ := of_get_ref hi
          obtain ⟨u, hu2, hs⟩ := paired_fst (paired_drop 1 hu) hp
          have hm : u ∈ us.drop 1 := List.mem_of_getElem? hu2
          have hpos := pow_lo dn
          have hhi := pow_hi hd
          refine ⟨.ref p, rfl, p, _, 1, .int u.2, rfl, rfl, same_sqt sm (same_sqt smc hs), rfl, .int (dn : Int), rfl, a2, _, dn, _, rfl, rfl, g3 H2, parts_at hd, 2, _, rfl, rfl, .inl ⟨by decide, by decide⟩, u.2, _, rfl, rfl, (by show (0 : Int) < 2 * 10 ^ dn; omega), rfl, _, rfl, ite2 (fun _ => ?_) (fun e => ?_)⟩
          · exact ⟨_, rfl, _, rfl, fun dd H' hv => q dd H' ((smc.trans sm).trans hv.2.1) hv.2.2⟩
          · have hz : u.2 % (2 * 10 ^ dn) = 0 := by
              by_cases z : u.2 % (2 * 10 ^ dn) = 0
              · exact z
              · exact absurd (show (!decide (V.int (u.2 % (2 * 10 ^ dn)) = V.int 0)) = true by rw [decide_eq_false fun w => z (V.int.inj w)]; rfl) e
            refine ⟨sm, ⟨_, rfl⟩, fun w hw => ?_⟩
            rw [List.take_add_one, hu2] at hw
            rcases List.mem_append.mp hw with k | k
            · exact hgood w k
            · rw [List.mem_singleton.mp k]
              exact hz
        · rintro σ H2 ⟨sm, _, hgood⟩
          exfalso
          refine hno fun u hu' => hgood u ?_
          rw [List.take_of_length_le]
          · exact hu'
          · rw [cut_drop1]
            simp only [List.length_drop, List.length_map]
            omega
theorem ok_crndT (T : ERnd K mg) (d : Dd K mg "check_rounding" sCRnd ["rounding"]) (L : LadC K mg) (I : LadI K L.C) (k : KitO K L.C) (B : Bt mg) (G : Gc K mg) : FnOk P w K mg base (L2.CX P w) 3 d.f d.fd ["rounding"] (spCRndT K L.C T.C) := by
  obtain ⟨a1, g1, g2⟩ := G.rounds
  have GE : FnOk P w K mg base CX0 1 T.f T.fdd ["self", "value"] (EX.spIni K T.C "value") := ok_ernd T
  refine d.F.okX scCRnd (fun vs H Q E h => ?_) (fun cdv A outer s H vs Q E hr h => ?_)
  · obtain ⟨_, _, rfl, _⟩ := h
    rfl
  · obtain ⟨v, t, rfl, ht, hbad, q⟩ := h
    obtain ⟨Ty, ty1, ty2, _⟩ := ht.ty L I k
    refine ⟨_, pss_one (ps_if (PW.pt (pw_or (pt_not (pt_val (pe_callB call_isi (by rfl) B.isinstance (by decide +kernel) (pa_cons (pv 0) (pa_cons (pe_bltn (v := .ty "str") (by rfl) B.str (by decide +kernel) rfl) pa_nil)))))
        (pw_or1 (pt_cmpR op_notIn_seq (pv 0) (pe_glob (v := .ref a1) (by rfl) g1 rfl) (by rfl))))) (pss_one (EX.rs_err (X := cxOf (L2.CX P w) P w K mg base _ _ _ _ _ A outer s H E) T GE rfl hr (takes_of rfl rfl rfl rfl) (pa_cons (pv 0) pa_nil) rfl (by decide))) pss_nil), ?_⟩
    refine ⟨_, rfl, _, _, _, _, _, rfl, .ty "str", ty1, ty2 "str" (by simp), _, rfl, ?_⟩
    rcases str_or t with ⟨z, rfl⟩ | ⟨et, _⟩
    · obtain rfl : v = .str z := by
        cases ht
        rfl
      have hz : ¬ z ∈ sorts := of_decide_eq_false hbad
      refine iteF ⟨_, rfl, a1, _, rfl, .inr (g2 H), rfl, rfl, ?_⟩
      rw [if_pos rfl, not_sort hz]
      exact ⟨_, rfl, iteT ⟨_, rfl, _, rfl, fun dd H' hv => q dd H' hv.2.1 hv.2.2⟩⟩
    · refine iteB (by rw [et]; rfl) ?_
      exact ⟨_, rfl, _, rfl, fun dd H' hv => q dd H' hv.2.1 hv.2.2⟩
theorem ok_linitT (T : LErr K mg) (L : LadC K mg) (I : LadI K L.C) (k : KitO K L.C) (dC : Dd K mg "check_units" sCUnits ["units"]) (dD : Dd K mg "check_decimals" sCDec ["units", "decimals"]) (dR : Dd K mg "check_rounding" sCRnd ["rounding"]) (dW : DdW K mg) (B : Bt mg) (G : Gc K mg)
    (GC : FnOk P w K mg base CX0 4 dC.f dC.fd ["units"] (spCUnits K)) : FnOk P w K mg base (L2.CX P w) 5 L.f L.fd ["self", "units", "decimals", "rounding", "carry", "least"] (spLInitT K L.C T) := by
  have GD : FnOk P w K mg base CX0 3 dD.f dD.fd ["units", "decimals"] (spCDec K) := ok_cdec dD dW B G
  have GR : FnOk P w K mg base CX0 2 dR.f dR.fd ["rounding"] spCRnd := ok_crnd dR B G
  have GDX : FnOk P w K mg base (L2.CX P w) 3 dD.f dD.fd ["units", "decimals"] (spCDecT K L.C T.D.C) := ok_cdecT T.D dD dW L I k B G
  have GRX : FnOk P w K mg base (L2.CX P w) 3 dR.f dR.fd ["rounding"] (spCRndT K L.C T.R.C) := ok_crndT T.R dR L I k B G
  have GE : FnOk P w K mg base CX0 1 T.B.f T.B.fdd ["self", "value"] (EX.spIni K T.B.C "value") := ok_ecarry T.B
  refine L.F.okX scLInit (fun vs H Q E h => ?_) (fun cdv A outer s H vs Q E hr h => ?_)
  · obtain ⟨_, _, _, _, _, _, _, _, _, _, _, _, _, rfl, _⟩ := h
    rfl
  · obtain ⟨p, dx, ua, us, x, y, z, l, tx, ty, tz, CE, v, rfl, hp, hU, g, hx, hy, hz, hbad, q⟩ := h
    have hr3 : Room 3 _ := hr.mono (by decide)
    have hr2 : Room 2 _ := hr.mono (by decide)
    rcases hbad with ⟨h1, rfl, rfl⟩ | ⟨h1, h2, rfl, rfl⟩ | ⟨h1, h2, h3, rfl, rfl⟩
    · refine ⟨_, pss_cons (ps_expr (pe_call GC hr (by rfl) dC.g dC.F.kp dC.b .nil pass0 (pa_cons (pv 1) pa_nil)))
        (pss_cons (ps_expr (pe_call GDX hr3 (by rfl) dD.g dD.F.kp dD.b .nil (passes_call (takes_of rfl rfl rfl rfl) (fun _ _ _ _ h => h)) (pa_cons (pv 1) (pa_cons (pv 2) pa_nil)))) pss_never), ?_⟩
      refine ⟨.ref ua, rfl, ua, us, rfl, hU, g, fun H1 s1 => ?_⟩
      exact ⟨.ref ua, rfl, _, rfl, ua, us, _, tx, rfl, hU.same s1, g.lo, hx.sm s1, h1, fun dd H' s2 hv => q dd H' (s1.trans s2) hv⟩
    · obtain ⟨d, rfl, rfl, d3, hs⟩ := decB_inv hx h1
      refine ⟨_, pss_cons (ps_expr (pe_call GC hr (by rfl) dC.g dC.F.kp dC.b .nil pass0 (pa_cons (pv 1) pa_nil)))
        (pss_cons (ps_expr (pe_call GD hr3 (by rfl) dD.g dD.F.kp dD.b .nil pass0 (pa_cons (pv 1) (pa_cons (pv 2) pa_nil))))
        (pss_cons (ps_expr (pe_call GRX hr3 (by rfl) dR.g dR.F.kp dR.b .nil (passes_call (takes_of rfl rfl rfl rfl) (fun _ _ _ _ h => h)) (pa_cons (pv 3) pa_nil))) pss_never)), ?_⟩
      refine ⟨.ref ua, rfl, ua, us, rfl, hU, g, fun H1 s1 => ?_⟩
      refine ⟨.ref ua, rfl, _, rfl, ua, us, d, rfl, hU.same s1, g.lo, d3, hs, fun H2 s2 => ?_⟩
      have s12 := s1.trans s2
      exact ⟨_, rfl, _, ty, rfl, hy.sm s12, h2, fun dd H' s3 hv => q dd H' (s12.trans s3) hv⟩
    · obtain ⟨d, rfl, rfl, d3, hs⟩ := decB_inv hx h1
      obtain ⟨so, rfl, hso⟩ := sort_inv hy h2
      refine ⟨_, pss_cons (ps_expr (pe_call GC hr (by rfl) dC.g dC.F.kp dC.b .nil pass0 (pa_cons (pv 1) pa_nil)))
        (pss_cons (ps_expr (pe_call GD hr3 (by rfl) dD.g dD.F.kp dD.b .nil pass0 (pa_cons (pv 1) (pa_cons (pv 2) pa_nil))))
        (pss_cons (ps_expr (pe_call GR hr2 (by rfl) dR.g dR.F.kp dR.b .nil pass0 (pa_cons (pv 3) pa_nil)))
        (pss_cons (ps_if (pt_not (pt_val (pe_callB call_isi (by rfl) B.isinstance (by decide +kernel) (pa_cons (pv 4) (pa_cons (pe_bltn (v := .ty "bool") (by rfl) B.bool (by decide +kernel) rfl) pa_nil))))) (pss_one (EX.rs_err (X := cxOf (L2.CX P w) P w K mg base _ _ _ _ _ A outer s H E) T.B GE rfl hr2 (takes_of rfl rfl rfl rfl) (pa_cons (pv 4) pa_nil) rfl (by decide))) pss_nil) pss_never))), ?_⟩
      refine ⟨.ref ua, rfl, ua, us, rfl, hU, g, fun H1 s1 => ?_⟩
      refine ⟨.ref ua, rfl, _, rfl, ua, us, d, rfl, hU.same s1, g.lo, d3, hs, fun H2 s2 => ?_⟩
      have s12 := s1.trans s2
      refine ⟨_, rfl, so, rfl, hso, ?_⟩
      obtain ⟨Ty, ty1, ty2, _⟩ := (hz.sm s12).ty L I k
      refine ⟨_, rfl, _, _, _, _, _, rfl, .ty "bool", ty1, ty2 "bool" (by simp), _, rfl, iteB (by rw [isB_is, h3]; rfl) ?_⟩
      exact ⟨_, rfl, _, rfl, fun dd H' hv => q dd H' (s12.trans hv.2.1) hv.2.2⟩
end
end My

namespace My
open PySem PySem.Spec PyProof.Rows L2
/-- whether units are good, to be worked out -/
def goodNBw (z : Str) : Bool := decide (z.length ≤ 3) && (decide (Txt.stripChars z letters = "") && (PyData.strOk z && z.cps.toList.all (letters.cps.contains ·)))
theorem goodN_ofw {z : Str} (h : goodNBw z = true) : GoodN z := by
  unfold goodNBw at h
  simp only [Bool.and_eq_true, decide_eq_true_eq] at h
  exact ⟨h.1, h.2.1, h.2.2.1, h.2.2.2⟩
def fitBw (us : List (Str × Int)) (u : Str × Int) : Bool := (decide (us.length = 0) && decide (u.2 = 1)) || match us[us.length - 1]? with
  | none => false
  | some l => decide (0 < l.2) && (decide (l.2 < u.2) && (decide (u.2 % l.2 = 0) && us.all fun v => !decide (v.1 = u.1)))
theorem fit_ofw {us : List (Str × Int)} {u : Str × Int} (h : fitBw us u = true) : Fit us u := by
  unfold fitBw at h
  rw [Bool.or_eq_true] at h
  rcases h with h | h
  · rw [Bool.and_eq_true, decide_eq_true_eq, decide_eq_true_eq] at h
    exact .inl ⟨List.eq_nil_of_length_eq_zero h.1, h.2⟩
  · cases e : us[us.length - 1]? with
    | none =>
      rw [e] at h
      cases h
    | some l =>
      rw [e] at h
      simp only [Bool.and_eq_true, decide_eq_true_eq] at h
      refine .inr ⟨l, e, fun z => ?_, h.1, h.2.1, h.2.2.1, fun v hv w => ?_⟩
      · rw [z] at e
        cases e
      · have := List.all_eq_true.mp h.2.2.2 v hv
        rw [w, decide_eq_true rfl] at this
        cases this
def goodBw (us : List (Str × Int)) : Bool := decide (1 ≤ us.length) && (decide (us.length ≤ 6) && (List.range us.length).all fun i => match us[i]? with
  | none => false
  | some u => goodNBw u.1 && (decide (1 ≤ u.2) && (decide (u.2 ≤ 1000000000000000000) && fitBw (us.take i) u)))
theorem good_ofw {us : List (Str × Int)} (h : goodBw us = true) : GoodUs us := by
  unfold goodBw at h
  rw [Bool.and_eq_true, Bool.and_eq_true, decide_eq_true_eq, decide_eq_true_eq] at h
  refine ⟨h.1, h.2.1, fun i u hu => ?_⟩
  have hi : i < us.length := (List.getElem?_eq_some_iff.mp hu).1
  have := List.all_eq_true.mp h.2.2 i (List.mem_range.mpr hi)
  rw [hu] at this
  simp only [Bool.and_eq_true, decide_eq_true_eq] at this
  exact ⟨goodN_ofw this.1, this.2.1, this.2.2.1, fit_ofw this.2.2.2⟩
/-! ### things that are units, pairs that were seen, triples -/
abbrev unitT (u : Str × Int) : Th := .tup [.str u.1, .int u.2]
theorem tas_pairs {α : Type} {K : PySem.W.Frag} {C : Addr} {H : Hp} (f : α → Th) {R : Addr → α → Prop} (hf : ∀ v x, Ta K C H v (f x) → ∃ p, v = .ref p ∧ R p x) : ∀ {xs : List α} {vs : List V}, TaAll K C H vs (xs.map f) → ∃ ps : List Addr, vs = ps.map V.ref ∧ PySem.Paired R ps xs
  | [], vs, h => by
    cases h
    exact ⟨[], rfl, .nil⟩
  | x :: xs, vs, h => by
    cases h with
    | cons h1 h2 =>
      obtain ⟨p, rfl, r⟩ := hf _ _ h1
      obtain ⟨ps, rfl, q⟩ := tas_pairs f hf h2
      exact ⟨p :: ps, rfl, .cons r q⟩
theorem ta_pair2 {K : PySem.W.Frag} {C : Addr} {H : Hp} {v : V} {x y : Th} {a b : V} (h : Ta K C H v (.tup [x, y])) (hx : ∀ u, Ta K C H u x → u = a) (hy : ∀ u, Ta K C H u y → u = b) : ∃ p, v = .ref p ∧ SqT K H p [a, b] := by
  obtain ⟨p, vs, rfl, hp, hd⟩ := h.tup_inv
  obtain ⟨v1, v2, a1, a2, rfl, e, h1, h2⟩ := hd.two (by rw [hd.len]; rfl)
  cases e
  rw [hx _ h1, hy _ h2] at hp
  exact ⟨p, rfl, hp⟩
theorem ta_str {K : PySem.W.Frag} {C : Addr} {H : Hp} {u : V} {s : Str} (h : Ta K C H u (.str s)) : u = .str s := by cases h; rfl
theorem ta_int {K : PySem.W.Frag} {C : Addr} {H : Hp} {u : V} {s : Int} (h : Ta K C H u (.int s)) : u = .int s := by cases h; rfl
theorem ta_bl {K : PySem.W.Frag} {C : Addr} {H : Hp} {u : V} {s : Bool} (h : Ta K C H u (.bl s)) : u = .bl s := by cases h; rfl
theorem ta_UA {K : PySem.W.Frag} {C : Addr} {H : Hp} {v : V} {us : List (Str × Int)} (h : Ta K C H v (.tup (us.map unitT))) : ∃ ua, v = .ref ua ∧ UA K H ua us := by
  obtain ⟨ua, vs, rfl, hp, hd⟩ := h.tup_inv
  obtain ⟨ps, rfl, q⟩ := tas_pairs unitT (R := fun p u => SqT K H p [.str u.1, .int u.2]) (fun v x h => ta_pair2 h (fun _ => ta_str) fun _ => ta_int) hd
  exact ⟨ua, rfl, ps, hp, q⟩
end My

namespace My
open PySem PySem.Spec PyProof.Rows L2
/-! ### the sample ladder, ladders made of written data -/
abbrev sSample : Stmt := top 56
theorem scSample : FnScope [] [] (defScope sSample) := ⟨rfl, rfl, rfl, by decide +kernel, rfl, by decide +kernel, by decide +kernel⟩
abbrev usS : List (Str × Int) := [("", 1), ("K", 1000), ("M", 1000000)]
theorem guS : GoodUs usS := good_ofw (by kernel_rfl)
theorem gS : Good usS 1 "near" 1 := ⟨guS, by decide, by decide, by decide, by decide, by decide⟩
abbrev ladS : Th := .lad usS 1 "near" true 1
theorem kz_linitA {K : PySem.W.Frag} {f : Addr} {fd : FuncData} (F : LadD K f fd) : ∃ ds, Vals [V.bl true, V.int 1] ds ∧ Binds K fd ["self", "units", "decimals", "rounding", "carry", "least"] ds :=
  F.binds0 4 (by simp) (by simp) (fun D doc pm an cdv ct us ks h1 h2 => by
    match us, ks, h1, h2 with
    | [_, _, _, _], [_, _], _, _ => exact ⟨_, _, _, _, _, _, rfl, rfl, _, _, _, _, _, _, rfl, rfl, rfl⟩)
theorem made_ofA {K : PySem.W.Frag} {C : Addr} {H : Hp} {ua : Addr} {us : List (Str × Int)} {d : Nat} {s : Str} {c : Bool} {l : Int} {ws : Addr → List V} {Q : Addr → Hp → Prop} {E : XK} (e : ∀ x, ws x = [.ref x, .ref ua, .int (d : Int), .str s, .bl c, .int l]) (hU : UA K H ua us) (g : Good us d s l)
    (q : ∀ (p : Addr) (H' : Hp), Same H H' → LadAt K C H' p us d s c l → Q p H') : ∀ x dx, H x = none → H dx = none → dx ≠ x → spLInit K C (ws x) (upd (upd H dx (.own x)) x (.ins C dx [])) (fun v H3 => v = V.non ∧ Q x H3) E := by
  intro x dx nx ndx nex
  have s0 : Same H (upd (upd H dx (.own x)) x (.ins C dx [])) := fun b o e => by
    rw [upd_ne (ne_of_none e nx), upd_ne (ne_of_none e ndx)]
    exact e
  refine ⟨x, dx, ua, us, d, s, c, l, e x, upd_same, hU.same s0, g, fun H' t' st th b1 h1 h2 h3 h4 => ⟨rfl, ?_⟩⟩
  have s1 : Same H H' := fun b o e => b1 b o (s0 b o e) (ne_of_none e nx)
  exact q x H' s1 ⟨dx, ua, t', st, th, h1, hU.same s1, h2, h3, h4⟩
theorem LadAt.hid {K : PySem.W.Frag} {C a p : Addr} {H : Hp} {us : List (Str × Int)} {d : Nat} {s : Str} {c : Bool} {l : Int} (hp : Spr H a) (h : LadAt K C H p us d s c l) : LadAt K C (hid a H) p us d s c l :=
  LadAt.but hp (fun b o e n => by rw [hid_at n]; exact e) h
def spSample (K : PySem.W.Frag) (C : Addr) : Sp := fun vs H Q _ => vs = [] ∧ ∀ (p : Addr) (H' : Hp), Same H H' → LadAt K C H' p usS 1 "near" true 1 → Q (.ref p) H'
section
variable {P : Program} {w : World} {K : PySem.W.Frag} {mg : Str → Option Value} {base : Heap}
theorem ok_sample (d : Dd K mg "sample_ladder" sSample []) (L : LadC K mg) (LD : LadD K L.f L.fd) (GI : FnOk P w K mg base CX0 5 L.f L.fd ["self", "units", "decimals", "rounding", "carry", "least"] (spLInit K L.C)) : FnOk P w K mg base CX0 7 d.f d.fd [] (spSample K L.C) := by
  obtain ⟨ds, KV, KZ⟩ := kz_linitA LD
  refine d.F.ok scSample (fun vs H Q E h => ?_) (fun cdv A outer s H vs Q E hr h => ?_)
  · obtain ⟨rfl, _⟩ := h
    rfl
  · obtain ⟨rfl, q⟩ := h
    refine ⟨_, pss_one (ps_ret (pe_make L.M GI hr (by rfl) L.g KZ KV pass0 (pa_cons (pe_tup (pa_cons (pe_tup (pa_cons pe_str (pa_cons pe_int pa_nil))) (pa_cons (pe_tup (pa_cons pe_str (pa_cons pe_int pa_nil))) (pa_cons (pe_tup (pa_cons pe_str (pa_cons pe_int pa_nil))) pa_nil)))) (pa_cons pe_int (pa_cons pe_str pa_nil))))), ?_⟩
    refine ⟨(by show 2 ≤ sizeLine; decide), fun p1 n1 => ⟨(by show 2 ≤ sizeLine; decide), fun p2 n2 => ⟨(by show 2 ≤ sizeLine; decide), fun p3 n3 => ⟨(by show 3 ≤ sizeLine; decide), fun ua nu => ?_⟩⟩⟩⟩
    have s1 := same_upd n1 (o := .tup [.str "", .int 1])
    have s2 := same_upd n2 (o := .tup [.str "K", .int 1000])
    have s3 := same_upd n3 (o := .tup [.str "M", .int 1000000])
    have s4 := same_upd nu (o := .tup [.ref p1, .ref p2, .ref p3])
    refine made_ofA (us := usS) (d := 1) (s := "near") (c := true) (l := 1) (fun _ => rfl) ⟨[p1, p2, p3], SqT.of upd_same, .cons ?_ (.cons ?_ (.cons ?_ .nil))⟩ gS fun p H' sm hL => q p H' ((((s1.trans s2).trans s3).trans s4).trans sm) hL
    · exact same_sqt ((s2.trans s3).trans s4) (SqT.of upd_same)
    · exact same_sqt (s3.trans s4) (SqT.of upd_same)
    · exact same_sqt s4 (SqT.of upd_same)
end
section
variable {X : Cx} {C a : Addr} {us : List Nat} {ok : (Nat → Th) → Prop} {g : Gf}
theorem li_sample {p pos : Pos} {k : Nat} (d : Dd X.K X.mg "sample_ladder" sSample []) (G : FnOk X.prog X.w X.K X.mg X.base CX0 k d.f d.fd [] (spSample X.K C)) (hr : Room k X.A) (hg : Gl X "sample_ladder") : PE X (.Call (.Name "sample_ladder" p) [] [] pos) (tLit X.K C a [] (fun _ => True) fun _ => ladS) :=
  PE.weak (pe_call0 (E := fun _ _ _ => False) G hr hg d.g d.F.kp d.b .nil pass0) fun σ H Q ⟨ρ, _, o, q⟩ => ⟨rfl, fun p H' s h => q _ _ s (.lad (LadAt.hid (o.1.same s) h) gS)⟩
/-- Ladder(units, decimals, rounding), units as the slots make them -/
theorem li_ladder {e1 e2 e3 : Expr} {p pos : Pos} {u0 : List (Str × Int)} {d0 : Nat} {s0 : Str} (L : LadC X.K X.mg) (LD : LadD X.K L.f L.fd) (GI : FnOk X.prog X.w X.K X.mg X.base CX0 5 L.f L.fd ["self", "units", "decimals", "rounding", "carry", "least"] (spLInit X.K L.C)) (hr : Room 6 X.A) (hg : Gl X "Ladder")
    (h1 : PE X e1 (tLit X.K L.C a us ok g)) (h2 : PE X e2 (tC (.int (d0 : Int)))) (h3 : PE X e3 (tC (.str s0))) (g0 : Good u0 d0 s0 1)
    (he1 : starEach (e1 :: [e2, e3]) X.env = (false, eval e1 X.env) :: starEach [e2, e3] X.env := by rfl) (he2 : starEach (e2 :: [e3]) X.env = (false, eval e2 X.env) :: starEach [e3] X.env := by rfl) (he3 : starEach (e3 :: []) X.env = (false, eval e3 X.env) :: starEach [] X.env := by rfl) (hpl : (backTo pos (starEach [e2, e3] X.env)).any (·.1) = false := by rfl) :
    PE X (.Call (.Name "Ladder" p) [e1, e2, e3] [] pos) (tLit X.K L.C a us (fun ρ => ok ρ ∧ g ρ = .tup (u0.map unitT)) fun _ => .lad u0 d0 s0 true 1) := by
  obtain ⟨ds, KV, KZ⟩ := kz_linitA LD
  refine PE.weak (pe_make L.M GI hr hg L.g KZ KV pass0 (pa_cons h1 (pa_cons h2 (pa_cons h3 pa_nil he3) he2) he1) (by decide) he1 hpl) fun σ H Q ⟨ρ, ⟨ho, hu⟩, o, q⟩ => ⟨ρ, ho, o, fun v H1 s1 t1 => ?_⟩
  rw [hu] at t1
  obtain ⟨ua, rfl, hU⟩ := ta_UA t1
  have hU1 : UA X.K H1 ua u0 := hU.same (hid_same a H1)
  exact made_ofA (us := u0) (d := d0) (s := s0) (c := true) (l := 1) (fun _ => rfl) hU1 g0 fun p H' sm hL => q _ _ (s1.trans sm) (.lad (LadAt.hid ((o.1.same s1).same sm) hL) g0)
end
end My

namespace My
open PySem PySem.Spec PyProof.Rows L2
/-! ### the classes of errors of the fragment -/
structure ErrS (K : PySem.W.Frag) (mg : Str → Option Value) (nm fd ql : Str) (ini : Stmt) (CI : Addr) where
  T : EX.Err K mg nm fd ql ini
  E : ExcC K T.C
  iE : PySem.W.kitOne K (.ref T.C) (.ref CI) = some true
  vE : PySem.W.kitOne K (.ref T.C) (.type "ValueError") = some true
  xE : PySem.W.exmOne K (.ref T.C) (.ref CI) = some true
def ErrS.toT {K : PySem.W.Frag} {mg : Str → Option Value} {nm fd ql : Str} {ini : Stmt} {CI : Addr} (S : ErrS K mg nm fd ql ini CI) : CO.ErrT K mg CI nm fd := ⟨S.T.C, S.T.g, S.T.X, S.T.no, S.E, S.iE, S.vE⟩
def mkES {K : PySem.W.Frag} {mg : Str → Option Value} {h : Heap} {nm fd ql : Str} {ini : Stmt} {C f CI : Addr} {cn q : Str} {N : Addr} {bs bm : List Value} {sn : List Str} {sub : List Value} {ab : Bool} {col : Option Bool} {dd : Option Addr} {m0 m1 m2 m3 m5 : Option Value} {oc : Value} {od an : Option Addr} {sl : Array (Option Value)} {kV dc pm cd ct : Value}
    (X : K.In h) (G : h.Ns mainGlobals mg) (hb : ∀ (kV doc pm : Value) (an : Option Addr) (cdv ct : Value) (us : List Value), us.length = 2 → bindArgs (PySem.W.fnOf "__init__" ql (defArgs ini) (defBody ini) (defScope ini) .none kV doc pm an cdv ct) ⟨us, []⟩ = pure ((["self", fd] : List Str).zip us))
    (aC : PySem.W.nsIn K mainGlobals nm = some (some (.ref C))) (xL : K.lookup C = some (excClassObj cn q C N bs bm true sn sub ab col dd m0 m1 m2 m3 m5 "ValueError.__new__")) (xV : PySem.HandSPX.refsVE bm = true)
    (sa : PySem.W.findIn K (.ref C) "__setattr__" = some (some (.builtin "object.__setattr__"))) (exC : PySem.W.subIn K (.ref C) (.type "BaseException") = some true) (tyC : PySem.W.typeIn K (.ref C) = some (.type "type")) (kC : PySem.W.keepIn K (.ref C) = true)
    (ga : PySem.W.findIn K (.ref C) "__getattribute__" = some (some (.builtin "BaseException.__getattribute__"))) (gg : PySem.W.findIn K (.ref C) "__getattr__" = some none) (hd : PySem.W.hasDictIn K C = true) (iC : PySem.W.findIn K (.ref C) "__init__" = some (some (.ref f))) (tI : PySem.W.typeIn K (.ref f) = some (.type "function"))
    (no : PySem.W.findIn K (.ref C) fd = some none) (l : K.lookup f = some ⟨oc, od, .func (PySem.W.fnOf "__init__" ql (defArgs ini) (defBody ini) (defScope ini) .none kV dc pm an cd ct), sl⟩) (c : PySem.W.codeIn K cd ql = true) (k : PySem.W.keepIn K (.ref f) = true)
    (ha : PySem.W.findIn K (.ref C) "__class__" = some (some (.builtin "object.__class__"))) (hn : PySem.W.specialIn K (.builtin "object.__class__") "__get__" = some (some (.builtin "getset_descriptor.__get__"))) (ht : PySem.W.takesIn K (.builtin "object.__class__") = some true) (hm : PySem.W.mroIn K C (.type "object") = some true)
    (iE : PySem.W.kitOne K (.ref C) (.ref CI) = some true) (vE : PySem.W.kitOne K (.ref C) (.type "ValueError") = some true) (xE : PySem.W.exmOne K (.ref C) (.ref CI) = some true) : ErrS K mg nm fd ql ini CI :=
  ⟨{ C := C, f := f, fdd := _, g := PySem.W.mg_of X G aC, T := ⟨⟨cn, q, N, bs, bm, sn, sub, ab, col, dd, m0, m1, m2, m3, m5, xL, xV⟩, sa, exC, tyC, kC⟩, X := ⟨ga, gg, exC, hd⟩, iC := iC, tI := tI, no := no, F := fun_mk l c k,
      b := (fun_mk l c k).binds hb, kp := k }, ⟨ga, gg, exC, hd, ha, hn, ht, hm⟩, iE, vE, xE⟩
theorem mkKO {K : PySem.W.Frag} {C : Addr} (a1 : PySem.W.kitOne K (.ref C) (.type "int") = some false) (a2 : PySem.W.kitOne K (.ref C) (.type "bool") = some false) (a3 : PySem.W.kitOne K (.ref C) (.type "str") = some false) (a4 : PySem.W.kitOne K (.ref C) (.type "tuple") = some false)
    (b1 : PySem.W.kitOne K (.type "NoneType") (.ref C) = some false) (b2 : PySem.W.kitOne K (.type "bool") (.ref C) = some false) (b3 : PySem.W.kitOne K (.type "int") (.ref C) = some false) (b4 : PySem.W.kitOne K (.type "str") (.ref C) = some false) (b5 : PySem.W.kitOne K (.type "list") (.ref C) = some false) (b6 : PySem.W.kitOne K (.type "tuple") (.ref C) = some false) (b7 : PySem.W.kitOne K (.type "dict") (.ref C) = some false) : KitO K C := by
  refine ⟨fun n hn => ?_, fun n hn => ?_⟩
  · simp only [List.mem_cons, List.not_mem_nil, or_false] at hn
    rcases hn with rfl | rfl | rfl | rfl <;> assumption
  · simp only [List.mem_cons, List.not_mem_nil, or_false] at hn
    rcases hn with rfl | rfl | rfl | rfl | rfl | rfl | rfl <;> assumption
theorem tabs_start {T : Addr} {M : Hp} (h : M T = some (.tbl #[])) : LamX.Tabs (Tb T) M := fun p hp => by
  rw [List.mem_singleton.mp hp]
  exact LamX.TabS.nil h
end My

namespace My
open PySem PySem.Spec PyProof.Rows L2
/-! ### places or None, as things and as data -/
abbrev optT : Option Nat → Th
  | none => .non
  | some i => .int (i : Int)
theorem optT_v {K : PySem.W.Frag} {C : Addr} {H : Hp} {v : V} {r : Option Nat} (h : Ta K C H v (optT r)) : v = optN r := by
  cases r with
  | none => cases h; rfl
  | some i => cases h; rfl
def Small (r : Option Nat) : Prop := r = none ∨ r = some 0 ∨ r = some 1 ∨ r = some 2
def rowD (nm : Str) (r : Option Nat) : PyData := .list [.str nm, thD (optT r), .bool true]
theorem opt_ta {K : PySem.W.Frag} {C : Addr} {H : Hp} (r : Option Nat) : Ta K C H (optN r) (optT r) := by
  cases r with
  | none => exact .non
  | some i => exact .int _
theorem opt_dat (r : Option Nat) : (optT r).dat = true := by
  cases r with
  | none => simp only [optT, Th.dat]
  | some i => simp only [optT, Th.dat]
abbrev rowT (nm : Str) (r : Option Nat) : Th := .lst [.str nm, optT r, .bl true]
theorem row_dat (nm : Str) (r : Option Nat) : (rowT nm r).dat = true := by
  simp only [rowT, Th.dat, Th.dats, opt_dat, Bool.and_self]
theorem row_thD (nm : Str) (r : Option Nat) : thD (rowT nm r) = rowD nm r := by
  simp only [rowT, rowD, thD, thDs]
end My

namespace My
open PySem PySem.Spec PyProof.Rows L2
/-! ### repr of things of any kind, also {} and own ladders -/
/-- a ladder's own text -/
abbrev LadW := List (Str × Int) → Nat → Str → Str
mutual
def thX (W : LadW) : Th → Str
  | .non => "None"
  | .bl b => if b then "True" else "False"
  | .int i => Str.ofString (toString i)
  | .str s => reprText s
  | .lst xs => listText (thXs W xs)
  | .tup xs => tupleText (thXs W xs)
  | .dic => dictText []
  | .lad us d s _ _ => W us d s
def thXs (W : LadW) : List Th → List Str
  | [] => []
  | x :: r => thX W x :: thXs W r
end
mutual
def Th.ht : Th → Nat
  | .lst xs => Th.hts xs + 1
  | .tup xs => Th.hts xs + 1
  | _ => 0
def Th.hts : List Th → Nat
  | [] => 0
  | x :: r => max x.ht (Th.hts r)
end
mutual
def Th.shw : Th → Bool
  | .int i => decide (i.natAbs.log2 < 1920)
  | .lst xs => Th.shws xs
  | .tup xs => Th.shws xs
  | _ => true
def Th.shws : List Th → Bool
  | [] => true
  | x :: r => x.shw && Th.shws r
end
theorem thXs_len (W : LadW) : ∀ ts : List Th, (thXs W ts).length = ts.length
  | [] => by rw [thXs]; rfl
  | x :: r => by rw [thXs, List.length_cons, List.length_cons, thXs_len W r]
theorem thXs_at (W : LadW) : ∀ {ts : List Th} {i : Nat} {t : Th}, ts[i]? = some t → (thXs W ts)[i]? = some (thX W t)
  | [], i, t, e => by simp at e
  | x :: r, 0, t, e => by
    simp at e
    subst e
    rw [thXs]
    rfl
  | x :: r, i + 1, t, e => by
    rw [thXs]
    simpa using thXs_at W (ts := r) (i := i) (by simpa using e)
theorem hts_mem : ∀ {ts : List Th} {t : Th}, t ∈ ts → t.ht ≤ Th.hts ts
  | x :: r, t, h => by
    rw [Th.hts]
    rcases List.mem_cons.mp h with rfl | h
    · exact Nat.le_max_left _ _
    · exact Nat.le_trans (hts_mem h) (Nat.le_max_right _ _)
theorem shws_mem : ∀ {ts : List Th} {t : Th}, Th.shws ts = true → t ∈ ts → t.shw = true
  | x :: r, t, e, h => by
    rw [Th.shws, Bool.and_eq_true] at e
    rcases List.mem_cons.mp h with rfl | h
    · exact e.1
    · exact shws_mem e.2 h
section
variable {X : Cx} {C : Addr} {pins : List (Addr × Obj)} {σ : L2.St} {H : Hp} {s : Shared}
/-! ### one value tells one thing (its height, at least) -/
theorem seq_lt (I : Inv X pins σ H s) {a : Addr} {xs ys : List V} (h : H a = some (.lst xs)) (h' : SqT X.K H a ys) : False := by
  obtain ⟨_, _, ⟨o, n, e, c, _, _⟩, _⟩ := I.list (SqL.of h)
  obtain ⟨_, _, ⟨o', e', c', _⟩, _⟩ := I.tuple h'
  rw [e] at e'
  cases e'
  rw [c] at c'
  exact absurd (Value.type.inj c') (by decide)
theorem dic_tup (I : Inv X pins σ H s) {a : Addr} {ys : List V} (h : H a = some (.dK [])) (h' : SqT X.K H a ys) : False := by
  obtain ⟨_, _, vs, _, o, es, ep, eo, exd, _⟩ := dk_of I.hok h
  obtain ⟨_, _, ⟨o', e', c', _⟩, _⟩ := I.tuple h'
  rw [eo] at e'
  cases e'
  rw [exd.1] at c'
  exact absurd (Value.type.inj c') (by decide)
theorem ins_tup (I : Inv X pins σ H s) {a dx : Addr} {fs : List (Str × V)} {ys : List V} (h : H a = some (.ins C dx fs)) (h' : SqT X.K H a ys) : False := by
  obtain ⟨mA, O, _⟩ := ins_get I.hok h
  obtain ⟨_, _, ⟨o', e', c', _⟩, _⟩ := I.tuple h'
  have eo := O.obj
  rw [eo] at e'
  cases e'
  cases c'
mutual
theorem ta_ht (I : Inv X pins σ H s) : ∀ (t : Th) (v : V) (t' : Th), Ta X.K C H v t → Ta X.K C H v t' → t.ht = t'.ht
  | .lst ds, _, t', h, h' => by
    cases h with
    | lst e r =>
      cases h' with
      | lst e' r' =>
        rw [e] at e'
        cases e'
        rw [Th.ht, Th.ht, tas_ht I ds _ _ r r']
      | tup e' r' => exact (seq_lt I e e').elim
      | dic e' =>
        rw [e] at e'
        cases e'
      | lad e' g =>
        obtain ⟨_, _, _, _, _, e', _⟩ := e'
        rw [e] at e'
        cases e'
  | .tup ds, _, t', h, h' => by
    cases h with
    | tup e r =>
      cases h' with
      | tup e' r' =>
        have q := I.tuple_inj e e'
        subst q
        rw [Th.ht, Th.ht, tas_ht I ds _ _ r r']
      | lst e' r' => exact (seq_lt I e' e).elim
      | dic e' => exact (dic_tup I e' e).elim
      | lad e' g =>
        obtain ⟨_, _, _, _, _, e', _⟩ := e'
        exact (ins_tup I e' e).elim
  | .non, _, t', h, h' => by
    cases h
    cases h'
    rfl
  | .bl _, _, t', h, h' => by
    cases h
    cases h'
    rfl
  | .int _, _, t', h, h' => by
    cases h
    cases h'
    rfl
  | .str _, _, t', h, h' => by
    cases h
    cases h'
    rfl
  | .dic, _, t', h, h' => by
    cases h with
    | dic e =>
      cases h' with
      | dic e' => rfl
      | lst e' r' =>
        rw [e] at e'
        cases e'
      | tup e' r' => exact (dic_tup I e e').elim
      | lad e' g =>
        obtain ⟨_, _, _, _, _, e', _⟩ := e'
        rw [e] at e'
        cases e'
  | .lad .., _, t', h, h' => by
    cases h with
    | lad e g =>
      obtain ⟨_, _, _, _, _, e, _⟩ := e
      cases h' with
      | dic e' =>
        rw [e] at e'
        cases e'
      | lst e' r' =>
        rw [e] at e'
        cases e'
      | tup e' r' => exact (ins_tup I e e').elim
      | lad e' g => rfl
theorem tas_ht (I : Inv X pins σ H s) : ∀ (ts : List Th) (vs : List V) (ts' : List Th), TaAll X.K C H vs ts → TaAll X.K C H vs ts' → Th.hts ts = Th.hts ts'
  | [], _, _, h, h' => by
    cases h
    cases h'
    rfl
  | t :: ts, _, _, h, h' => by
    cases h with
    | cons a r =>
      cases h' with
      | cons a' r' => rw [Th.hts, Th.hts, ta_ht I t _ _ a a', tas_ht I ts _ _ r r']
end
/-- what is under way is none of those whose height is at most n -/
def Clr (K : PySem.W.Frag) (C : Addr) (H : Hp) (g : List Code) (n : Nat) : Prop := ∀ (b : Addr) (t : Th), Ta K C H (.ref b) t → t.ht ≤ n → Clear g b
theorem Clr.cons (I : Inv X pins σ H s) {g : List Code} {n : Nat} {a : Addr} {t : Th} (ta : Ta X.K C H (.ref a) t) (hn : t.ht ≤ n) {id : String} {rest : List Value} {kw : List (Str × Value)} {m : Nat} (hm : t.ht = m + 1)
    (h : Clr X.K C H g n) : Clr X.K C H (.builtin id ⟨.ref a :: rest, kw⟩ :: g) m := fun b t' tb hb => (h b t' tb (by omega)).cons fun e => by
  subst e
  have := ta_ht I t _ _ ta tb
  omega
/-- repr of such a value, within what is under way -/
def RepT (X : Cx) (C : Addr) (W : LadW) (k : Nat) (H : Hp) (t : Th) : Prop :=
  ∀ (v : V) (u : Value), Ta X.K C H v t → RelV v u → ∀ (n : Nat) (pins : List (Addr × Obj)) (σ : L2.St) (A : Around) (g : List Code) (base : Nat) (s : Shared) (Q : Str → Shared → Prop) (E : Value → Shared → Prop),
    t.ht ≤ n → base + (thX W t).length ≤ sizeLine → A.guards = some g → Clr X.K C H g n → Room (k + n + 1) A → A.frames = some X.stack → Inv X pins σ H s → (∀ s', Inv X pins σ H s' → Q (thX W t) s') → wpAny (model X.prog X.w) A (pyReprUnder base u) Q E s
theorem rep_is {W : LadW} {k : Nat} {t : Th} (h : ∀ v u, Ta X.K C H v t → RelV v u → (thX W t).length ≤ sizeLine → ReprIs X.prog X.w u (thX W t)) : RepT X C W k H t :=
  fun v u ta r n pins σ A g base s Q E hn hz hg hc hr hf I q => h v u ta r (by omega) base hz A E s Q fun tk => q _ (I.tok tk)
/-- what the class's __repr__ promises -/
def spLRepr (K : PySem.W.Frag) (C : Addr) (W : LadW) : Sp := fun vs H Q _ => ∃ (a : Addr) (us : List (Str × Int)) (d : Nat) (s : Str) (c : Bool) (l : Int), vs = [.ref a] ∧ LadAt K C H a us d s c l ∧ Good us d s l ∧ Q (.str (W us d s)) H
structure RepL (X : Cx) (C : Addr) (W : LadW) (k : Nat) where
  f : Addr
  find : PySem.W.findIn X.K (.ref C) "__repr__" = some (some (.ref f))
  isf : PySem.W.isFn X.K (.ref f) = true
  fn : FnR X.prog X.w X.K X.mg X.base CX0 k f (spLRepr X.K C W)
end
theorem under_room {k : Nat} {A : Around} {c : Code} (r : Room (k + 1) A) (hh : (A.under c).handled = A.handled) (hd : (A.under c).depth ≤ A.depth + 1) (hu : (A.under c).units = A.units + 1) : Room k (A.under c) :=
  ⟨hh.trans r.hd, by have := r.dp; omega, by have := r.un; omega⟩
theorem loop_depth {A : Around} {args : Args} : (A.under (.builtin "list.__repr__.loop" args)).depth ≤ A.depth + 1 := by
  first
    | exact Nat.le_refl _
    | exact Nat.le_succ _
    | simp [Around.under, Code.weight, Code.isCreation, Code.isGuard, Code.isCaller, Code.frames, Code.isFrame, guardIds]
theorem loop_frames {A : Around} {args : Args} : (A.under (.builtin "list.__repr__.loop" args)).frames = A.frames := by
  first | rfl | simp [Around.under, Code.envs, Code.isFrame, pushEnvs]
theorem tup_depth {A : Around} {args : Args} : (A.under (.builtin "tuple.__repr__.under" args)).depth ≤ A.depth + 1 := by
  first
    | exact Nat.le_refl _
    | exact Nat.le_succ _
    | simp [Around.under, Code.weight, Code.isCreation, Code.isGuard, Code.isCaller, Code.frames, Code.isFrame, guardIds]
theorem tup_frames {A : Around} {args : Args} : (A.under (.builtin "tuple.__repr__.under" args)).frames = A.frames := by
  first | rfl | simp [Around.under, Code.envs, Code.isFrame, pushEnvs]
theorem tup0_depth {A : Around} {args : Args} : (A.under (.builtin "tuple.__repr__" args)).depth ≤ A.depth + 1 := by
  first
    | exact Nat.le_refl _
    | exact Nat.le_succ _
    | simp [Around.under, Code.weight, Code.isCreation, Code.isGuard, Code.isCaller, Code.frames, Code.isFrame, guardIds]
theorem tup0_frames {A : Around} {args : Args} : (A.under (.builtin "tuple.__repr__" args)).frames = A.frames := by
  first | rfl | simp [Around.under, Code.envs, Code.isFrame, pushEnvs]
theorem bound_by {M : Model} {A : Around} {E : Value → Shared → Prop} {s : Shared} {K : PySem.W.Frag} {x C f : Addr} {ox : Obj} {od : Option Obj} {name : Str} {last : Value → List Value → Sem Value} {Q : Option Value → Shared → Prop}
    (X : K.In s.heap) (I : PySem.W.InstAt s.heap x ox C od) (hs : PySem.W.findIn K (.ref C) name = some (some (.ref f))) (hf : PySem.W.isFn K (.ref f) = true)
    (h : wpAny M A (last (.ref f) [.ref x]) (fun v => Q (some v)) E s) : wpAny M A (callSpecialIfBoundBy? last (.ref x) name) Q E s := by
  simp only [callSpecialIfBoundBy?, bindSpecialIfBound?]
  refine wpAny_holding (wpAny_bind (wpAny_bind (wpAny_bind (I.type.here ((PySem.W.looks_findIn X hs).here ?_)))))
  refine wpAny_bind (wpAny_askSetting (wpAny_ite ?_))
  have fin : wpAny M A (last (.ref f) [.ref x] >>= fun v => pure (some v)) Q E s := wpAny_bind (wpAny_mono h (fun v s' h' => wpAny_pure h') fun _ _ h' => h')
  split
  · exact wpAny_bind ((PySem.W.bind_fn X _ (beq_iff_eq.mp hf)).here (wpAny_pure (by exact fin)))
  · exact wpAny_tryCatch (wpAny_bind ((PySem.W.bind_fn X _ (beq_iff_eq.mp hf)).here (wpAny_pure (by exact fin))))
section
variable {X : Cx} {C : Addr} {H : Hp} {W : LadW} {k : Nat}
theorem rep_non : RepT X C W k H .non := rep_is fun v u ta r hz => by
  cases ta
  cases r
  rw [thX]
  exact ReprIs.none
theorem rep_bl {b : Bool} : RepT X C W k H (.bl b) := rep_is fun v u ta r hz => by
  cases ta
  cases r
  rw [thX]
  exact ReprIs.bool b
theorem rep_int {i : Int} (h : i.natAbs.log2 < 1920) : RepT X C W k H (.int i) := rep_is fun v u ta r hz => by
  cases ta
  obtain ⟨t, rfl⟩ := r
  rw [thX]
  exact ReprIs.int t h
theorem rep_str {x : Str} : RepT X C W k H (.str x) := rep_is fun v u ta r hz => by
  cases ta
  obtain ⟨t, rfl⟩ := r
  rw [thX] at hz ⊢
  exact ReprIs.str x t hz
theorem rep_dic : RepT X C W k H .dic := fun v u ta r n pins σ A g base s Q E hn hz hg hc hr hf I q => by
  cases ta with
  | dic e =>
    rename_i a
    cases r
    obtain ⟨z, hsys, vs, rel, o, es, ep, eo, exd, hd, _, hp, _⟩ := dk_of I.hok e
    have e0 : es.toList = [] := by
      cases rel
      generalize es.toList = L at hp
      cases hp
      rfl
    rw [thX] at hz q
    refine ReprK.dict (as := []) (d := 0) (h₀ := s.heap) (ps := []) eo exd.1 hd hsys (fun h => nomatch h) (by rw [e0]; exact .nil) base hz A g E s Q hg (fun b hb => ?_) (by have := hr.un; omega) (fun _ _ e => e) fun h' tk hk => q _ (I.kept hk)
    have hb : b = a := by simpa using hb
    rw [hb]
    exact hc a .dic (.dic e) (Nat.zero_le _)
theorem rep_lad {us : List (Str × Int)} {d : Nat} {x : Str} {c : Bool} {l : Int} (L : RepL X C W k) : RepT X C W k H (.lad us d x c l) := fun v u ta r n pins σ A g base s Q E hn hz hg hc hr hf I q => by
  cases ta with
  | lad h gd =>
    rename_i a
    cases r
    rw [thX] at hz q
    have h0 := h
    obtain ⟨dx, _, _, _, _, e, _⟩ := h0
    obtain ⟨mA, O, _⟩ := ins_get I.hok e
    obtain ⟨od, J, _⟩ := O.look
    have XI := I.kIn
    refine wpAny_pyReprUnder_ref (by omega) ?_
    unfold pyReprObjUnder pyReprObjBy
    refine wpAny_bind (wpAny_cRoomFor hr.units0 ?_)
    refine wpAny_bind (wpAny_bind (J.type.here ((PySem.W.looks_findIn XI L.find).here ?_)))
    show wpAny _ _ (if (some (Value.ref L.f)).isNone = true then _ else _) _ _ _
    rw [if_neg (by simp)]
    have main : wpAny (model X.prog X.w) A (call (.ref L.f) [.ref a]) (fun v s' => ∃ t, v = .str (W us d x) t ∧ Inv X pins σ H s') E s := by
      have e0 := I.env0
      have e1 : Env0 X.prog X.w X.K X.mg X.base A X.stack s H := ⟨hf, e0.mod, e0.bs, e0.bsz, e0.funs, e0.frf, e0.hok, e0.bare⟩
      refine wpAny_call (codeAny_mono (L.fn A X.stack s H [.ref a] [.ref a] (fun v H' => v = .str (W us d x) ∧ H' = H) (fun _ _ _ => False) (hr.mono (by omega)) e1 (.cons rfl .nil) ⟨a, us, d, x, c, l, rfl, h, gd, rfl, rfl⟩) fun rr s2 hrr => ?_)
      cases rr with
      | error e => exact False.elim hrr
      | ok fl =>
        cases fl with
        | next => exact False.elim hrr
        | brk => exact False.elim hrr
        | cont => exact False.elim hrr
        | ret v =>
          obtain ⟨v', H', os, bare, un, hok, rv', ev, eH⟩ := (show CE X.stack X.prog X.w H _ _ v s2 from hrr)
          subst ev
          subst eH
          obtain ⟨t, rfl⟩ := rv'
          exact ⟨t, rfl, I.call' os un hok bare (fun b y => absurd y List.not_mem_nil)⟩
    refine wpAny_bind (bound_by XI J L.find L.isf ?_)
    show wpAny _ _ (call (.ref L.f) [.ref a]) _ _ s
    refine wpAny_mono main (fun v s' hv => ?_) fun _ _ z => z
    obtain ⟨t, rfl, I'⟩ := hv
    exact wpAny_bind (wpAny_isInstance (T := "str") (b := true) (typeIs_str _ _ _) isSubtype_str_str (wpAny_pure ⟨_, _, rfl, q _ I'⟩))
theorem not_fs {pins : List (Addr × Obj)} {σ : L2.St} {s : Shared} {b : Addr} (I : Inv X pins σ H s) (h : b ∉ frs X.stack) : b ∉ X.fs := by
  rcases I.ok.stk with z | ⟨z, _⟩
  · rw [z] at h
    exact h
  · rw [z] at h
    intro hb
    refine h ?_
    show b ∈ (X.env :: X.outer).filterMap (·.frame)
    rw [List.filterMap_cons]
    split
    · exact hb
    · exact List.mem_cons_of_mem _ hb
theorem pin_rec {pins : List (Addr × Obj)} {σ : L2.St} {s : Shared} {P : Addr} {o : Obj} (I : Inv X pins σ H s) (r : FbM.Rec X pins P) (uP : H P = none) (e : s.heap.get? P = some o) (nc : ∀ v, o.data ≠ .cell v) : Inv X (pins ++ [(P, o)]) σ H s :=
  I.pins_of fun p hp => (List.mem_append.mp hp).elim (fun z => I.pin p (List.mem_append_right _ z)) fun z => by
    obtain rfl := List.mem_singleton.mp z
    exact ⟨e, uP, r.nl, not_fs I r.fr, nc⟩
theorem rep_loop {a P : Addr} {vs : List V} {ds : List Th} {pins : List (Addr × Obj)} {σ : L2.St} {A : Around} {g : List Code} {n base : Nat} {R : Result → Shared → Prop} (hv : H a = some (.lst vs)) (ht : TaAll X.K C H vs ds) (ih : ∀ t ∈ ds, RepT X C W k H t)
    (hg : A.guards = some g) (hc : Clr X.K C H g n) (hn : Th.hts ds + 1 ≤ n) (hr : Room (k + n + 1) A) (hf : A.frames = some X.stack) (hsz : base + (listText (thXs W ds)).length ≤ sizeLine) (rP : FbM.Rec X pins P) (uP : H P = none)
    (hR : ∀ s', Inv X pins σ H s' → ∀ u, R (.ok (.ret (.str (listText (thXs W ds)) u))) s') :
    ∀ (j i : Nat) (s : Shared) (acc : Array Value) (c : Nat) (done : List (Str × Tok)), ds.length - i = j → i ≤ ds.length → Inv X pins σ H s →
    s.heap.get? P = some { cls := .type "list", dict := none, data := .seq acc c, slots := #[] } → acc.toList = strValues done → done.map (·.1) = (thXs W ds).take i →
    codeAny (model X.prog X.w) A (.builtin "list.__repr__.loop" ⟨[.ref a, rawInt i, .ref P, rawInt ((base + piled ((thXs W ds).take i) : Nat) : Int)], []⟩) R s := by
  have hX : (listText (thXs W ds)).length = (textFrom 0 "[" (thXs W ds)).length + 1 := by
    show (textFrom 0 "[" (thXs W ds) ++ "]").length = _
    rw [strLen_append]
    rfl
  have hlen := thXs_len W ds
  have hL := textFrom_len (thXs W ds) 0 "["
  have hsz1 : ds.length ≤ sizeLine := by
    have h1 := hL.1
    rw [if_neg (Nat.lt_irrefl 0)] at h1
    omega
  have hsz2 : ∀ t ∈ thXs W ds, t.length ≤ sizeLine := fun t ht => by
    have h2 := hL.2.1 t ht
    omega
  have hsz3 : (listText (thXs W ds)).length ≤ sizeLine := by omega
  have hp3 := piled_le_listText (thXs W ds)
  have hvl := ht.len
  intro j
  induction j with
  | zero =>
    intro i s acc c done hk hi I hP hacc hdone
    have hin : i = ds.length := by omega
    obtain ⟨its, rel, ⟨oa, na, ha, _, _, hda⟩, _⟩ := I.list (SqL.of hv)
    have hits : its.length = ds.length := by rw [← rel.length, hvl]
    refine codeAny_builtin PySem.F.entry_list_repr_loop ?_
    show wpAny _ _ (Builtin.«list.__repr__.loop» ⟨[.ref a, .int i 0, .ref P, .int ((base + piled ((thXs W ds).take i) : Nat) : Int) 0], []⟩) _ _ s
    rw [repr_loop_tree]
    refine wpAny_bind (wpAny_listItems ha hda ?_)
    have hnone : its.toArray[(i : Int).toNat]? = none := by simp [hin, hits]
    simp only [hnone]
    unfold reprEnd
    refine wpAny_bind (wpAny_listItems hP rfl ?_)
    rw [hacc, repr_fold]
    refine wpAny_bind (wpAny_pure ?_)
    have hall : done.map (·.1) = thXs W ds := by rw [hdone, hin, ← hlen, List.take_length]
    rw [hall]
    refine wpAny_bind (wpAny_mkStr (wpAny_pure ?_) hsz3)
    exact hR _ (I.tok _) _
  | succ j jh =>
    intro i s acc c done hk hi I hP hacc hdone
    have hlt : i < ds.length := by omega
    obtain ⟨its, rel, ⟨oa, na, ha, _, _, hda⟩, _⟩ := I.list (SqL.of hv)
    have hits : its.length = ds.length := by rw [← rel.length, hvl]
    have hvi : vs[i]? = some vs[i] := List.getElem?_eq_getElem (by omega)
    obtain ⟨t, hti, hta⟩ := ht.at hvi
    obtain ⟨u, hui, hru⟩ := rel.get hvi
    have htx := thXs_at W hti
    have hmem := List.mem_of_getElem? hti
    have hp1 := piled_take_succ htx
    have hp2 := piled_take_le (thXs W ds) (i + 1)
    refine codeAny_builtin PySem.F.entry_list_repr_loop ?_
    show wpAny _ _ (Builtin.«list.__repr__.loop» ⟨[.ref a, .int i 0, .ref P, .int ((base + piled ((thXs W ds).take i) : Nat) : Int) 0], []⟩) _ _ s
    rw [repr_loop_tree]
    refine wpAny_bind (wpAny_listItems ha hda ?_)
    have hsome : its.toArray[(i : Int).toNat]? = some u := by simpa using hui
    simp only [hsome]
    rw [Int.toNat_natCast]
    have I1 := pin_rec I rP uP hP (fun v h => by cases h)
    refine wpAny_bind (wpAny_holding (ih t hmem vs[i] u hta hru (Th.hts ds) _ σ _ _ (base + piled ((thXs W ds).take i) + 1) s _ _ (hts_mem hmem) (by omega) (guards_under_guard (isGuard_list_loop _) hg) (Clr.cons I (.lst hv ht) (by rw [Th.ht]; exact hn) (by rw [Th.ht]) hc)
      (under_room (hr.mono (by omega)) rfl loop_depth (units_under_list_loop _ _)) (loop_frames.trans hf) I1 fun s' I2 => ?_))
    have hP2 : s'.heap.get? P = some { cls := .type "list", dict := none, data := .seq acc c, slots := #[] } := (I2.pin (P, _) (List.mem_append_right _ (List.mem_append_right _ (List.mem_singleton.mpr rfl)))).1
    have I3 : Inv X pins σ H s' := I2.unpinned
    refine wpAny_bind (wpAny_mkStr ?_ (hsz2 _ (List.mem_of_getElem? htx)))
    refine wpAny_bind ?_
    show wpAny _ _ (updateSeq P _) _ _ _
    have hasz : acc.size ≤ sizeLine := by
      have e1 : acc.toList.length = acc.size := by simp
      have e2 : (strValues done).length = done.length := by simp [strValues]
      have e3 : done.length = ((thXs W ds).take i).length := by rw [← hdone, List.length_map]
      have e4 : ((thXs W ds).take i).length ≤ i := by rw [List.length_take]; omega
      rw [hacc] at e1
      omega
    refine wpAny_updateSeq hP2 rfl (wpAny_pure ⟨PySem.F.quiet_list_repr_loop _, ?_⟩) hasz
    have e1 : ((i : Int) + 1) = ((i + 1 : Nat) : Int) := by omega
    have e2 : base + piled ((thXs W ds).take i) + ((thX W t).length + 2) = base + piled ((thXs W ds).take (i + 1)) := by omega
    rw [e1, e2]
    exact jh (i + 1) _ (acc.push (.str (thX W t) s'.toks)) _ (done ++ [(thX W t, s'.toks)]) (by omega) hlt (rP.turn (I3.tok (s'.toks + 1)) uP fun b o hb e => (Heap.get?_update_other _ _ (fun h : P = b => hb h.symm)).trans e) (Heap.get?_update_self _ hP2 rfl) (by simp [hacc, strValues]) (by simp [List.take_add_one, htx, hdone])
/-- list.__repr__ itself -/
theorem lst_at {ds : List Th} {a : Addr} {pins : List (Addr × Obj)} {σ : L2.St} {A : Around} {g : List Code} {n base : Nat} {s : Shared} {R : Result → Shared → Prop} (ih : ∀ t ∈ ds, RepT X C W k H t) (ta : Ta X.K C H (.ref a) (.lst ds)) (hn : (Th.lst ds).ht ≤ n)
    (hg : A.guards = some g) (hc : Clr X.K C H g n) (hr : Room (k + n + 1) A) (hf : A.frames = some X.stack) (I : Inv X pins σ H s) (hz : base + (listText (thXs W ds)).length ≤ sizeLine)
    (hR : ∀ s', Inv X pins σ H s' → ∀ u, R (.ok (.ret (.str (listText (thXs W ds)) u))) s') :
    wpAny (model X.prog X.w) A.in1 (Builtin.listReprAt base ⟨[.ref a], []⟩) (fun fin s' => match fin with | .done f => R (.ok f) s' | .again c' => c'.quiet = true ∧ codeAny (model X.prog X.w) A c' R s') (fun e s' => R (.error e) s') s := by
  have hca : Clear g a := hc a _ ta hn
  cases ta with
  | lst hv ht =>
    rename_i vs
    obtain ⟨its, rel, ⟨oa, na, ha, hcl, _, hda⟩, _⟩ := I.list (SqL.of hv)
    rw [Th.ht] at hn
    cases its with
    | nil =>
      have e0 : ds = [] := by
        have e := ht.len
        rw [rel.length] at e
        exact List.eq_nil_of_length_eq_zero e.symm
      subst e0
      rw [thXs, listText_nil] at hR
      exact wpAny_list_repr_empty ha hda (hR _ (I.tok _) _)
    | cons x l =>
      refine wpAny_list_repr_head (A := A.in1) hg (fun v rest kw hm => listSameRef_of_ne (hca _ _ _ _ hm)) ha hda ?_
      refine wpAny_bind (m := newList []) (wpAny_newObj_type ?_)
      refine wpAny_pure ⟨PySem.F.quiet_list_repr_loop _, ?_⟩
      exact rep_loop (P := s.heap.objs.size) hv ht ih hg hc hn hr hf hz (FbM.rec_new I (Nat.le_refl _)) (I.hok.fresh (Nat.le_refl _)) hR
        _ 0 _ #[] _ [] rfl (Nat.zero_le _) (I.kept (t' := s.toks) fun b o e => Heap.get?_push_of_some _ e) (Heap.get?_push_size _ rfl) rfl (by simp)
theorem lst_type {ds : List Th} {a : Addr} {pins : List (Addr × Obj)} {σ : L2.St} {s : Shared} (I : Inv X pins σ H s) (ta : Ta X.K C H (.ref a) (.lst ds)) : s.TypeIs (.ref a) "list" := by
  cases ta with
  | lst hv ht =>
    obtain ⟨its, rel, ⟨oa, na, ha, hcl, _, hda⟩, _⟩ := I.list (SqL.of hv)
    exact ⟨oa, ha, hcl⟩
theorem rep_lst {ds : List Th} (ih : ∀ t ∈ ds, RepT X C W k H t) : RepT X C W k H (.lst ds) := fun v u ta r n pins σ A g base s Q E hn hz hg hc hr hf I q => by
  obtain ⟨a, rfl⟩ : ∃ a, v = .ref a := by
    cases ta
    exact ⟨_, rfl⟩
  cases r
  rw [thX] at hz q
  have hT := lst_type I ta
  exact wpAny_pyReprUnder_ref (by omega) (wpAny_pyReprObjUnder_twin (T := "list") (id := "list.__repr__") (twin := "list.__repr__.under") hT PySem.F.slot_list_repr.toG rfl hr.units0
    (call_twin_plain PySem.F.plain_list_repr_under PySem.F.entry_list_repr_under PySem.F.check_list_repr_under hT PySem.F.slot_list_repr.toG (PySem.F.args_list_repr_1 _) (lst_at ih ta hn hg hc hr hf I hz fun s' I' u => ⟨⟨_, _, rfl⟩, _, _, rfl, q _ I'⟩)))
theorem rep_fold {pins : List (Addr × Obj)} {σ : L2.St} {A : Around} {g : List Code} {n : Nat} {E : Value → Shared → Prop} (hg : A.guards = some g) (hc : Clr X.K C H g n) (hr : Room (k + n + 1) A) (hf : A.frames = some X.stack) :
    ∀ (ds : List Th) (us : List Value) (vs : List V) (acc : Array Str) (m : Nat) (s : Shared) (Q : (Array Str × Nat) → Shared → Prop), Vals vs us → TaAll X.K C H vs ds → (∀ t ∈ ds, RepT X C W k H t) → Th.hts ds ≤ n → m + piled (thXs W ds) ≤ sizeLine → Inv X pins σ H s →
    (∀ s', Inv X pins σ H s' → Q ⟨acc ++ (thXs W ds).toArray, m + piled (thXs W ds)⟩ s') → wpAny (model X.prog X.w) A (forIn us (⟨acc, m⟩ : (Array Str × Nat)) tupBody) Q E s := by
  intro ds
  induction ds with
  | nil =>
    intro us vs acc m s Q rel ht ih hh hm I h
    cases ht
    cases rel
    have h0 := h s I
    rw [thXs] at h0
    simp only [List.forIn_nil]
    exact wpAny_pure (by simpa [piled] using h0)
  | cons d ds jh =>
    intro us vs acc m s Q rel ht ih hh hm I h
    cases ht with
    | cons h1 h2 =>
      cases rel with
      | cons r1 r2 =>
        rw [thXs, piled_cons] at hm
        rw [Th.hts] at hh
        rw [List.forIn_cons]
        refine wpAny_bind (wpAny_bind (ih d (List.mem_cons_self ..) _ _ h1 r1 n pins σ A g (m + 1) s _ _ (Nat.le_trans (Nat.le_max_left _ _) hh) (by omega) hg hc hr hf I fun s' I' => wpAny_pure ?_))
        refine jh _ _ (acc.push (thX W d)) (m + ((thX W d).length + 2)) _ Q r2 h2 (fun t ht => ih t (List.mem_cons_of_mem _ ht)) (Nat.le_trans (Nat.le_max_right _ _) hh) (by omega) I' fun s'' I'' => ?_
        have h1 := h s'' I''
        rw [thXs] at h1
        have e : m + piled (thX W d :: thXs W ds) = m + ((thX W d).length + 2) + piled (thXs W ds) := by rw [piled_cons]; omega
        rw [e] at h1
        simpa using h1
theorem rep_tup {ds : List Th} (ih : ∀ t ∈ ds, RepT X C W k H t) : RepT X C W k H (.tup ds) := fun v u ta r n pins σ A g base s Q E hn hz hg hc hr hf I q => by
  have ta0 := ta
  cases ta with
  | tup hv ht =>
    rename_i a vs
    cases r
    obtain ⟨its, rel, ⟨oa, ha, hcl, na, hda⟩, _⟩ := I.tuple hv
    have hca : Clear g a := hc a _ ta0 hn
    have hm : (Th.tup ds).ht = Th.hts ds + 1 := by rw [Th.ht]
    rw [thX] at hz q
    have hu : A.units < cLine := hr.units0
    have hlen : (thXs W ds).length = its.toArray.size := by
      have e := ht.len
      rw [rel.length] at e
      rw [thXs_len]
      simpa using e.symm
    have hp := piled_le_tupleText (thXs W ds)
    have hsz0 : (tupleText (thXs W ds)).length ≤ sizeLine := by omega
    refine wpAny_pyReprUnder_ref (by omega) (wpAny_pyReprObjUnder_twin (T := "tuple") (id := "tuple.__repr__") (twin := "tuple.__repr__.under") ⟨oa, ha, hcl⟩ PySem.F.slot_tuple_repr rfl hu
      (call_twin_own (PySem.F.quiet_tuple_repr_under _) PySem.F.entry_tuple_repr_under PySem.F.check_tuple_repr_under ⟨oa, ha, hcl⟩ PySem.F.slot_tuple_repr (PySem.F.args_tuple_repr_1 _) ?_))
    rw [tuple_repr_tree, tupleReprUnderWay_eq]
    refine wpOwn_bind (wpOwn_stackTailAny hg (tupGuardF_off _) (tupGuardF_pos _) ?_)
    have hnn : (g.any fun c => tupGuardF (.ref a) (c, default)) = false := by
      rw [List.any_eq_false]
      intro c hcm
      rw [tupGuardF_of_clear hca c hcm]
      exact Bool.false_ne_true
    rw [hnn]
    refine wpOwn_of_wpAny ?_
    show wpAny _ _ (tupleReprRest base (.ref a)) _ _ s
    unfold tupleReprRest Builtin.Tuple.tupleItemsOf
    refine wpAny_bind (wpAny_bind (wpAny_seqItems ha hda (wpAny_pure ?_)))
    rw [← Array.forIn_toList]
    refine wpAny_bind (rep_fold (guards_under_guard (isGuard_tuple_repr_under _) hg) (Clr.cons I ta0 hn hm hc) (under_room (hr.mono (by omega)) rfl tup_depth (units_under_tuple_repr_under _ _)) (tup_frames.trans hf) ds its vs _ _ _ _ rel ht ih (Nat.le_refl _) (by omega) I fun s' I' => ?_)
    refine wpAny_bind (wpAny_mkStr (wpAny_pure ?_) (by simpa [tupleText, hlen] using hsz0))
    have h1 := q _ (I'.tok (s'.toks + 1))
    have h2 : callEnd (fun v s' => (∃ x u, v = .str x u) ∧ ∃ x u, v = .str x u ∧ Q x s') E (.ok (.ret (.str (tupleText (thXs W ds)) s'.toks))) { s' with toks := s'.toks + 1 } := ⟨⟨_, _, rfl⟩, _, _, rfl, h1⟩
    simpa [tupleText, hlen] using h2
mutual
theorem rep_th (L : RepL X C W k) : ∀ t : Th, t.shw = true → RepT X C W k H t
  | .non, _ => rep_non
  | .bl _, _ => rep_bl
  | .int _, h => by
    rw [Th.shw] at h
    exact rep_int (of_decide_eq_true h)
  | .str _, _ => rep_str
  | .lst ds, h => by
    rw [Th.shw] at h
    exact rep_lst (rep_ths L ds h)
  | .tup ds, h => by
    rw [Th.shw] at h
    exact rep_tup (rep_ths L ds h)
  | .dic, _ => rep_dic
  | .lad .., _ => rep_lad L
theorem rep_ths (L : RepL X C W k) : ∀ ts : List Th, Th.shws ts = true → ∀ t ∈ ts, RepT X C W k H t
  | [], _ => nofun
  | x :: r, e => by
    rw [Th.shws, Bool.and_eq_true] at e
    exact List.forall_mem_cons.mpr ⟨rep_th L x e.1, rep_ths L r e.2⟩
end
/-- repr(xs), xs a list of such things, while nothing is being displayed -/
theorem call_reprX {m : Nat} (L : RepL X C W k) (gd : X.A.guards = some []) (hr : Room (k + m + 2) X.A) : CallR X (.builtin "repr") (fun xs M Q => ∃ (a : Addr) (ds : List Th), xs = [.ref a] ∧ Ta X.K C M (.ref a) (.lst ds) ∧ Th.shws ds = true ∧ (Th.lst ds).ht ≤ m ∧ (listText (thXs W ds)).length ≤ sizeLine ∧ Q (.str (listText (thXs W ds))) M) := by
  intro pins s σ M xs us Q I r h
  obtain ⟨a, ds, rfl, ta, h1, h2, h3, q⟩ := h
  obtain ⟨u, rfl, hu1⟩ := vals1 r
  cases hu1
  have hT := lst_type I ta
  have hr1 : Room (k + m + 1) X.A.in1 := hr.in1
  exact call_repr_slot (by have := hr.un; omega) hT PySem.F.slot_list_repr.toG (wpAny_call (codeAny_call_builtin PySem.F.slot_list_repr.plain PySem.F.entry_list_repr (PySem.F.slot_list_repr.check _ _ _ _ _ _ _ _ hT (PySem.F.args_list_repr_1 _)
    (lst_at (base := 0) (R := callEnd _ _) (rep_ths L ds h1) ta h2 gd (fun _ _ _ _ => Clear.nil _) hr1 I.ok.frames I (by omega) fun s' I' u => ⟨_, _, rfl, .str _, M, I', ⟨u, rfl⟩, q⟩))))
end
end My

namespace My
open PySem PySem.Spec PyProof.Rows L2
/-! ### a ladder's own __repr__ -/
abbrev sLRepr : Stmt := inClass (top 34) 3
theorem scLRepr : FnScope ["self"] ["self"] (defScope sLRepr) := ⟨rfl, rfl, rfl, by decide +kernel, rfl, by decide +kernel, by decide +kernel⟩
def ladW : LadW := fun us d s => ((((((Str.empty ++ "Ladder(") ++ Str.ofString (toString (us.length : Int))) ++ " units, ") ++ Str.ofString (toString (d : Int))) ++ " decimals, ") ++ s) ++ ")"
structure RprC (K : PySem.W.Frag) (C : Addr) where
  f : Addr
  fd : FuncData
  find : PySem.W.findIn K (.ref C) "__repr__" = some (some (.ref f))
  isf : PySem.W.isFn K (.ref f) = true
  F : Fun K "__repr__" "Ladder.__repr__" sLRepr f fd
  b : Binds K fd ["self"] []
def mkRpr {K : PySem.W.Frag} {C f : Addr} {oc : Value} {od an : Option Addr} {sl : Array (Option Value)} {kV dc pm cd ct : Value} (hb : ∀ (kV doc pm : Value) (an : Option Addr) (cdv ct : Value) (us : List Value), us.length = 1 → bindArgs (PySem.W.fnOf "__repr__" "Ladder.__repr__" (defArgs sLRepr) (defBody sLRepr) (defScope sLRepr) .none kV doc pm an cdv ct) ⟨us, []⟩ = pure ((["self"] : List Str).zip us))
    (a : PySem.W.findIn K (.ref C) "__repr__" = some (some (.ref f))) (i : PySem.W.isFn K (.ref f) = true)
    (l : K.lookup f = some ⟨oc, od, .func (PySem.W.fnOf "__repr__" "Ladder.__repr__" (defArgs sLRepr) (defBody sLRepr) (defScope sLRepr) .none kV dc pm an cd ct), sl⟩) (c : PySem.W.codeIn K cd "Ladder.__repr__" = true) (k : PySem.W.keepIn K (.ref f) = true) : RprC K C :=
  ⟨f, _, a, i, fun_mk l c k, (fun_mk l c k).binds hb⟩
section
variable {P : Program} {w : World} {K : PySem.W.Frag} {mg : Str → Option Value} {base : Heap}
theorem ok_lrepr (L : LadC K mg) (R : RprC K L.C) (B : Bt mg) : FnOk P w K mg base CX0 1 R.f R.fd ["self"] (spLRepr K L.C ladW) := by
  refine R.F.ok scLRepr (fun vs H Q E h => ?_) (fun cdv A outer s H vs Q E hr h => ?_)
  · obtain ⟨_, _, _, _, _, _, rfl, _⟩ := h
    rfl
  · obtain ⟨a, us, d, x, c, l, rfl, ⟨dx, ua, t, st, th, hp, ⟨ps, hU, hu⟩, _⟩, g, q⟩ := h
    refine ⟨_, pss_one (ps_ret (L2.pe_joined (.cons pe_str (.cons (pe_fmt (pe_callB call_len_seq (by rfl) B.len PySem.boot_len (pa_cons (pe_fld (pv 0) rfl) pa_nil))) (.cons pe_str (.cons (pe_fmt (pe_fld (pv 0) rfl)) (.cons pe_str (.cons (pe_fmt (pe_fld (pv 0) rfl)) (.cons pe_str .nil))))))))), ?_⟩
    have el := UP.len hu
    have hl : us.length ≤ 6 := g.u.hi
    have hd : d ≤ 3 := g.d3
    have hx : x.length ≤ 4 := by
      have h := g.srt
      simp only [sorts, List.mem_cons, List.not_mem_nil, or_false] at h
      rcases h with rfl | rfl | rfl | rfl <;> decide
    have n1 : ((us.length : Int)).natAbs < 10 ^ 40 := Nat.lt_of_le_of_lt (m := 6) (by omega) (by decide)
    have n2 : ((d : Int)).natAbs < 10 ^ 40 := Nat.lt_of_le_of_lt (m := 6) (by omega) (by decide)
    have t1 : (Str.ofString (toString (us.length : Int))).length ≤ 41 := by
      rw [PySem.ofString_length]
      exact int_text_length_le10 (a := (us.length : Int)) (k := 40) (by decide) n1
    have t2 : (Str.ofString (toString (d : Int))).length ≤ 41 := by
      rw [PySem.ofString_length]
      exact int_text_length_le10 (a := (d : Int)) (k := 40) (by decide) n2
    have fit : ∀ {n : Nat}, n ≤ 1000 → n ≤ sizeLine := fun h => Nat.le_trans h (by decide)
    have c1 : ("Ladder(" : Str).length = 7 := rfl
    have c2 : (" units, " : Str).length = 8 := rfl
    have c3 : (" decimals, " : Str).length = 11 := rfl
    have c4 : (")" : Str).length = 1 := rfl
    have c0 : Str.empty.length = 0 := rfl
    have p1 : ((us.length : Int)).natAbs.log2 < 1920 := by
      have p := plain_show (.int (us.length : Int)) (by simp only [plainD]; exact decide_eq_true n1)
      simp only [PyData.showable] at p
      exact of_decide_eq_true p
    have p2 : ((d : Int)).natAbs.log2 < 1920 := by
      have p := plain_show (.int (d : Int)) (by simp only [plainD]; exact decide_eq_true n2)
      simp only [PyData.showable] at p
      exact of_decide_eq_true p
    refine ⟨_, rfl, fit (by simp only [strLen_append, c0, c1]; omega), ?_⟩
    refine ⟨.ref a, rfl, a, L.C, dx, _, _, rfl, hp, L.cl, L.nUnits, fl_units .., ua, _, rfl, .inr hU, .inr ⟨(us.length : Int), by rw [List.length_map, el], p1, ?_⟩⟩
    refine ⟨_, rfl, fit (by simp only [strLen_append, c0, c1]; omega), ?_⟩
    refine ⟨_, rfl, fit (by simp only [strLen_append, c0, c1, c2]; omega), ?_⟩
    refine ⟨.ref a, rfl, a, L.C, dx, _, _, rfl, hp, L.cl, L.nDec, fl_dec .., .inr ⟨(d : Int), rfl, p2, ?_⟩⟩
    refine ⟨_, rfl, fit (by simp only [strLen_append, c0, c1, c2]; omega), ?_⟩
    refine ⟨_, rfl, fit (by simp only [strLen_append, c0, c1, c2, c3]; omega), ?_⟩
    refine ⟨.ref a, rfl, a, L.C, dx, _, _, rfl, hp, L.cl, L.nRnd, fl_rnd .., .inl ⟨x, rfl, fit (by omega), ?_⟩⟩
    refine ⟨_, rfl, fit (by simp only [strLen_append, c0, c1, c2, c3]; omega), ?_⟩
    refine ⟨_, rfl, fit (by simp only [strLen_append, c0, c1, c2, c3, c4]; omega), ?_⟩
    exact q
def repL {X : Cx} (L : LadC X.K X.mg) (R : RprC X.K L.C) (B : Bt X.mg) : RepL X L.C ladW 1 :=
  ⟨R.f, R.find, R.isf, (ok_lrepr (P := X.prog) (w := X.w) (base := X.base) L R B).raw R.b .nil |>.imp fun vs H Q E h => by rw [List.append_nil]; exact h⟩
end
section
variable {X : Cx} {C : Addr} {W : LadW} {k : Nat}
/-- repr(p), p a ladder -/
theorem call_reprL (L : RepL X C W k) (hr : Room (k + 2) X.A) : CallR X (.builtin "repr") (fun xs M Q => ∃ (a : Addr) (us : List (Str × Int)) (d : Nat) (x : Str) (c : Bool) (l : Int), xs = [.ref a] ∧ LadAt X.K C M a us d x c l ∧ Good us d x l ∧ Q (.str (W us d x)) M) := by
  intro pins s σ M xs us' Q I r h
  obtain ⟨a, us, d, x, c, l, rfl, hL, gd, q⟩ := h
  obtain ⟨u, rfl, hu1⟩ := vals1 r
  cases hu1
  have hr1 : Room (k + 1) X.A.in1 := hr.in1
  obtain ⟨dx, _, _, _, _, e, _⟩ := id hL
  obtain ⟨mA, O, _⟩ := ins_get I.hok e
  obtain ⟨od, J, _⟩ := O.look
  obtain ⟨m, F⟩ := I.fr
  refine PySem.W.repr_K hr1.units0 F I.mod.kin J L.find L.isf ?_
  have e0 := I.env0
  have e1 : Env0 X.prog X.w X.K X.mg X.base X.A.in1 X.stack s M := e0.in1
  refine wpAny_call (codeAny_mono (L.fn X.A.in1 X.stack s M [.ref a] [.ref a] (fun v H' => v = .str (W us d x) ∧ H' = M) (fun _ _ _ => False) (hr1.mono (by omega)) e1 (.cons rfl .nil) ⟨a, us, d, x, c, l, rfl, hL, gd, rfl, rfl⟩) fun rr s2 hrr => ?_)
  cases rr with
  | error e => exact False.elim hrr
  | ok fl =>
    cases fl with
    | next => exact False.elim hrr
    | brk => exact False.elim hrr
    | cont => exact False.elim hrr
    | ret v =>
      obtain ⟨v', H', os, bare, un, hok, rv', ev, eH⟩ := (show CE X.stack X.prog X.w M _ _ v s2 from hrr)
      subst ev
      subst eH
      obtain ⟨t, rfl⟩ := rv'
      exact ⟨.str (W us d x), _, I.call' os un hok bare (fun b y => absurd y List.not_mem_nil), ⟨t, rfl⟩, q⟩
end
end My

namespace My
open PySem PySem.Spec PyProof.Rows L2
/-! ### rows that came out beside rows that are due; functions that are asked in turn -/
/-- a row of written things: how each is told, what it is -/
def tR : List (TE × V) → TA
  | [] => tNil
  | x :: r => tCons x.1 (tR r)
def tRs : List (List (TE × V)) → TA
  | [] => tNil
  | x :: r => tCons (tLst (tR x)) (tRs r)
theorem tR_ev {σ : L2.St} : ∀ {r : List (TE × V)} {H : Hp} {Q : List V → Hp → Prop}, (∀ x ∈ r, ∀ H Q, Q x.2 H → x.1 σ H Q) → Q (r.map (·.2)) H → tR r σ H Q
  | [], H, Q, _, q => q
  | x :: r, H, Q, h, q => h x (List.mem_cons_self ..) _ _ (tR_ev (fun y hy => h y (List.mem_cons_of_mem _ hy)) q)
theorem tRs_ev {σ : L2.St} : ∀ {rs : List (List (TE × V))} {H : Hp} {Q : List V → Hp → Prop}, (∀ r ∈ rs, r.length ≤ 1000 ∧ ∀ x ∈ r, ∀ H Q, Q x.2 H → x.1 σ H Q) →
    (∀ ps H', Same H H' → (∀ p ∈ ps, H p = none) → PySem.Paired (fun (p : Addr) (r : List V) => H' p = some (.lst r)) ps (rs.map fun r => r.map (·.2)) → Q (ps.map V.ref) H') → tRs rs σ H Q
  | [], H, Q, _, q => q [] H (Same.refl _) (fun _ h => nomatch h) .nil
  | r :: rs, H, Q, h, q => by
    obtain ⟨h1, h2⟩ := h r (List.mem_cons_self ..)
    refine tR_ev (Q := fun xs H1 => xs.length ≤ sizeLine ∧ ∀ p, H1 p = none → tRs rs σ (upd H1 p (.lst xs)) fun ys H2 => Q (.ref p :: ys) H2) h2 ⟨by rw [List.length_map]; exact Nat.le_trans h1 (by decide), fun p np => ?_⟩
    refine tRs_ev (fun r hr => h r (List.mem_cons_of_mem _ hr)) fun ps H2 s2 n2 e2 => ?_
    have sp := same_upd np (o := .lst (r.map (·.2)))
    refine q (p :: ps) H2 (sp.trans s2) (fun b hb => ?_) (.cons (s2 _ _ upd_same) e2)
    rcases List.mem_cons.mp hb with rfl | hb
    · exact np
    · exact sp.free (n2 b hb)
theorem paired_app {α β : Type} {R : α → β → Prop} : ∀ {xs us : List α} {ys vs : List β}, PySem.Paired R xs ys → PySem.Paired R us vs → PySem.Paired R (xs ++ us) (ys ++ vs)
  | _, _, _, _, .nil, h => h
  | _, _, _, _, .cons x r, h => .cons x (paired_app r h)
theorem paired_ne {L : Addr} {β : Type} {R : Addr → β → Prop} : ∀ {qs : List Addr} {zs : List β}, PySem.Paired R qs zs → (∀ p ∈ qs, p ≠ L) → PySem.Paired (fun p r => p ≠ L ∧ R p r) qs zs
  | _, _, .nil, _ => .nil
  | _, _, .cons x r, h => .cons ⟨h _ (List.mem_cons_self ..), x⟩ (paired_ne r fun p hp => h p (List.mem_cons_of_mem _ hp))
structure J4 (K : PySem.W.Frag) (C a T : Addr) (n i j : Nat) (H0 H1 : Hp) (env : LEnv) (L D : Addr) (rs ds : List (List V)) (σ : L2.St) (H : Hp) : Prop where
  j1 : Jx K C a T n H0 env σ H1
  x : LamX.ExtN H1 H
  t : LamX.Tabs (Tb T) H
  l : σ[i]? = some (some (.ref L))
  d : σ[j]? = some (some (.ref D))
  nL : ∀ o, H1 L = some o → ∃ ps, o = .tbl ps
  nD : ∀ o, H1 D = some o → ∃ ps, o = .tbl ps
  ne : D ≠ L
  r : ∃ ps : List Addr, H L = some (.lst (ps.map V.ref)) ∧ PySem.Paired (fun p r => (p ≠ L ∧ p ≠ D) ∧ H p = some (.lst r)) ps rs
  due : ∃ ps : List Addr, H D = some (.lst (ps.map V.ref)) ∧ PySem.Paired (fun p r => (p ≠ L ∧ p ≠ D) ∧ H p = some (.lst r)) ps ds
/-- all lists but L and D stay -/
def KL (L D : Addr) (H H' : Hp) : Prop := ∀ b xs, b ≠ L → b ≠ D → H b = some (.lst xs) → H' b = some (.lst xs)
theorem KL.refl (L D : Addr) (H : Hp) : KL L D H H := fun _ _ _ _ h => h
theorem KL.trans {L D : Addr} {H H1 H2 : Hp} (x : KL L D H H1) (y : KL L D H1 H2) : KL L D H H2 := fun b xs n m h => y b xs n m (x b xs n m h)
theorem KL.ext {L D : Addr} {H H' : Hp} (x : LamX.ExtN H H') : KL L D H H' := fun b xs _ _ h => x _ _ h (fun _ z => by cases z)
theorem KL.same {L D : Addr} {H H' : Hp} (x : Same H H') : KL L D H H' := fun b xs _ _ h => x _ _ h
theorem KL.updL {L D : Addr} {H : Hp} {o : HO} : KL L D H (upd H L o) := fun b xs n _ h => by
  rw [upd_ne n]
  exact h
theorem KL.updD {L D : Addr} {H : Hp} {o : HO} : KL L D H (upd H D o) := fun b xs _ n h => by
  rw [upd_ne n]
  exact h
theorem no_tbl {H1 H : Hp} {p : Addr} (x : LamX.ExtN H1 H) (np : H p = none) : ∀ o, H1 p = some o → ∃ ps, o = .tbl ps := fun o e => by
  refine Classical.byContradiction fun hz => ?_
  have := x _ _ e (fun ps z => hz ⟨ps, z⟩)
  rw [np] at this
  cases this
theorem ext_upd {H1 H : Hp} {p : Addr} {o : HO} (x : LamX.ExtN H1 H) (n : ∀ o, H1 p = some o → ∃ ps, o = .tbl ps) : LamX.ExtN H1 (upd H p o) := fun b ob e t => by
  have nb : b ≠ p := fun z => by
    rw [z] at e
    obtain ⟨q, hq⟩ := n ob e
    exact t q hq
  rw [upd_ne nb]
  exact x _ _ e t
section
variable {K : PySem.W.Frag} {C a T L Dd : Addr} {n i j : Nat} {H0 H1 : Hp} {env env' : LEnv} {rs ds : List (List V)} {σ : L2.St} {H H' : Hp} {D : Ends} {cs : List (Addr × Str × Str)} {t : XK → TE}
theorem J4.jx (h : J4 K C a T n i j H0 H1 env L Dd rs ds σ H) : Jx K C a T n H0 env σ H := h.j1.ext h.x h.t
theorem J4.ext (h : J4 K C a T n i j H0 H1 env L Dd rs ds σ H) (x : LamX.ExtN H H') (t : LamX.Tabs (Tb T) H') : J4 K C a T n i j H0 H1 env L Dd rs ds σ H' := by
  obtain ⟨ps, h1, h2⟩ := h.r
  obtain ⟨qs, h3, h4⟩ := h.due
  exact ⟨h.j1, h.x.trans x, t, h.l, h.d, h.nL, h.nD, h.ne, ⟨ps, x _ _ h1 (fun _ z => by cases z), paired_imp (fun _ _ ⟨a, b⟩ => ⟨a, x _ _ b (fun _ z => by cases z)⟩) h2⟩, ⟨qs, x _ _ h3 (fun _ z => by cases z), paired_imp (fun _ _ ⟨a, b⟩ => ⟨a, x _ _ b (fun _ z => by cases z)⟩) h4⟩⟩
theorem J4.setV (h : J4 K C a T n i j H0 H1 env L Dd rs ds σ H) {m : Nat} {v : V} (hm : 0 < m) (sub : Sub m env' env) (ni : m ≠ i) (nj : m ≠ j) : J4 K C a T n i j H0 H1 env' L Dd rs ds (σ.set m (some v)) H :=
  ⟨h.j1.setV hm sub, h.x, h.t, by rw [List.getElem?_set_ne ni]; exact h.l, by rw [List.getElem?_set_ne nj]; exact h.d, h.nL, h.nD, h.ne, h.r, h.due⟩
/-- both lists are new -/
theorem J4.start {L Dd : Addr} (h : Jx K C a T n H0 env σ H) (nL : H L = none) (nD : (upd H L (.lst [])) Dd = none) (hi : 0 < i ∧ i < n) (hj : 0 < j ∧ j < n) (nij : j ≠ i) (s1 : Sub i env env) (s2 : Sub j env env) :
    J4 K C a T n i j H0 H env L Dd [] [] ((σ.set i (some (.ref L))).set j (some (.ref Dd))) (upd (upd H L (.lst [])) Dd (.lst [])) := by
  have sL := same_upd nL (o := .lst [])
  have sD := same_upd nD (o := .lst [])
  have ne : Dd ≠ L := fun z => by
    rw [z, upd_same] at nD
    cases nD
  refine ⟨(h.setV hi.1 s1).setV hj.1 s2, same_extN (sL.trans sD), tabs_same h.t (sL.trans sD), ?_, List.getElem?_set_self (by rw [List.length_set, h.n]; exact hj.2), fun o e => ?_, fun o e => ?_, ne, ⟨[], by rw [upd_ne ne.symm]; exact upd_same, .nil⟩, ⟨[], upd_same, .nil⟩⟩
  · rw [List.getElem?_set_ne nij]
    exact List.getElem?_set_self (by rw [h.n]; exact hi.2)
  · rw [nL] at e
    cases e
  · rw [sL.free nD] at e
    cases e
/-- a row is put behind what came out -/
theorem J4.more {p : Addr} {row : List V} (h : J4 K C a T n i j H0 H1 env L Dd rs ds σ H) (np : H p = none) (hl : rs.length < 1000) :
    ∃ acc, (upd H p (.lst row)) L = some (.lst acc) ∧ acc.length < sizeLine ∧ J4 K C a T n i j H0 H1 env L Dd (rs ++ [row]) ds σ (upd (upd H p (.lst row)) L (.lst (acc ++ [.ref p]))) := by
  have s := same_upd np (o := .lst row)
  have hh := h.ext (same_extN s) (tabs_same h.t s)
  obtain ⟨ps, h1, h2⟩ := hh.r
  obtain ⟨qs, h3, h4⟩ := hh.due
  have npL : p ≠ L := fun z => by
    obtain ⟨_, q, _⟩ := h.r
    rw [z, q] at np
    cases np
  have npD : p ≠ Dd := fun z => by
    obtain ⟨_, q, _⟩ := h.due
    rw [z, q] at np
    cases np
  refine ⟨_, h1, by rw [List.length_map, h2.length]; exact Nat.lt_trans hl (by decide), h.j1, ext_upd hh.x h.nL, tabs_upd hh.t (lst_not h1), h.l, h.d, h.nL, h.nD, h.ne, ⟨ps ++ [p], by rw [upd_same, List.map_append]; rfl, ?_⟩, ⟨qs, by rw [upd_ne h.ne]; exact h3, paired_imp (fun _ _ ⟨a, b⟩ => ⟨a, by rw [upd_ne a.1]; exact b⟩) h4⟩⟩
  refine PySem.Paired.snoc (paired_imp (fun _ _ ⟨a, b⟩ => ⟨a, by rw [upd_ne a.1]; exact b⟩) h2) ⟨⟨npL, npD⟩, ?_⟩
  rw [upd_ne npL]
  exact upd_same
/-- a row is put behind what is due -/
theorem J4.moreD {p : Addr} {row : List V} (h : J4 K C a T n i j H0 H1 env L Dd rs ds σ H) (np : H p = none) (hl : ds.length < 1000) :
    ∃ acc, (upd H p (.lst row)) Dd = some (.lst acc) ∧ acc.length < sizeLine ∧ J4 K C a T n i j H0 H1 env L Dd rs (ds ++ [row]) σ (upd (upd H p (.lst row)) Dd (.lst (acc ++ [.ref p]))) := by
  have s := same_upd np (o := .lst row)
  have hh := h.ext (same_extN s) (tabs_same h.t s)
  obtain ⟨ps, h1, h2⟩ := hh.r
  obtain ⟨qs, h3, h4⟩ := hh.due
  have npL : p ≠ L := fun z => by
    obtain ⟨_, q, _⟩ := h.r
    rw [z, q] at np
    cases np
  have npD : p ≠ Dd := fun z => by
    obtain ⟨_, q, _⟩ := h.due
    rw [z, q] at np
    cases np
  refine ⟨_, h3, by rw [List.length_map, h4.length]; exact Nat.lt_trans hl (by decide), h.j1, ext_upd hh.x h.nD, tabs_upd hh.t (lst_not h3), h.l, h.d, h.nL, h.nD, h.ne, ⟨ps, by rw [upd_ne h.ne.symm]; exact h1, paired_imp (fun _ _ ⟨a, b⟩ => ⟨a, by rw [upd_ne a.2]; exact b⟩) h2⟩, ⟨qs ++ [p], by rw [upd_same, List.map_append]; rfl, ?_⟩⟩
  refine PySem.Paired.snoc (paired_imp (fun _ _ ⟨a, b⟩ => ⟨a, by rw [upd_ne a.2]; exact b⟩) h4) ⟨⟨npL, npD⟩, ?_⟩
  rw [upd_ne npD]
  exact upd_same
theorem st_more4 {CE : Addr} {nm fd : Str} {v : V} (h : J4 K C a T n i j H0 H1 env L Dd rs ds σ H) (hl : rs.length < 1000) (mem : (CE, nm, fd) ∈ cs)
    (call : ∀ H2 (E : XK) (Q : VK), LamX.ExtN H H2 → Jx K C a T n H0 env σ H2 → (∀ dd H3, Same H2 H3 → H3 dd = some (.xd [(fd, v)]) → E (.ref CE) (some dd) H3) → t E σ H2 Q)
    (k : ∀ H', KL L Dd H H' → J4 K C a T n i j H0 H1 env L Dd (rs ++ [[.str nm, v, .bl true]]) ds σ H' → D.nx σ H') : tDrop (tBM K "list" rAppend (tVar i) (tCons (LamX.tLam (Tb T) (CO.TCame K cs) t) tNil)) D σ H := by
  obtain ⟨ps, hL, _⟩ := h.r
  refine ⟨_, h.l, .inl ⟨rfl, _, SqL.of hL⟩, h.jx.t, fun H2 x t2 => ?_⟩
  refine call H2 _ _ x (h.jx.ext x t2) fun dd H3 s3 hv => ⟨CE, nm, fd, v, dd, mem, rfl, rfl, hv, fun p np => ?_⟩
  obtain ⟨acc, a1, a2, a3⟩ := (h.ext (x.trans (same_extN s3)) (tabs_same t2 s3)).more (row := [.str nm, v, .bl true]) np hl
  exact ⟨L, acc, _, rfl, rfl, a1, a2, k _ ((((KL.ext x).trans (.same s3)).trans (.same (same_upd np))).trans .updL) a3⟩
/-- what is given, not raised -/
theorem st_moreG4 {v : V} (h : J4 K C a T n i j H0 H1 env L Dd rs ds σ H) (hl : rs.length < 1000)
    (call : ∀ H2 (E : XK) (Q : VK), LamX.ExtN H H2 → Jx K C a T n H0 env σ H2 → (∀ H3, Same H2 H3 → Q v H3) → t E σ H2 Q)
    (k : ∀ H', KL L Dd H H' → J4 K C a T n i j H0 H1 env L Dd (rs ++ [[.str "given", v]]) ds σ H' → D.nx σ H') : tDrop (tBM K "list" rAppend (tVar i) (tCons (LamX.tLam (Tb T) (CO.TCame K cs) t) tNil)) D σ H := by
  obtain ⟨ps, hL, _⟩ := h.r
  refine ⟨_, h.l, .inl ⟨rfl, _, SqL.of hL⟩, h.jx.t, fun H2 x t2 => ?_⟩
  refine call H2 _ _ x (h.jx.ext x t2) fun H3 s3 p np => ?_
  obtain ⟨acc, a1, a2, a3⟩ := (h.ext (x.trans (same_extN s3)) (tabs_same t2 s3)).more (row := [.str "given", v]) np hl
  exact ⟨L, acc, _, rfl, rfl, a1, a2, k _ ((((KL.ext x).trans (.same s3)).trans (.same (same_upd np))).trans .updL) a3⟩
/-- due.append([..]) -/
theorem st_dueA {w : List (TE × V)} (h : J4 K C a T n i j H0 H1 env L Dd rs ds σ H) (hw : w.length ≤ 1000 ∧ ∀ x ∈ w, ∀ H Q, Q x.2 H → x.1 σ H Q) (hl : ds.length < 1000)
    (k : ∀ H', KL L Dd H H' → J4 K C a T n i j H0 H1 env L Dd rs (ds ++ [w.map (·.2)]) σ H' → D.nx σ H') : tDrop (tBM K "list" rAppend (tVar j) (tCons (tLst (tR w)) tNil)) D σ H := by
  obtain ⟨ps, hD, _⟩ := h.due
  refine ⟨_, h.d, .inl ⟨rfl, _, SqL.of hD⟩, tR_ev (Q := fun xs H1 => xs.length ≤ sizeLine ∧ ∀ p, H1 p = none → tNil σ (upd H1 p (.lst xs)) fun ys H2 => rAppend (.ref Dd) (.ref p :: ys) H2 (fun _ => D.nx σ)) hw.2 ⟨by rw [List.length_map]; exact Nat.le_trans hw.1 (by decide), fun p np => ?_⟩⟩
  obtain ⟨acc, a1, a2, a3⟩ := h.moreD (row := w.map (·.2)) np hl
  exact ⟨Dd, acc, _, rfl, rfl, a1, a2, k _ ((KL.same (same_upd np)).trans .updD) a3⟩
/-- due = due + [[..], ..] -/
theorem st_due4 {ws : List (List (TE × V))} (h : J4 K C a T n i j H0 H1 env L Dd rs ds σ H) (hw : ∀ r ∈ ws, r.length ≤ 1000 ∧ ∀ x ∈ r, ∀ H Q, Q x.2 H → x.1 σ H Q) (hl : ds.length + ws.length ≤ 1000) (hj : 0 < j ∧ j < n) (nij : j ≠ i) (sub : Sub j env env)
    (k : ∀ G H', H G = none → Same H H' → J4 K C a T n i j H0 H1 env L G rs (ds ++ ws.map fun r => r.map (·.2)) (σ.set j (some (.ref G))) H' → D.nx (σ.set j (some (.ref G))) H') : tAsg (tOp rCat (tVar j) (tLst (tRs ws))) (gName j) D σ H := by
  obtain ⟨ps, e2, e4⟩ := h.due
  obtain ⟨ls, l2, l4⟩ := h.r
  refine ⟨_, h.d, tRs_ev hw fun qs H2 s2 n2 q2 => ?_⟩
  have lq : qs.length = ws.length := by
    have := q2.length
    rw [List.length_map] at this
    exact this
  have lp := e4.length
  refine ⟨by rw [List.length_map]; exact Nat.le_trans (m := 1000) (by omega) (by decide), fun F nF => ?_⟩
  have sF := same_upd nF (o := .lst (qs.map V.ref))
  refine ⟨Dd, F, _, _, rfl, rfl, sF _ _ (s2 _ _ e2), upd_same, by rw [List.length_map, List.length_map]; exact Nat.le_trans (m := 1000) (by omega) (by decide), fun G nG => ?_⟩
  have sG := same_upd nG (o := .lst (ps.map V.ref ++ qs.map V.ref))
  have s := (s2.trans sF).trans sG
  have neL : ∀ {b : Addr} {xs : List V}, (upd H2 F (.lst (qs.map V.ref))) b = some (.lst xs) → b ≠ G := fun {b xs} e z => by
    rw [z, nG] at e
    cases e
  have nGH : H G = none := s2.free (sF.free nG)
  refine k G _ nGH s ⟨h.j1.setV hj.1 sub, h.x.trans (same_extN s), tabs_same h.t s, by rw [List.getElem?_set_ne nij]; exact h.l, List.getElem?_set_self (by rw [h.j1.n]; exact hj.2), h.nL, no_tbl h.x nGH, fun z => ?_, ⟨ls, s _ _ l2, paired_imp (fun _ _ ⟨x, y⟩ => ⟨⟨x.1, neL (sF _ _ (s2 _ _ y))⟩, s _ _ y⟩) l4⟩, ⟨ps ++ qs, by rw [upd_same, List.map_append], ?_⟩⟩
  · rw [z, l2] at nGH
    cases nGH
  · refine paired_app (paired_imp (fun _ _ ⟨x, y⟩ => ⟨⟨x.1, neL (sF _ _ (s2 _ _ y))⟩, s _ _ y⟩) e4) ?_
    have nL : ∀ p ∈ qs, p ≠ L := fun p hp z => by
      have := n2 p hp
      rw [z, l2] at this
      cases this
    exact paired_imp (fun _ _ ⟨x, y⟩ => ⟨⟨x, neL (sF _ _ y)⟩, (sF.trans sG) _ _ y⟩) (paired_ne q2 nL)
/-- what came out and what is due, as things -/
theorem J4.things (h : J4 K C a T n i j H0 H1 env L Dd rs rs σ H) {ts : List (List Th)} (e : PySem.Paired (fun r t => TaAll K C H r t) rs ts) : Ta K C H (.ref L) (.lst (ts.map Th.lst)) ∧ Ta K C H (.ref Dd) (.lst (ts.map Th.lst)) := by
  have go : ∀ {ps : List Addr}, PySem.Paired (fun p r => (p ≠ L ∧ p ≠ Dd) ∧ H p = some (.lst r)) ps rs → TaAll K C H (ps.map V.ref) (ts.map Th.lst) := fun {ps} q => by
    clear h
    induction q generalizing ts with
    | nil => cases e; exact .nil
    | cons x r ih =>
      cases e with
      | cons e1 e2 => exact .cons (.lst x.2 e1) (ih e2)
  obtain ⟨ps, h1, h2⟩ := h.r
  obtain ⟨qs, h3, h4⟩ := h.due
  exact ⟨.lst h1 (go h2), .lst h3 (go h4)⟩
end
/-! ### a call of the def that a slot holds, which may raise -/
structure HeldX (P : Program) (w : World) (K : PySem.W.Frag) (mg : Str → Option Value) (base : Heap) (CX : CXT) (k : Nat) (ks : List Str) (gV : List V → List V → List V) (f : Addr) (sp : Sp) : Prop where
  ex : ∃ (fd : FuncData) (ps : List Str) (g : List Value → List Value → List Value), FnOk P w K mg base CX k f fd ps sp ∧ PySem.W.keepIn K (.ref f) = true ∧ KBn K fd ps 0 ks g gV
def tCallS (i : Nat) (S : Addr → Sp → Prop) (E : XK) (t : TA) : TE := fun σ H Q => ∃ f sp, σ[i]? = some (some (.ref f)) ∧ S f sp ∧ t σ H fun vs H1 => sp vs H1 Q E
def tCallSK (i m : Nat) (S : Addr → Sp → Prop) (gV : List V → List V → List V) (E : XK) (tk : TA) : TE := fun σ H Q => ∃ f sp, σ[i]? = some (some (.ref f)) ∧ S f sp ∧ tk σ H fun zs H1 => zs.length = m ∧ sp (gV [] zs) H1 Q E
section
variable {X : Cx} {CX : CXT} {k i : Nat} {E : XK} {x : Str} {p pos : Pos} {e : Expr} {es : List Expr} {kws : List Keyword} {ks : List Str} {gV : List V → List V → List V} {t tk : TA} {S : Addr → Sp → Prop}
theorem pe_callS (A : ∀ f sp, S f sp → ∃ (fd : FuncData) (ps : List Str), FnOk X.prog X.w X.K X.mg X.base CX k f fd ps sp ∧ PySem.W.keepIn X.K (.ref f) = true ∧ Binds X.K fd ps []) (hr : Room k X.A) (hN : X.N[i]? = some x) (hv : Vis X.env.scope x) (hx : Passes CX X E) (ha : PA X (e :: es) t)
    (hdb : (x == ("__debug__" : Str)) = false := by decide) (hcd : (x == ("__classdict__" : Str)) = false := by decide)
    (he : starEach (e :: es) X.env = (false, eval e X.env) :: starEach es X.env := by rfl) (hpl : (backTo pos (starEach es X.env)).any (·.1) = false := by rfl) : PE X (.Call (.Name x p) (e :: es) [] pos) (tCallS i S E t) := by
  refine ⟨fun pins s σ H Q I h => ?_⟩
  obtain ⟨f, sp, hs, hS, ht⟩ := h
  obtain ⟨fd, ps, F, hk, hb⟩ := A f sp hS
  refine (pe_callL (i := i) (f := f) (sp := sp) (dvs := []) (E := E) F hr hN hv hk hb .nil hx ha hdb hcd he hpl).run pins s σ H Q I ⟨hs, ?_⟩
  have e0 : (fun (vs : List V) (H1 : Hp) => sp (vs ++ []) H1 Q E) = fun vs H1 => sp vs H1 Q E := by
    funext vs H1
    rw [List.append_nil]
  show t σ H (fun vs H1 => sp (vs ++ []) H1 Q E)
  rw [e0]
  exact ht
theorem pe_callSK (A : ∀ f sp, S f sp → HeldX X.prog X.w X.K X.mg X.base CX k ks gV f sp) (hr : Room k X.A) (hN : X.N[i]? = some x) (hv : Vis X.env.scope x) (hx : Passes CX X E) (hkw : PK X kws tk)
    (hall : (backToKw pos (keywordEach kws X.env)).all (·.1.isSome) = true := by rfl) (hks : (backToKw pos (keywordEach kws X.env)).filterMap (·.1) = ks := by rfl)
    (hpl : ((backTo pos (starEach [] X.env)).any (·.1) || (backToKw pos (keywordEach kws X.env)).any (·.1.isNone)) = false := by rfl)
    (hdb : (x == ("__debug__" : Str)) = false := by decide) (hcd : (x == ("__classdict__" : Str)) = false := by decide) : PE X (.Call (.Name x p) [] kws pos) (tCallSK i ks.length S gV E tk) := by
  refine ⟨fun pins s σ H Q I h => ?_⟩
  obtain ⟨f, sp, hs, hS, ht⟩ := h
  obtain ⟨fd, ps, g, F, hk, hb⟩ := (A f sp hS).ex
  refine wpAny_Call_Name_kw (thn ((pe_var (pos := p) hN hv hdb hcd).run pins s σ H (fun v H1 => v = .ref f ∧ H1 = H) I ⟨.ref f, hs, rfl, rfl⟩) fun u s1 ⟨v, H1, I1, r1, q1⟩ => ?_)
  obtain ⟨rfl, rfl⟩ := q1
  cases r1
  refine PySem.W.callWith_KW0 (h₀ := X.base) I.ok.mod.kin hk hall (thn (hkw.run pos pins s1 σ _ _ I1 ht) fun ws s2 ⟨zs, H2, I2, rz, l2, q2⟩ => ⟨I2.kIn, ?_⟩) hpl
  rw [hks]
  exact run_fnN (us := []) (vs := []) F hr hb hx I2 .nil rz rfl l2 q2
end
/-! ### the same rows, several times -/
def rp {α : Type} : Nat → List α → List α
  | 0, _ => []
  | n + 1, l => rp n l ++ l
theorem rp_len {α : Type} (l : List α) : ∀ n, (rp n l).length = n * l.length
  | 0 => by rw [Nat.zero_mul]; rfl
  | n + 1 => by rw [rp, List.length_append, rp_len l n, Nat.succ_mul]
theorem rp_mem {α : Type} {l : List α} {x : α} : ∀ {n}, x ∈ rp n l → x ∈ l
  | 0, h => nomatch h
  | n + 1, h => (List.mem_append.mp h).elim (fun z => rp_mem (n := n) z) id
theorem rp_paired {α β : Type} {R : α → β → Prop} {l : List α} {m : List β} (h : PySem.Paired R l m) : ∀ n, PySem.Paired R (rp n l) (rp n m)
  | 0 => .nil
  | n + 1 => paired_app (rp_paired h n) h
end My

namespace My
open PySem PySem.Spec PyProof.Rows L2
/-! ### what a ladder bears, as written data -/
abbrev unitsTh (us : List (Str × Int)) : Th := .tup (us.map unitT)
abbrev toldTh (us : List (Str × Int)) (d : Nat) (s : Str) (c : Bool) (l : Int) : Th := .tup [unitsTh us, .int (d : Int), .str s, .bl c, .int l]
theorem ua_ta {K : PySem.W.Frag} {C : Addr} {H : Hp} {ua : Addr} {us : List (Str × Int)} (h : UA K H ua us) (hn : ∀ u ∈ us, u.1.length ≤ 1000) : Ta K C H (.ref ua) (unitsTh us) := by
  obtain ⟨ps, h1, h2⟩ := h
  refine .tup h1 ?_
  clear h1
  induction h2 with
  | nil => exact .nil
  | cons x r ih => exact .cons (.tup x (.cons (.str _ (hn _ (List.mem_cons_self ..))) (.cons (.int _) .nil))) (ih fun u hu => hn u (List.mem_cons_of_mem _ hu))
theorem good_names {us : List (Str × Int)} {d : Nat} {s : Str} {l : Int} (g : Good us d s l) : ∀ u ∈ us, u.1.length ≤ 1000 := fun u hu => by
  obtain ⟨i, hi⟩ := List.getElem?_of_mem hu
  have := (g.u.each i u hi).1.1
  omega
theorem good_sort {us : List (Str × Int)} {d : Nat} {s : Str} {l : Int} (g : Good us d s l) : s.length ≤ 1000 := by
  have h := g.srt
  simp only [sorts, List.mem_cons, List.not_mem_nil, or_false] at h
  rcases h with rfl | rfl | rfl | rfl <;> decide
section
variable {X : Cx} {a : Addr} {i : Nat} {us : List (Str × Int)} {d : Nat} {s : Str} {c : Bool} {l : Int} {e : Expr} {p : Pos}
theorem li_told (L : LadC X.K X.mg) (h : PE X e (tVar i)) (hb : attributeBase e "told" X.env (eval e X.env) = eval e X.env := by rfl) : PE X (.Attribute e "told" p) (tLit X.K L.C a [i] (fun ρ => ρ i = .lad us d s c l) fun _ => toldTh us d s c l) :=
  PE.weak (pe_fld h hb) fun σ H Q ⟨ρ, ho, o, q⟩ => by
    obtain ⟨v, e1, t⟩ := o.2 i (List.mem_singleton.mpr rfl)
    rw [ho] at t
    cases t with
    | lad hL g =>
      obtain ⟨dx, ua, t, st, th, hp, hu, ht, _⟩ := hL
      exact ⟨_, e1, _, L.C, dx, _, _, rfl, hid_same a H _ _ hp, L.cl, L.nTold, fl_told .., q _ H (Same.refl _) (.tup ht (.cons (ua_ta hu (good_names g)) (.cons (.int _) (.cons (.str _ (good_sort g)) (.cons (.bl _) (.cons (.int _) .nil))))))⟩
theorem li_units (L : LadC X.K X.mg) (h : PE X e (tVar i)) (hb : attributeBase e "units" X.env (eval e X.env) = eval e X.env := by rfl) : PE X (.Attribute e "units" p) (tLit X.K L.C a [i] (fun ρ => ρ i = .lad us d s c l) fun _ => unitsTh us) :=
  PE.weak (pe_fld h hb) fun σ H Q ⟨ρ, ho, o, q⟩ => by
    obtain ⟨v, e1, t⟩ := o.2 i (List.mem_singleton.mpr rfl)
    rw [ho] at t
    cases t with
    | lad hL g =>
      obtain ⟨dx, ua, t, st, th, hp, hu, ht, _⟩ := hL
      exact ⟨_, e1, _, L.C, dx, _, _, rfl, hid_same a H _ _ hp, L.cl, L.nUnits, fl_units .., q _ H (Same.refl _) (ua_ta hu (good_names g))⟩
theorem li_rounding (L : LadC X.K X.mg) (h : PE X e (tVar i)) (hb : attributeBase e "rounding" X.env (eval e X.env) = eval e X.env := by rfl) : PE X (.Attribute e "rounding" p) (tLit X.K L.C a [i] (fun ρ => ρ i = .lad us d s c l) fun _ => .str s) :=
  PE.weak (pe_fld h hb) fun σ H Q ⟨ρ, ho, o, q⟩ => by
    obtain ⟨v, e1, t⟩ := o.2 i (List.mem_singleton.mpr rfl)
    rw [ho] at t
    cases t with
    | lad hL g =>
      obtain ⟨dx, ua, t, st, th, hp, hu, ht, _⟩ := hL
      exact ⟨_, e1, _, L.C, dx, _, _, rfl, hid_same a H _ _ hp, L.cl, L.nRnd, fl_rnd .., q _ H (Same.refl _) (.str _ (good_sort g))⟩
end
/-! ### rows of things, as texts -/
def ThOk (x : Th) : Prop := x.shw = true ∧ x.ht ≤ 3 ∧ (thX ladW x).length ≤ 200
theorem rowOk {nm : Str} {x : Th} (hn : (reprText nm).length ≤ 100) (h : ThOk x) : (Th.lst [.str nm, x, .bl true]).shw = true ∧ (Th.lst [.str nm, x, .bl true]).ht ≤ 4 ∧ (thX ladW (.lst [.str nm, x, .bl true])).length ≤ 400 := by
  obtain ⟨h1, h2, h3⟩ := h
  refine ⟨?_, ?_, ?_⟩
  · simp only [Th.shw, Th.shws, h1, Bool.and_self]
  · simp only [Th.ht, Th.hts]
    omega
  · have e : thX ladW (.lst [.str nm, x, .bl true]) = listText [reprText nm, thX ladW x, thX ladW (.bl true)] := by
      simp only [thX, thXs]
    rw [e]
    have h := listText_len_le [reprText nm, thX ladW x, thX ladW (.bl true)]
    have hb : (thX ladW (.bl true)).length ≤ 5 := by decide +kernel
    simp only [List.map_cons, List.map_nil, List.sum_cons, List.sum_nil, List.length_cons, List.length_nil] at h
    omega
theorem sum_le : ∀ {ts : List Th}, (∀ t ∈ ts, (thX ladW t).length ≤ 400) → ((thXs ladW ts).map (·.length)).sum ≤ 400 * ts.length
  | [], _ => by rw [thXs]; exact Nat.le_refl _
  | x :: r, h => by
    rw [thXs, List.map_cons, List.sum_cons, List.length_cons]
    have h1 := h x (List.mem_cons_self ..)
    have h2 := sum_le (ts := r) fun t ht => h t (List.mem_cons_of_mem _ ht)
    omega
theorem shws_of : ∀ {ts : List Th}, (∀ t ∈ ts, t.shw = true) → Th.shws ts = true
  | [], _ => by rw [Th.shws]
  | x :: r, h => by
    rw [Th.shws, h x (List.mem_cons_self ..), shws_of fun t ht => h t (List.mem_cons_of_mem _ ht)]
    rfl
theorem hts_of {m : Nat} : ∀ {ts : List Th}, (∀ t ∈ ts, t.ht ≤ m) → Th.hts ts ≤ m
  | [], _ => by rw [Th.hts]; exact Nat.zero_le _
  | x :: r, h => by
    rw [Th.hts]
    exact Nat.max_le.mpr ⟨h x (List.mem_cons_self ..), hts_of fun t ht => h t (List.mem_cons_of_mem _ ht)⟩
theorem rowsOk {ts : List Th} (hl : ts.length ≤ 1000) (h : ∀ t ∈ ts, t.shw = true ∧ t.ht ≤ 4 ∧ (thX ladW t).length ≤ 400) : Th.shws ts = true ∧ (Th.lst ts).ht ≤ 6 ∧ (listText (thXs ladW ts)).length ≤ sizeLine := by
  refine ⟨shws_of fun t ht => (h t ht).1, ?_, Nat.le_trans (m := 500000) ?_ (by decide)⟩
  · rw [Th.ht]
    have := hts_of (m := 4) fun t ht => (h t ht).2.1
    omega
  · have h1 := listText_len_le (thXs ladW ts)
    have h2 := sum_le fun t ht => (h t ht).2.2
    rw [thXs_len] at h1
    omega
end My

namespace My
open PySem PySem.Spec PyProof.Rows L2
/-! ### no ladder, no figure -/
def spCLadX (K : PySem.W.Frag) (C CE : Addr) : Sp := fun vs H _ E => ∃ (v : V) (t : Th), vs = [v] ∧ Ta K C H v t ∧ t.isLad = false ∧ ∀ dd H', Same H H' → H' dd = some (.xd [("value", v)]) → E (.ref CE) (some dd) H'
def spPFigX (K : PySem.W.Frag) (C CE : Addr) : Sp := fun vs H _ E => ∃ (a : Addr) (us : List (Str × Int)) (d : Nat) (s : Str) (c : Bool) (l : Int) (v : V) (t : Th), vs = [.ref a, v] ∧ LadAt K C H a us d s c l ∧ Good us d s l ∧ Ta K C H v t ∧ t.fig us d = none ∧
  ∀ dd H', Same H H' → H' dd = some (.xd [("value", v)]) → E (.ref CE) (some dd) H'
/-- a ladder and a figure: which is refused -/
def FigBad (CL CF : Addr) (v w : V) (tv tw : Th) (CE : Addr) (x : V) : Prop := (tv.isLad = false ∧ CE = CL ∧ x = v) ∨ ∃ us d s c l, tv = .lad us d s c l ∧ tw.fig us d = none ∧ CE = CF ∧ x = w
def spFigX (K : PySem.W.Frag) (C CL CF : Addr) : Sp := fun vs H _ E => ∃ (v w : V) (tv tw : Th) (CE : Addr) (x : V), vs = [v, w] ∧ Ta K C H v tv ∧ Ta K C H w tw ∧ FigBad CL CF v w tv tw CE x ∧ ∀ dd H', Same H H' → H' dd = some (.xd [("value", x)]) → E (.ref CE) (some dd) H'
/-- two ladders: which is refused -/
def TwoBad (v w : V) (tv tw : Th) (x : V) : Prop := (tv.isLad = false ∧ x = v) ∨ (tv.isLad = true ∧ tw.isLad = false ∧ x = w)
def spTwoX (K : PySem.W.Frag) (C CE : Addr) : Sp := fun vs H _ E => ∃ (v w : V) (tv tw : Th) (x : V), vs = [v, w] ∧ Ta K C H v tv ∧ Ta K C H w tw ∧ TwoBad v w tv tw x ∧ ∀ dd H', Same H H' → H' dd = some (.xd [("value", x)]) → E (.ref CE) (some dd) H'
theorem Ta.lad_of {K : PySem.W.Frag} {C : Addr} {H : Hp} {v : V} {t : Th} (h : Ta K C H v t) (e : t.isLad = true) : ∃ p us d s c l, v = .ref p ∧ t = .lad us d s c l ∧ LadAt K C H p us d s c l ∧ Good us d s l := by
  cases h with
  | lad h g => exact ⟨_, _, _, _, _, _, rfl, rfl, h, g⟩
  | _ => cases e
section
variable {P : Program} {w : World} {K : PySem.W.Frag} {mg : Str → Option Value} {base : Heap}
theorem ok_cladX (T : ELad K mg) (d : Dd K mg "check_ladder" sCLad ["ladder"]) (L : LadC K mg) (I : LadI K L.C) (k : KitO K L.C) (B : Bt mg) : FnOk P w K mg base (L2.CX P w) 3 d.f d.fd ["ladder"] (spCLadX K L.C T.C) := by
  have GE : FnOk P w K mg base CX0 1 T.f T.fdd ["self", "value"] (EX.spIni K T.C "value") := ok_elad T
  refine d.F.okX scCLad (fun vs H Q E h => ?_) (fun cdv A outer s H vs Q E hr h => ?_)
  · obtain ⟨_, _, rfl, _⟩ := h
    rfl
  · obtain ⟨v, t, rfl, ht, hb, q⟩ := h
    obtain ⟨Ty, ty1, _, ty3⟩ := ht.ty L I k
    refine ⟨_, pss_one (ps_if (pt_not (pt_val (pe_callB call_isi (by rfl) B.isinstance (by decide +kernel) (pa_cons (pv 0) (pa_cons (pe_glob (v := .ref L.C) (by rfl) L.g rfl) pa_nil))))) (pss_one (EX.rs_err (X := cxOf (L2.CX P w) P w K mg base _ _ _ _ _ A outer s H E) T GE rfl hr (takes_of rfl rfl rfl rfl) (pa_cons (pv 0) pa_nil) rfl (by decide))) pss_nil), ?_⟩
    refine ⟨_, rfl, _, _, _, _, _, rfl, .own L.C, ty1, ty3, _, rfl, iteB (by rw [hb]; rfl) ?_⟩
    exact ⟨_, rfl, _, rfl, fun dd H' hv => q dd H' hv.2.1 hv.2.2⟩
theorem ok_pfigX (T : EFig K mg) (d : Dd K mg "parts_of_figure" sPFig ["ladder", "text"]) (dP : Dd K mg "parts_of" sPartsOf ["ladder", "text"]) (L : LadC K mg) (GP : FnOk P w K mg base CX0 3 dP.f dP.fd ["ladder", "text"] (spPartsT K L.C)) :
    FnOk P w K mg base (L2.CX P w) 4 d.f d.fd ["ladder", "text"] (spPFigX K L.C T.C) := by
  have GE : FnOk P w K mg base CX0 1 T.f T.fdd ["self", "value"] (EX.spIni K T.C "value") := ok_efig T
  refine d.F.okX scPFig (fun vs H Q E h => ?_) (fun cdv A outer s H vs Q E hr h => ?_)
  · obtain ⟨_, _, _, _, _, _, _, _, rfl, _⟩ := h
    rfl
  · obtain ⟨a, us, dn, z, c, l, v, t, rfl, hL, g, ht, hb, q⟩ := h
    have nd := scPFig.nd
    have hr2 : Room 2 _ := hr.mono (by decide)
    refine ⟨_, pss_cons (ps_set (i := 2) nd rfl (.inl rfl) (pe_call GP hr (by rfl) dP.g dP.F.kp dP.b .nil pass0 (pa_cons (pv 0) (pa_cons (pv 1) pa_nil))))
      (pss_cons (ps_if (pt_cmp (pc_isN (pv 2))) (pss_one (EX.rs_err (X := cxOf (L2.CX P w) P w K mg base _ _ _ _ _ A outer s H E) T GE rfl hr2 (takes_of rfl rfl rfl rfl) (pa_cons (pv 1) pa_nil) rfl (by decide))) pss_nil) pss_never), ?_⟩
    refine ⟨_, rfl, _, rfl, a, us, dn, z, c, l, v, t, rfl, hL, g, ht, fun _ H1 s1 => ?_, fun p m e => by rw [hb] at e; cases e⟩
    refine ⟨_, rfl, _, rfl, iteT ⟨_, rfl, _, rfl, fun dd H' hv => q dd H' (s1.trans hv.2.1) hv.2.2⟩⟩
end
end My

namespace My
open PySem PySem.Spec PyProof.Rows L2
def firstBad (p : Th → Bool) : List Th → Nat → Option Nat
  | [], _ => none
  | d :: r, i => if p d = true then firstBad p r (i + 1) else some i
theorem firstBad_at {p : Th → Bool} {ds : List Th} {i : Nat} {t : Th} {r : Option Nat} (hi : ds[i]? = some t) (h : firstBad p (ds.drop i) i = r) : (p t = true ∧ firstBad p (ds.drop (i + 1)) (i + 1) = r) ∨ (p t = false ∧ r = some i) := by
  have hil := (List.getElem?_eq_some_iff.mp hi).1
  have e : ds.drop i = t :: ds.drop (i + 1) := by
    rw [List.drop_eq_getElem_cons hil]
    congr 1
    exact (List.getElem?_eq_some_iff.mp hi).2
  rw [e] at h
  have h : (if p t = true then firstBad p (ds.drop (i + 1)) (i + 1) else some i) = r := h
  cases ep : p t with
  | true =>
    rw [ep, if_pos rfl] at h
    exact .inl ⟨rfl, h⟩
  | false =>
    rw [ep, if_neg Bool.false_ne_true] at h
    exact .inr ⟨rfl, h.symm⟩
theorem firstBad_end {p : Th → Bool} {ds : List Th} {n k : Nat} (hn : ds.length ≤ n) (h : firstBad p (ds.drop n) n = some k) : False := by
  rw [List.drop_of_length_le hn] at h
  cases h
end My

namespace My
open PySem PySem.Spec PyProof.Rows L2
/-! ### texts that are refused -/
def textsBad (us : List (Str × Int)) (d : Nat) : Th → Option (Option Nat)
  | .tup ds => if 12 < ds.length then some none else (firstBad (fun t => (t.fig us d).isSome) ds 0).map some
  | _ => some none
def spCTextsX (K : PySem.W.Frag) (C CE : Addr) : Sp := fun vs H _ E => ∃ (a : Addr) (us : List (Str × Int)) (d : Nat) (s : Str) (c : Bool) (l : Int) (v : V) (t : Th) (r : Option Nat), vs = [.ref a, v] ∧ LadAt K C H a us d s c l ∧ Good us d s l ∧ Ta K C H v t ∧ textsBad us d t = some r ∧
  ∀ dd H', Same H H' → H' dd = some (.xd [("index", optN r)]) → E (.ref CE) (some dd) H'
theorem tas_str {K : PySem.W.Frag} {C : Addr} {H : Hp} {α : Type} (f : α → Str) : ∀ {ks : List α} {vs : List V}, TaAll K C H vs (ks.map fun k => Th.str (f k)) → vs = ks.map fun k => V.str (f k)
  | [], _, h => by
    cases h
    rfl
  | k :: ks, _, h => by
    cases h with
    | cons a r =>
      cases a
      rw [tas_str f r]
      rfl
section
variable {P : Program} {w : World} {K : PySem.W.Frag} {mg : Str → Option Value} {base : Heap}
theorem ok_ctextsX (T : ETexts K mg) (d : Dd K mg "check_texts" sCTexts ["ladder", "texts"]) (dF : Dd K mg "parts_of" sPartsOf ["ladder", "text"]) (L : LadC K mg) (I : LadI K L.C) (k : KitO K L.C) (B : Bt mg) (gR : ∃ t, mg "MOST_ROWS" = some (.int 12 t))
    (GF : FnOk P w K mg base CX0 3 dF.f dF.fd ["ladder", "text"] (spPartsT K L.C)) : FnOk P w K mg base (L2.CX P w) 4 d.f d.fd ["ladder", "texts"] (spCTextsX K L.C T.C) := by
  obtain ⟨t1, g1⟩ := gR
  have GE : FnOk P w K mg base CX0 1 T.f T.fdd ["self", "index"] (EX.spIni K T.C "index") := ok_etexts T
  refine d.F.okX scCTexts (fun vs H Q E h => ?_) (fun cdv A outer s H vs Q E hr h => ?_)
  · obtain ⟨_, _, _, _, _, _, _, _, _, rfl, _⟩ := h
    rfl
  · obtain ⟨a, us, dn, z, c, l, v, t, r, rfl, hL, g, ht, hb, q⟩ := h
    have nd := scCTexts.nd
    have hr2 : Room 2 _ := hr.mono (by decide)
    obtain ⟨Ty, ty1, ty2, _⟩ := ht.ty L I k
    refine ⟨_, pss_cons (ps_if (PW.pt (pw_or (pt_not (pt_val (pe_callB call_isi (by rfl) B.isinstance (by decide +kernel) (pa_cons (pv 1) (pa_cons (pe_bltn (v := .ty "tuple") (by rfl) B.tuple (by decide +kernel) rfl) pa_nil)))))
        (pw_or1 (pt_cmpR op_gt (pe_callB call_len_seq (by rfl) B.len PySem.boot_len (pa_cons (pv 1) pa_nil)) (pe_glob (v := .int 12) (by rfl) g1 ⟨_, rfl⟩) (nomark _))))) (pss_one (EX.rs_err (X := cxOf (L2.CX P w) P w K mg base _ _ _ _ _ A outer s H E) T GE rfl hr2 (takes_of rfl rfl rfl rfl) (pa_cons pe_non pa_nil) rfl (by decide))) pss_nil)
      (pss_one (ps_for (passes_of rfl) rfl (pi_enT (by rfl) B.enumerate (pa_cons (pv 1) pa_nil)) (pg_tup rfl (pgs_cons (pg_name (i := 2) nd rfl (.inl rfl)) (pgs_cons (pg_name (i := 3) nd rfl (.inl rfl)) pgs_nil)))
        (pss_one (ps_if (pt_cmp (pc_isN (pe_call GF hr (by rfl) dF.g dF.F.kp dF.b .nil pass0 (pa_cons (pv 0) (pa_cons (pv 3) pa_nil))))) (pss_one (EX.rs_err (X := cxOf (L2.CX P w) P w K mg base _ _ _ _ _ A outer s H E) T GE rfl hr2 (takes_of rfl rfl rfl rfl) (pa_cons (pv 2) pa_nil) rfl (by decide))) pss_nil)))), ?_⟩
    refine ⟨_, rfl, _, _, _, _, _, rfl, .ty "tuple", ty1, ty2 "tuple" (by simp), _, rfl, ?_⟩
    rcases t.tup_or with ⟨ds, rfl⟩ | ⟨et, _⟩
    rotate_left
    · refine iteB (by rw [et]; rfl) ?_
      have hr0 : r = none := by
        cases t with
        | tup ds => cases et
        | _ => exact (Option.some.inj hb).symm
      subst hr0
      exact ⟨_, rfl, fun dd H' hv => q dd H' hv.2.1 hv.2.2⟩
    · obtain ⟨p, vs, rfl, hp, hd⟩ := ht.tup_inv
      have hl := hd.len
      have hb2 : (if 12 < ds.length then some none else (firstBad (fun t => (t.fig us dn).isSome) ds 0).map some) = some r := hb
      refine iteF ⟨_, rfl, p, _, rfl, .inr hp, _, _, rfl, rfl, _, rfl, ?_⟩
      by_cases hz : 12 < ds.length
      · rw [if_pos hz] at hb2
        have hr0 : r = none := (Option.some.inj hb2).symm
        subst hr0
        refine iteB (decide_eq_true (by omega)) ?_
        exact ⟨_, rfl, fun dd H' hv => q dd H' hv.2.1 hv.2.2⟩
      · rw [if_neg hz] at hb2
        obtain ⟨k0, hk0, hrk⟩ := Option.map_eq_some_iff.mp hb2
        subst hrk
        refine iteE (decide_eq_false (by omega)) ?_
        refine ⟨_, rfl, p, _, rfl, hp, for_enT (K := K) (a := p) (xs := vs) (fun i σ H2 => Same H H2 ∧ (∃ v1 v2, σ = [some (.ref a), some (.ref p), v1, v2]) ∧ firstBad (fun t => (t.fig us dn).isSome) (ds.drop i) i = some k0) ⟨Same.refl _, ⟨none, none, rfl⟩, hk0⟩ (fun i σ H2 _ h => same_sqt h.1 hp) ?_ ?_⟩
        · rintro i x σ H2 Tt hi ⟨sm, ⟨v1, v2, rfl⟩, hgo⟩ nT
          obtain ⟨t, hti, hx⟩ := hd.at hi
          have smT : Same H (upd H2 Tt (.tup [.int (i : Nat), x])) := sm.trans (same_upd nT)
          refine ⟨Tt, _, rfl, .inl (.inl upd_same), rfl, .int (i : Nat), _, rfl, _, _, rfl, rfl, ?_⟩
          refine ⟨_, rfl, _, rfl, a, us, dn, z, c, l, x, t, rfl, hL.same smT, g, hx.sm smT, fun e H3 s3 => ?_, fun p' m e r3 H3 s3 hr3 => ?_⟩
          · rcases firstBad_at hti hgo with ⟨h1, _⟩ | ⟨_, h2⟩
            · rw [e] at h1
              cases h1
            · cases h2
              exact ⟨_, rfl, iteT ⟨_, rfl, _, rfl, fun dd H' hv => q dd H' ((smT.trans s3).trans hv.2.1) hv.2.2⟩⟩
          · rcases firstBad_at hti hgo with ⟨_, h2⟩ | ⟨h1, _⟩
            · exact ⟨_, rfl, iteF ⟨smT.trans s3, ⟨_, _, rfl⟩, h2⟩⟩
            · rw [e] at h1
              cases h1
        · rintro σ H2 ⟨sm, _, hgo⟩
          exact (firstBad_end (by omega) hgo).elim
end
end My

namespace My
open PySem PySem.Spec PyProof.Rows L2
/-! ### changes that are refused -/
/-- a ladder and two figures: which is refused -/
def DifBad (CL CF : Addr) (v w o : V) (tv tw to : Th) (CE : Addr) (x : V) : Prop :=
  (tv.isLad = false ∧ CE = CL ∧ x = v) ∨ (∃ us d s c l, tv = .lad us d s c l ∧ tw.fig us d = none ∧ CE = CF ∧ x = w) ∨
  ∃ us d s c l, ∃ k : FKey, tv = .lad us d s c l ∧ tw = .str (textK us d k) ∧ KeyOk us k ∧ to.fig us d = none ∧ CE = CF ∧ x = o
def spDiffX (K : PySem.W.Frag) (C CL CF : Addr) : Sp := fun vs H _ E => ∃ (v w o : V) (tv tw to : Th) (CE : Addr) (x : V), vs = [v, w, o] ∧ Ta K C H v tv ∧ Ta K C H w tw ∧ Ta K C H o to ∧ DifBad CL CF v w o tv tw to CE x ∧ ∀ dd H', Same H H' → H' dd = some (.xd [("value", x)]) → E (.ref CE) (some dd) H'
/-- a ladder and texts: which is refused -/
def RisBad (CL CT : Addr) (v : V) (tv tw : Th) (CE : Addr) (fd : Str) (x : V) : Prop :=
  (tv.isLad = false ∧ CE = CL ∧ fd = "value" ∧ x = v) ∨ ∃ us d s c l r, tv = .lad us d s c l ∧ textsBad us d tw = some r ∧ CE = CT ∧ fd = "index" ∧ x = optN r
def spRisX (K : PySem.W.Frag) (C CL CT : Addr) : Sp := fun vs H _ E => ∃ (v w : V) (tv tw : Th) (CE : Addr) (fd : Str) (x : V), vs = [v, w] ∧ Ta K C H v tv ∧ Ta K C H w tw ∧ RisBad CL CT v tv tw CE fd x ∧ ∀ dd H', Same H H' → H' dd = some (.xd [(fd, x)]) → E (.ref CE) (some dd) H'
section
variable {P : Program} {w : World} {K : PySem.W.Frag} {mg : Str → Option Value} {base : Heap}
theorem ok_diffX {CL CF : Addr} (d : Dd K mg "difference" sDiff ["ladder", "text", "other_text"]) (dC : Dd K mg "check_ladder" sCLad ["ladder"]) (dF : Dd K mg "parts_of_figure" sPFig ["ladder", "text"]) (L : LadC K mg)
    (GC : FnOk P w K mg base CX0 2 dC.f dC.fd ["ladder"] (spCLad K L.C)) (GF : FnOk P w K mg base CX0 4 dF.f dF.fd ["ladder", "text"] (spPartsOf K L.C)) (GCX : FnOk P w K mg base (L2.CX P w) 3 dC.f dC.fd ["ladder"] (spCLadX K L.C CL)) (GFX : FnOk P w K mg base (L2.CX P w) 4 dF.f dF.fd ["ladder", "text"] (spPFigX K L.C CF)) :
    FnOk P w K mg base (L2.CX P w) 5 d.f d.fd ["ladder", "text", "other_text"] (spDiffX K L.C CL CF) := by
  refine d.F.okX scDiff (fun vs H Q E h => ?_) (fun cdv A outer s H vs Q E hr h => ?_)
  · obtain ⟨_, _, _, _, _, _, _, _, rfl, _⟩ := h
    rfl
  · obtain ⟨v, w0, o, tv, tw, to, CE, x, rfl, hv, hw, ho, hb, q⟩ := h
    have hr2 : Room 2 _ := hr.mono (by decide)
    have hr3 : Room 3 _ := hr.mono (by decide)
    have hr4 : Room 4 _ := hr.mono (by decide)
    rcases hb with ⟨h1, rfl, rfl⟩ | ⟨us, dn, z, c, l, rfl, h2, rfl, rfl⟩ | ⟨us, dn, z, c, l, k, rfl, rfl, ⟨k1, k2, k3⟩, h5, rfl, rfl⟩
    · exact ⟨_, pss_cons (ps_expr (pe_call GCX hr3 (by rfl) dC.g dC.F.kp dC.b .nil (passes_call (takes_of rfl rfl rfl rfl) (fun _ _ _ _ h => h)) (pa_cons (pv 0) pa_nil))) pss_never, _, rfl, _, tv, rfl, hv, h1, q⟩
    · obtain ⟨p, _, _, _, _, _, rfl, e, hL, g⟩ := hv.lad_of rfl
      cases e
      refine ⟨_, pss_cons (ps_expr (pe_call GC hr2 (by rfl) dC.g dC.F.kp dC.b .nil pass0 (pa_cons (pv 0) pa_nil))) (pss_cons (ps_expr (pe_call GFX hr4 (by rfl) dF.g dF.F.kp dF.b .nil (passes_call (takes_of rfl rfl rfl rfl) (fun _ _ _ _ h => h)) (pa_cons (pv 0) (pa_cons (pv 1) pa_nil)))) pss_never), ?_⟩
      exact ⟨_, rfl, p, us, dn, z, c, l, rfl, hL, _, rfl, _, rfl, p, us, dn, z, c, l, _, tw, rfl, hL, g, hw, h2, q⟩
    · obtain ⟨p, _, _, _, _, _, rfl, e, hL, g⟩ := hv.lad_of rfl
      cases e
      cases hw
      refine ⟨_, pss_cons (ps_expr (pe_call GC hr2 (by rfl) dC.g dC.F.kp dC.b .nil pass0 (pa_cons (pv 0) pa_nil))) (pss_cons (ps_expr (pe_call GF hr4 (by rfl) dF.g dF.F.kp dF.b .nil pass0 (pa_cons (pv 0) (pa_cons (pv 1) pa_nil)))) (pss_cons (ps_expr (pe_call GFX hr4 (by rfl) dF.g dF.F.kp dF.b .nil (passes_call (takes_of rfl rfl rfl rfl) (fun _ _ _ _ h => h)) (pa_cons (pv 0) (pa_cons (pv 2) pa_nil)))) pss_never)), ?_⟩
      refine ⟨_, rfl, p, us, dn, z, c, l, rfl, hL, _, rfl, _, rfl, p, us, dn, z, c, l, k.1, k.2, rfl, hL, g, k1, k2, k3, fun r H1 s1 _ => ?_⟩
      exact ⟨_, rfl, _, rfl, p, us, dn, z, c, l, _, to, rfl, hL.same s1, g, ho.sm s1, h5, fun dd H' s2 hv => q dd H' (s1.trans s2) hv⟩
theorem ok_compdX {CL CF : Addr} (d : Dd K mg "compared" sCompd ["ladder", "text", "other_text"]) (dD : Dd K mg "difference" sDiff ["ladder", "text", "other_text"]) (L : LadC K mg) (GD : FnOk P w K mg base (L2.CX P w) 5 dD.f dD.fd ["ladder", "text", "other_text"] (spDiffX K L.C CL CF)) :
    FnOk P w K mg base (L2.CX P w) 6 d.f d.fd ["ladder", "text", "other_text"] (spDiffX K L.C CL CF) := by
  refine d.F.okX scCompd (fun vs H Q E h => ?_) (fun cdv A outer s H vs Q E hr h => ?_)
  · obtain ⟨_, _, _, _, _, _, _, _, rfl, _⟩ := h
    rfl
  · obtain ⟨v, w0, o, tv, tw, to, CE, x, rfl, h⟩ := h
    exact ⟨_, pss_cons (ps_set (i := 3) scCompd.nd rfl (.inl rfl) (pe_call GD hr (by rfl) dD.g dD.F.kp dD.b .nil (passes_call (takes_of rfl rfl rfl rfl) (fun _ _ _ _ h => h)) (pa_cons (pv 0) (pa_cons (pv 1) (pa_cons (pv 2) pa_nil))))) pss_never, _, rfl, _, rfl, _, rfl, v, w0, o, tv, tw, to, CE, x, rfl, h⟩
theorem ok_crangesX {CL CT : Addr} (d : Dd K mg "checked_ranges" sCRanges ["ladder", "texts"]) (dC : Dd K mg "check_ladder" sCLad ["ladder"]) (dT : Dd K mg "check_texts" sCTexts ["ladder", "texts"]) (L : LadC K mg)
    (GC : FnOk P w K mg base CX0 2 dC.f dC.fd ["ladder"] (spCLad K L.C)) (GCX : FnOk P w K mg base (L2.CX P w) 3 dC.f dC.fd ["ladder"] (spCLadX K L.C CL)) (GTX : FnOk P w K mg base (L2.CX P w) 4 dT.f dT.fd ["ladder", "texts"] (spCTextsX K L.C CT)) :
    FnOk P w K mg base (L2.CX P w) 5 d.f d.fd ["ladder", "texts"] (spRisX K L.C CL CT) := by
  refine d.F.okX scCRanges (fun vs H Q E h => ?_) (fun cdv A outer s H vs Q E hr h => ?_)
  · obtain ⟨_, _, _, _, _, _, _, rfl, _⟩ := h
    rfl
  · obtain ⟨v, w0, tv, tw, CE, fd, x, rfl, hv, hw, hb, q⟩ := h
    have hr2 : Room 2 _ := hr.mono (by decide)
    have hr3 : Room 3 _ := hr.mono (by decide)
    have hr4 : Room 4 _ := hr.mono (by decide)
    rcases hb with ⟨h1, rfl, rfl, rfl⟩ | ⟨us, dn, z, c, l, r, rfl, h2, rfl, rfl, rfl⟩
    · exact ⟨_, pss_cons (ps_expr (pe_call GCX hr3 (by rfl) dC.g dC.F.kp dC.b .nil (passes_call (takes_of rfl rfl rfl rfl) (fun _ _ _ _ h => h)) (pa_cons (pv 0) pa_nil))) pss_never, _, rfl, _, tv, rfl, hv, h1, q⟩
    · obtain ⟨p, _, _, _, _, _, rfl, e, hL, g⟩ := hv.lad_of rfl
      cases e
      refine ⟨_, pss_cons (ps_expr (pe_call GC hr2 (by rfl) dC.g dC.F.kp dC.b .nil pass0 (pa_cons (pv 0) pa_nil))) (pss_cons (ps_expr (pe_call GTX hr4 (by rfl) dT.g dT.F.kp dT.b .nil (passes_call (takes_of rfl rfl rfl rfl) (fun _ _ _ _ h => h)) (pa_cons (pv 0) (pa_cons (pv 1) pa_nil)))) pss_never), ?_⟩
      exact ⟨_, rfl, p, us, dn, z, c, l, rfl, hL, _, rfl, _, rfl, p, us, dn, z, c, l, _, tw, r, rfl, hL, g, hw, h2, q⟩
theorem ok_risingX {CL CT : Addr} (d : Dd K mg "rising" sRising ["ladder", "texts"]) (dK : Dd K mg "checked_ranges" sCRanges ["ladder", "texts"]) (L : LadC K mg) (GK : FnOk P w K mg base (L2.CX P w) 5 dK.f dK.fd ["ladder", "texts"] (spRisX K L.C CL CT)) : FnOk P w K mg base (L2.CX P w) 6 d.f d.fd ["ladder", "texts"] (spRisX K L.C CL CT) := by
  refine d.F.okX scRising (fun vs H Q E h => ?_) (fun cdv A outer s H vs Q E hr h => ?_)
  · obtain ⟨_, _, _, _, _, _, _, rfl, _⟩ := h
    rfl
  · obtain ⟨v, w0, tv, tw, CE, fd, x, rfl, h⟩ := h
    exact ⟨_, pss_cons (ps_set (i := 2) scRising.nd rfl (.inl rfl) (pe_call GK hr (by rfl) dK.g dK.F.kp dK.b .nil (passes_call (takes_of rfl rfl rfl rfl) (fun _ _ _ _ h => h)) (pa_cons (pv 0) (pa_cons (pv 1) pa_nil)))) pss_never, _, rfl, _, rfl, v, w0, tv, tw, CE, fd, x, rfl, h⟩
theorem ok_leastrX {CL CT : Addr} (d : Dd K mg "least_rising" sLeastR ["ladder", "texts"]) (dK : Dd K mg "rising" sRising ["ladder", "texts"]) (L : LadC K mg) (GK : FnOk P w K mg base (L2.CX P w) 6 dK.f dK.fd ["ladder", "texts"] (spRisX K L.C CL CT)) : FnOk P w K mg base (L2.CX P w) 7 d.f d.fd ["ladder", "texts"] (spRisX K L.C CL CT) := by
  refine d.F.okX scLeastR (fun vs H Q E h => ?_) (fun cdv A outer s H vs Q E hr h => ?_)
  · obtain ⟨_, _, _, _, _, _, _, rfl, _⟩ := h
    rfl
  · obtain ⟨v, w0, tv, tw, CE, fd, x, rfl, h⟩ := h
    exact ⟨_, pss_cons (ps_set (i := 2) scLeastR.nd rfl (.inl rfl) (pe_call GK hr (by rfl) dK.g dK.F.kp dK.b .nil (passes_call (takes_of rfl rfl rfl rfl) (fun _ _ _ _ h => h)) (pa_cons (pv 0) (pa_cons (pv 1) pa_nil)))) pss_never, _, rfl, _, rfl, v, w0, tv, tw, CE, fd, x, rfl, h⟩
theorem ok_alwaysrX {CL CT : Addr} (d : Dd K mg "always_rise" sAlwaysR ["ladder", "texts"]) (dK : Dd K mg "checked_ranges" sCRanges ["ladder", "texts"]) (L : LadC K mg) (GK : FnOk P w K mg base (L2.CX P w) 5 dK.f dK.fd ["ladder", "texts"] (spRisX K L.C CL CT)) : FnOk P w K mg base (L2.CX P w) 6 d.f d.fd ["ladder", "texts"] (spRisX K L.C CL CT) := by
  refine d.F.okX scAlwaysR (fun vs H Q E h => ?_) (fun cdv A outer s H vs Q E hr h => ?_)
  · obtain ⟨_, _, _, _, _, _, _, rfl, _⟩ := h
    rfl
  · obtain ⟨v, w0, tv, tw, CE, fd, x, rfl, h⟩ := h
    exact ⟨_, pss_cons (ps_set (i := 2) scAlwaysR.nd rfl (.inl rfl) (pe_call GK hr (by rfl) dK.g dK.F.kp dK.b .nil (passes_call (takes_of rfl rfl rfl rfl) (fun _ _ _ _ h => h)) (pa_cons (pv 0) (pa_cons (pv 1) pa_nil)))) pss_never, _, rfl, _, rfl, v, w0, tv, tw, CE, fd, x, rfl, h⟩
theorem ok_firstfallX {CL CT : Addr} (d : Dd K mg "first_fall" sFirstFall ["ladder", "texts"]) (dK : Dd K mg "checked_ranges" sCRanges ["ladder", "texts"]) (L : LadC K mg) (GK : FnOk P w K mg base (L2.CX P w) 5 dK.f dK.fd ["ladder", "texts"] (spRisX K L.C CL CT)) : FnOk P w K mg base (L2.CX P w) 6 d.f d.fd ["ladder", "texts"] (spRisX K L.C CL CT) := by
  refine d.F.okX scFirstFall (fun vs H Q E h => ?_) (fun cdv A outer s H vs Q E hr h => ?_)
  · obtain ⟨_, _, _, _, _, _, _, rfl, _⟩ := h
    rfl
  · obtain ⟨v, w0, tv, tw, CE, fd, x, rfl, h⟩ := h
    exact ⟨_, pss_cons (ps_set (i := 2) scFirstFall.nd rfl (.inl rfl) (pe_call GK hr (by rfl) dK.g dK.F.kp dK.b .nil (passes_call (takes_of rfl rfl rfl rfl) (fun _ _ _ _ h => h)) (pa_cons (pv 0) (pa_cons (pv 1) pa_nil)))) pss_never, _, rfl, _, rfl, v, w0, tv, tw, CE, fd, x, rfl, h⟩
end
end My

namespace My
open PySem PySem.Spec PyProof.Rows L2
abbrev sRight46 : Stmt := top 62
abbrev nRight46 : List Str := ["_law_spring_here", "_law_made", "_law_none", "_law_bad", "_law_odd", "_law_some", "_law_lines", "_law_spot", "_law_seen_here", "_law_due", "_law_ask", "_law_found"]
theorem scRight46 : FnScope nRight46 ["_law_spring_here"] (defScope sRight46) := ⟨rfl, rfl, rfl, by decide +kernel, rfl, by decide +kernel, by decide +kernel⟩
/-- what came out -/
abbrev cs46 (A1 A2 A3 : Addr) : List (Addr × Str × Str) := [(A1, "InvalidFigure", "value"), (A2, "InvalidTexts", "index"), (A3, "NotALadder", "value")]
theorem came_ok {X : Cx} {CI : Addr} {cdv : Value} {q : Str} {f : Addr} (bi : X.mg "isinstance" = none) (bV : X.mg "ValueError" = none) (gI : X.mg "InputError" = some (.ref CI)) (T1 : CO.ErrT X.K X.mg CI "InvalidFigure" "value") (T2 : CO.ErrT X.K X.mg CI "InvalidTexts" "index") (T3 : CO.ErrT X.K X.mg CI "NotALadder" "value")
    (ok : CO.CsOk X.K CI (cs46 T1.C T2.C T3.C)) : LamX.GivesTo X nCame "_law_came_out" (defScope sCame) f cdv (defBody sCame) "_law_ask" q (CO.TCame X.K (cs46 T1.C T2.C T3.C)) :=
  CO.body_ok ok scCame.nd rfl rfl rfl (.inl rfl) rfl (.inl rfl) (fun _ _ => rfl) (fun _ => rfl) (fun s H => .cons ⟨rfl, by decide, .inl T1.g⟩ (fun a oe cls d pn hz hf => CO.suite_ok (X := (cxOf C8.CX0 X.prog X.w X.K X.mg X.base nCame "_law_came_out" (defScope sCame) f cdv X.A X.stack s H C8.E0).nox) T1 hz hf rfl (.inl rfl) rfl bi rfl gI rfl bV)
    (.cons ⟨rfl, by decide, .inl T2.g⟩ (fun a oe cls d pn hz hf => CO.suite_ok (X := (cxOf C8.CX0 X.prog X.w X.K X.mg X.base nCame "_law_came_out" (defScope sCame) f cdv X.A X.stack s H C8.E0).nox) T2 hz hf rfl (.inl rfl) rfl bi rfl gI rfl bV)
    (.cons ⟨rfl, by decide, .inl T3.g⟩ (fun a oe cls d pn hz hf => CO.suite_ok (X := (cxOf C8.CX0 X.prog X.w X.K X.mg X.base nCame "_law_came_out" (defScope sCame) f cdv X.A X.stack s H C8.E0).nox) T3 hz hf rfl (.inl rfl) rfl bi rfl gI rfl bV) .nil)))
/-! ### what is drawn -/
abbrev nT : Th := (.lst [.non, (.str "ladder"), (toldTh usS 1 "near" true 1), (.int 5), .dic, (.lst [ladS]), (.bl true)])
abbrev bT : Th := (.lst [.non, (.str ""), (.str "K"), (.str "1K"), (.str "01"), (.int 5), (.tup [(.str "1")]), (.str "1.0K ")])
abbrev oT : Th := (.lst [(.str "1.00K"), (.lst []), (.int 7), (.str "K1"), (.str "-1")])
abbrev s1 : Th := (.lst [(.tup [.non, .non]), (.tup [(.lst [(.str "1")]), .non]), (.tup [(.tup (List.replicate 13 (tl (.tup [(.str "1")]))).flatten), .non]), (.tup [(.tup [(.str "1"), (.str "1K")]), (.int 1)]), (.tup [(.tup [(.str "1"), (.str "2"), (.int 5)]), (.int 2)]), (.tup [(.tup [(.str "01")]), (.int 0)])])
abbrev s2 : Th := (.lst (tl s1 ++ tl (.lst [(.tup [(.str "1.0K"), .non]), (.tup [(.tup [(.str "1"), (.tup [(.str "1")])]), (.int 1)])])))
def RX (x y : Th) : Prop := ∃ r, y = optT r ∧ Small r ∧ textsBad usS 1 x = some r
theorem rx46 : ∀ t ∈ tl s2, ∃ x y, t = .tup [x, y] ∧ RX x y := by
  intro t ht
  simp only [List.mem_cons, List.mem_append, List.not_mem_nil, or_false] at ht
  rcases ht with (rfl | rfl | rfl | rfl | rfl | rfl) | rfl | rfl <;> first
    | exact ⟨_, _, rfl, none, rfl, by simp [Small], by kernel_rfl⟩
    | exact ⟨_, _, rfl, some 0, rfl, by simp [Small], by kernel_rfl⟩
    | exact ⟨_, _, rfl, some 1, rfl, by simp [Small], by kernel_rfl⟩
    | exact ⟨_, _, rfl, some 2, rfl, by simp [Small], by kernel_rfl⟩
theorem nw46 : ∀ x ∈ tl nT, x.isLad = false ∧ ThOk x := by
  intro t ht
  simp only [List.mem_cons, List.not_mem_nil, or_false] at ht
  rcases ht with rfl | rfl | rfl | rfl | rfl | rfl | rfl <;> exact ⟨by kernel_rfl, by kernel_rfl, by decide +kernel, by decide +kernel⟩
theorem bw46 : ∀ x ∈ tl bT, x.fig usS 1 = none ∧ ThOk x := by
  intro t ht
  simp only [List.mem_cons, List.not_mem_nil, or_false] at ht
  rcases ht with rfl | rfl | rfl | rfl | rfl | rfl | rfl | rfl <;> exact ⟨by kernel_rfl, by kernel_rfl, by decide +kernel, by decide +kernel⟩
theorem ow46 : ∀ x ∈ tl oT, x.fig usS 1 = none ∧ ThOk x := by
  intro t ht
  simp only [List.mem_cons, List.not_mem_nil, or_false] at ht
  rcases ht with rfl | rfl | rfl | rfl | rfl <;> exact ⟨by kernel_rfl, by kernel_rfl, by decide +kernel, by decide +kernel⟩
theorem rw46 {r : Option Nat} (h : Small r) : ThOk (optT r) := by
  rcases h with rfl | rfl | rfl | rfl <;> exact ⟨by kernel_rfl, by decide +kernel, by decide +kernel⟩
theorem optV46 {K : PySem.W.Frag} {C : Addr} {H : Hp} {v : V} {r : Option Nat} (h : Ta K C H v (optT r)) : v = optN r := by
  cases r with
  | none => cases h; rfl
  | some n => cases h; rfl
theorem half : (Th.str "0.5K") = .str (textK usS 1 ((1, 5) : FKey)) := by kernel_rfl
abbrev ks12 : List FKey := List.replicate 12 (0, 7)
theorem keys12 : ∀ k ∈ ks12, KeyOk usS k := by
  intro k hk
  obtain ⟨_, rfl⟩ := List.mem_replicate.mp hk
  exact ⟨by decide, by decide, by decide⟩
theorem lows12 : ∀ k ∈ ks12, ¬ highK usS 1 "near" true 1 k < lowK usS 1 "near" true 1 k := by
  intro k hk
  obtain ⟨_, rfl⟩ := List.mem_replicate.mp hk
  decide +kernel
theorem prs12 : prsOf usS 1 "near" true 1 ks12 = List.replicate 12 ((7 : Int), (7 : Int)) := by decide +kernel
theorem risen12 {es : List (Int × Int)} (h : Risen (List.replicate 12 ((7 : Int), (7 : Int))) es) : es = List.replicate 12 ((7 : Int), (7 : Int)) := by
  refine List.eq_replicate_iff.mpr ⟨by rw [h.1, List.length_replicate], fun b hb => ?_⟩
  obtain ⟨i, hi⟩ := List.getElem?_of_mem hb
  obtain ⟨⟨m1, _⟩, ⟨m2, _⟩⟩ := h.2 i b hi
  obtain ⟨x, hx, e1⟩ := List.mem_map.mp m1
  obtain ⟨y, hy, e2⟩ := List.mem_map.mp m2
  obtain ⟨_, rfl⟩ := List.mem_replicate.mp (List.mem_of_mem_take hx)
  obtain ⟨_, rfl⟩ := List.mem_replicate.mp (List.mem_of_mem_drop hy)
  exact Prod.ext e1.symm e2.symm
theorem risen0 {es : List (Int × Int)} (h : Risen [] es) : es = [] := List.eq_nil_of_length_eq_zero h.1
abbrev LS (K : PySem.W.Frag) (C : Addr) (H : Hp) (la : Addr) : Prop := LadAt K C H la usS 1 "near" true 1
theorem no05 (ks : List FKey) : ∃ k ∈ ks ++ [((1, 5) : FKey)], highK usS 1 "near" true 1 k < lowK usS 1 "near" true 1 k := ⟨(1, 5), List.mem_append_right _ (List.mem_singleton.mpr rfl), by decide +kernel⟩
theorem keys05 {ks : List FKey} (h : ∀ k ∈ ks, KeyOk usS k) : ∀ k ∈ ks ++ [((1, 5) : FKey)], KeyOk usS k := fun k hk => by
  rcases List.mem_append.mp hk with hk | hk
  · exact h k hk
  · obtain rfl := List.mem_singleton.mp hk
    exact ⟨by decide, by decide, by decide⟩
theorem nil_go {σ : L2.St} {H : Hp} {f : List V → Hp → Prop} (h : f [] H) : tNil σ H f := h
section
variable {K : PySem.W.Frag} {C la t : Addr} {H : Hp} {Q : VK} {E : XK}
theorem ris0 (hL : LS K C H la) (ht : SqT K H t []) (q : ∀ r H', Same H H' → SqT K H' r [] → Q (.ref r) H') : spRising K C [.ref la, .ref t] H Q E :=
  ⟨la, t, usS, 1, "near", true, 1, [], rfl, hL, gS, ht, by decide, (fun _ h => nomatch h), (fun ⟨_, h, _⟩ => nomatch h), fun _ es hes => by
    obtain rfl := risen0 hes
    refine ⟨(fun ⟨_, h, _⟩ => nomatch h), fun _ r ps H' s h1 h2 => ?_⟩
    cases h2
    exact q r H' s h1⟩
theorem lst0 (hL : LS K C H la) (ht : SqT K H t []) (q : ∀ r H', Same H H' → SqT K H' r [] → Q (.ref r) H') : spLeastR K C [.ref la, .ref t] H Q E :=
  ⟨la, t, usS, 1, "near", true, 1, [], rfl, hL, gS, ht, by decide, (fun _ h => nomatch h), (fun ⟨_, h, _⟩ => nomatch h), fun _ es hes => by
    obtain rfl := risen0 hes
    exact ⟨(fun ⟨_, h, _⟩ => nomatch h), fun _ r H' s h1 => q r H' s h1⟩⟩
theorem alw0 (hL : LS K C H la) (ht : SqT K H t []) (q : ∀ H', Same H H' → Q (.bl true) H') : spAlwaysR K C [.ref la, .ref t] H Q E :=
  ⟨la, t, usS, 1, "near", true, 1, [], rfl, hL, gS, ht, by decide, (fun _ h => nomatch h), (fun ⟨_, h, _⟩ => nomatch h), fun _ H' s => q H' s⟩
theorem fal0 (hL : LS K C H la) (ht : SqT K H t []) (q : ∀ H', Same H H' → Q (.int (-1)) H') : spFirstFall K C [.ref la, .ref t] H Q E :=
  ⟨la, t, usS, 1, "near", true, 1, [], rfl, hL, gS, ht, by decide, (fun _ h => nomatch h), (fun ⟨_, h, _⟩ => nomatch h), fun _ H' s => q H' s⟩
theorem lst12 (hL : LS K C H la) (ht : SqT K H t (ks12.map fun k => V.str (textK usS 1 k))) (q : ∀ r H', Same H H' → SqT K H' r (List.replicate 12 (.int 7)) → Q (.ref r) H') : spLeastR K C [.ref la, .ref t] H Q E :=
  ⟨la, t, usS, 1, "near", true, 1, ks12, rfl, hL, gS, ht, by decide, keys12, (fun ⟨k, h, h'⟩ => absurd h' (lows12 k h)), fun _ es hes => by
    rw [prs12] at hes
    obtain rfl := risen12 hes
    exact ⟨(fun ⟨e, h, h'⟩ => by
      obtain ⟨_, rfl⟩ := List.mem_replicate.mp h
      exact absurd h' (by decide)), fun _ r H' s h1 => q r H' s h1⟩⟩
theorem risN {ks : List FKey} (hk : ∀ k ∈ ks, KeyOk usS k) (hl : ks.length < 12) (hL : LS K C H la) (ht : SqT K H t ((ks ++ [((1, 5) : FKey)]).map fun k => V.str (textK usS 1 k))) (q : ∀ H', Same H H' → Q .non H') : spRising K C [.ref la, .ref t] H Q E :=
  ⟨la, t, usS, 1, "near", true, 1, ks ++ [(1, 5)], rfl, hL, gS, ht, by rw [List.length_append]; exact hl, keys05 hk, fun _ => q, fun h => absurd (no05 ks) (fun ⟨k, h1, h2⟩ => absurd h2 (Int.not_lt.mpr (h k h1)))⟩
theorem falN {ks : List FKey} (hk : ∀ k ∈ ks, KeyOk usS k) (hl : ks.length < 12) (hL : LS K C H la) (ht : SqT K H t ((ks ++ [((1, 5) : FKey)]).map fun k => V.str (textK usS 1 k))) (q : ∀ H', Same H H' → Q .non H') : spFirstFall K C [.ref la, .ref t] H Q E :=
  ⟨la, t, usS, 1, "near", true, 1, ks ++ [(1, 5)], rfl, hL, gS, ht, by rw [List.length_append]; exact hl, keys05 hk, fun _ => q, fun h => absurd (no05 ks) (fun ⟨k, h1, h2⟩ => absurd h2 (Int.not_lt.mpr (h k h1)))⟩
end
/-- the slots of what was drawn -/
def Sl6 (v1 v2 v3 v4 v5 v6 : V) (σ : L2.St) : Prop := σ[1]? = some (some v1) ∧ σ[2]? = some (some v2) ∧ σ[3]? = some (some v3) ∧ σ[4]? = some (some v4) ∧ σ[6]? = some (some v5) ∧ σ[7]? = some (some v6)
theorem Sl6.set {v1 v2 v3 v4 v5 v6 : V} {σ : L2.St} {x : Option V} (h : Sl6 v1 v2 v3 v4 v5 v6 σ) (m : Nat) (hm : 7 < m) : Sl6 v1 v2 v3 v4 v5 v6 (σ.set m x) := by
  obtain ⟨h1, h2, h3, h4, h5, h6⟩ := h
  refine ⟨?_, ?_, ?_, ?_, ?_, ?_⟩ <;> rw [List.getElem?_set_ne (by omega)] <;> assumption
/-- rows that are due -/
abbrev wr (nm : Str) (i : Nat) (v : V) : List (TE × V) := [(tC (.str nm), .str nm), (tVar i, v), (tC (.bl true), .bl true)]
theorem wr_ok {nm : Str} {i : Nat} {v : V} {σ : L2.St} (e : σ[i]? = some (some v)) : (wr nm i v).length ≤ 1000 ∧ ∀ x ∈ wr nm i v, ∀ H Q, Q x.2 H → x.1 σ H Q := by
  refine ⟨by show 3 ≤ 1000; decide, fun x hx H Q q => ?_⟩
  simp only [wr, List.mem_cons, List.not_mem_nil, or_false] at hx
  rcases hx with rfl | rfl | rfl
  · exact q
  · exact ⟨v, e, q⟩
  · exact q
abbrev wc (nm : Str) (v : V) : List (TE × V) := [(tC (.str nm), .str nm), (tC v, v), (tC (.bl true), .bl true)]
theorem wc_ok {nm : Str} {v : V} {σ : L2.St} : (wc nm v).length ≤ 1000 ∧ ∀ x ∈ wc nm v, ∀ H Q, Q x.2 H → x.1 σ H Q := by
  refine ⟨by show 3 ≤ 1000; decide, fun x hx H Q q => ?_⟩
  simp only [wc, List.mem_cons, List.not_mem_nil, or_false] at hx
  rcases hx with rfl | rfl | rfl <;> exact q
theorem Jx.tk {K : PySem.W.Frag} {C a T : Addr} {n : Nat} {H0 : Hp} {env : LEnv} {σ : L2.St} {H : Hp} (h : Jx K C a T n H0 env σ H) {i : Nat} {d : Th} {v : V} (m : (i, d) ∈ env) (e : σ[i]? = some (some v)) : Ta K C H v d := by
  obtain ⟨w, e', t⟩ := h.got m
  rw [e] at e'
  cases e'
  exact t
abbrev rwV (nm : Str) (v : V) : List V := [.str nm, v, .bl true]
abbrev rwT (nm : Str) (x : Th) : List Th := [.str nm, x, .bl true]
section
variable {P : Program} {w : World} {K : PySem.W.Frag} {mg : Str → Option Value} {base : Heap}
theorem ok_right {CI c T : Addr} (d : Dd K mg "_law_right" sRight46 ["_law_spring_here"]) (hcode : d.fd.code = .ref c) (TB : LamX.TabB base mg c T) (dGu : Dd K mg "_law_gulp" sGulp ["_law_spring_here", "_law_many"]) (dSo : Dd K mg "_law_some_of" sSome ["_law_spring_here", "_law_things"])
    (dCa : Dd K mg "_law_came_out" sCame ["_law_ask"]) (dSa : Dd K mg "sample_ladder" sSample []) (dDi : Dd K mg "difference" sDiff ["ladder", "text", "other_text"]) (dCo : Dd K mg "compared" sCompd ["ladder", "text", "other_text"]) (dRi : Dd K mg "rising" sRising ["ladder", "texts"]) (dLe : Dd K mg "least_rising" sLeastR ["ladder", "texts"]) (dAl : Dd K mg "always_rise" sAlwaysR ["ladder", "texts"]) (dFf : Dd K mg "first_fall" sFirstFall ["ladder", "texts"])
    (L : LadC K mg) (RC : RprC K L.C) (B : Bt mg) (bRepr : mg "repr" = none) (bVE : mg "ValueError" = none) (gI : mg "InputError" = some (.ref CI))
    (TF : CO.ErrT K mg CI "InvalidFigure" "value") (TT : CO.ErrT K mg CI "InvalidTexts" "index") (TL : CO.ErrT K mg CI "NotALadder" "value") (okC : CO.CsOk K CI (cs46 TF.C TT.C TL.C)) (GSa : FnOk P w K mg base CX0 7 dSa.f dSa.fd [] (spSample K L.C))
    (GDiX : FnOk P w K mg base (L2.CX P w) 8 dDi.f dDi.fd ["ladder", "text", "other_text"] (spDiffX K L.C TL.C TF.C)) (GCoX : FnOk P w K mg base (L2.CX P w) 8 dCo.f dCo.fd ["ladder", "text", "other_text"] (spDiffX K L.C TL.C TF.C))
    (GRiX : FnOk P w K mg base (L2.CX P w) 8 dRi.f dRi.fd ["ladder", "texts"] (spRisX K L.C TL.C TT.C)) (GLeX : FnOk P w K mg base (L2.CX P w) 8 dLe.f dLe.fd ["ladder", "texts"] (spRisX K L.C TL.C TT.C)) (GAlX : FnOk P w K mg base (L2.CX P w) 8 dAl.f dAl.fd ["ladder", "texts"] (spRisX K L.C TL.C TT.C)) (GFfX : FnOk P w K mg base (L2.CX P w) 8 dFf.f dFf.fd ["ladder", "texts"] (spRisX K L.C TL.C TT.C))
    (GRi : FnOk P w K mg base CX0 8 dRi.f dRi.fd ["ladder", "texts"] (spRising K L.C)) (GLe : FnOk P w K mg base CX0 8 dLe.f dLe.fd ["ladder", "texts"] (spLeastR K L.C)) (GAl : FnOk P w K mg base CX0 8 dAl.f dAl.fd ["ladder", "texts"] (spAlwaysR K L.C)) (GFf : FnOk P w K mg base CX0 8 dFf.f dFf.fd ["ladder", "texts"] (spFirstFall K L.C)) :
    FnG P w K mg base 12 d.f d.fd ["_law_spring_here"] (spRightT T) := by
  have GSo : FnOk P w K mg base CX0 3 dSo.f dSo.fd ["_law_spring_here", "_law_things"] (spSome K) := ok_some dSo.F dGu.F dGu.b dGu.g B
  have bIsi := B.isinstance
  let S1 : Addr → Sp → Prop := fun f sp => sp = spDiffX K L.C TL.C TF.C ∧ (f = dDi.f ∨ f = dCo.f)
  let S2 : Addr → Sp → Prop := fun f sp => sp = spRisX K L.C TL.C TT.C ∧ (f = dRi.f ∨ f = dLe.f ∨ f = dAl.f ∨ f = dFf.f)
  have hS1 : ∀ f sp, S1 f sp → ∃ (fd : FuncData) (ps : List Str), FnOk P w K mg base (L2.CX P w) 8 f fd ps sp ∧ PySem.W.keepIn K (.ref f) = true ∧ Binds K fd ps [] := by
    rintro f sp ⟨rfl, rfl | rfl⟩
    · exact ⟨_, _, GDiX, dDi.F.kp, dDi.b⟩
    · exact ⟨_, _, GCoX, dCo.F.kp, dCo.b⟩
  have hS2 : ∀ f sp, S2 f sp → ∃ (fd : FuncData) (ps : List Str), FnOk P w K mg base (L2.CX P w) 8 f fd ps sp ∧ PySem.W.keepIn K (.ref f) = true ∧ Binds K fd ps [] := by
    rintro f sp ⟨rfl, rfl | rfl | rfl | rfl⟩
    · exact ⟨_, _, GRiX, dRi.F.kp, dRi.b⟩
    · exact ⟨_, _, GLeX, dLe.F.kp, dLe.b⟩
    · exact ⟨_, _, GAlX, dAl.F.kp, dAl.b⟩
    · exact ⟨_, _, GFfX, dFf.F.kp, dFf.b⟩
  have hK2 : ∀ f sp, S2 f sp → HeldX P w K mg base (L2.CX P w) 8 ["texts", "ladder"] (fun _ ws => ws.reverse) f sp := by
    rintro f sp ⟨rfl, rfl | rfl | rfl | rfl⟩
    · exact ⟨_, _, _, GRiX, dRi.F.kp, kb_rev dRi (fun _ _ _ _ _ _ _ _ => rfl)⟩
    · exact ⟨_, _, _, GLeX, dLe.F.kp, kb_rev dLe (fun _ _ _ _ _ _ _ _ => rfl)⟩
    · exact ⟨_, _, _, GAlX, dAl.F.kp, kb_rev dAl (fun _ _ _ _ _ _ _ _ => rfl)⟩
    · exact ⟨_, _, _, GFfX, dFf.F.kp, kb_rev dFf (fun _ _ _ _ _ _ _ _ => rfl)⟩
  refine Fun_okGc d.F hcode scRight46 (fun vs H Q E h => ?_) (fun A0 outer0 s0 H vs Q E0 gd hr h => ?_)
  · obtain ⟨a, rfl, _⟩ := h
    rfl
  · obtain ⟨a, rfl, hS, hT, q⟩ := h
    have nd := scRight46.nd
    have hr3 : Room 3 _ := hr.mono (by decide)
    have hr7 : Room 7 _ := hr.mono (by decide)
    have hr9 : Room 9 _ := hr.mono (by decide)
    have hr10 : Room 10 _ := hr.mono (by decide)
    have hr11 : Room (9 + 2) _ := hr
    have hu : (A0.deeper (envOfC "_law_right" (defScope sRight46) s0.heap.objs.size d.f (.ref c))).units + 64 < cLine := by have := hr.un; omega
    have RLx : RepL ((cxOf CX0 P w K mg base nRight46 "_law_right" (defScope sRight46) d.f (.ref c) A0 outer0 s0 H E0).nox) L.C ladW 1 := repL (X := (cxOf CX0 P w K mg base nRight46 "_law_right" (defScope sRight46) d.f (.ref c) A0 outer0 s0 H E0).nox) L RC B
    refine ⟨_, (Evl.pss_cut (ps_asg (li_sample (C := L.C) (a := a) (X := (cxOf CX0 P w K mg base nRight46 "_law_right" (defScope sRight46) d.f (.ref c) A0 outer0 s0 H E0).nox) dSa GSa hr7 (by rfl)) (pg_name (i := 1) nd rfl (Or.inr rfl)))
  (Evl.pss_cut (ps_asg (pe_call GSo hr3 (by rfl) dSo.g dSo.F.kp dSo.b .nil pass0 (pa_cons (pv 0) (pa_cons (li_lst (C := L.C) (a := a) (lis_cons li_non (lis_cons li_str (lis_cons (li_told (X := (cxOf CX0 P w K mg base nRight46 "_law_right" (defScope sRight46) d.f (.ref c) A0 outer0 s0 H E0).nox) (a := a) (i := 1) (us := usS) (d := 1) (s := "near") (c := true) (l := 1) L (pv 1)) (lis_cons li_int (lis_cons li_dic (lis_cons (li_lst (lis_cons (li_var (pv 1)) lis_nil)) (lis_cons li_bl lis_nil)))))))) pa_nil))) (pg_name (i := 2) nd rfl (Or.inr rfl)))
  (Evl.pss_cut (ps_asg (pe_call GSo hr3 (by rfl) dSo.g dSo.F.kp dSo.b .nil pass0 (pa_cons (pv 0) (pa_cons (li_lst (C := L.C) (a := a) (lis_cons li_non (lis_cons li_str (lis_cons li_str (lis_cons li_str (lis_cons li_str (lis_cons li_int (lis_cons (li_tup (lis_cons li_str lis_nil)) (lis_cons li_str lis_nil))))))))) pa_nil))) (pg_name (i := 3) nd rfl (Or.inr rfl)))
  (Evl.pss_cut (ps_asg (pe_call GSo hr3 (by rfl) dSo.g dSo.F.kp dSo.b .nil pass0 (pa_cons (pv 0) (pa_cons (li_lst (C := L.C) (a := a) (lis_cons li_str (lis_cons (li_lst lis_nil) (lis_cons li_int (lis_cons li_str (lis_cons li_str lis_nil)))))) pa_nil))) (pg_name (i := 4) nd rfl (Or.inr rfl)))
  (Evl.pss_cut (ps_set (i := 5) nd rfl (.inl rfl) (li_lst (C := L.C) (a := a) (lis_cons (li_tup (lis_cons li_non (lis_cons li_non lis_nil))) (lis_cons (li_tup (lis_cons (li_lst (lis_cons li_str lis_nil)) (lis_cons li_non lis_nil))) (lis_cons (li_tup (lis_cons (li_repT (n := 13) (li_tup (lis_cons li_str lis_nil))) (lis_cons li_non lis_nil))) (lis_cons (li_tup (lis_cons (li_tup (lis_cons li_str (lis_cons li_str lis_nil))) (lis_cons li_int lis_nil))) (lis_cons (li_tup (lis_cons (li_tup (lis_cons li_str (lis_cons li_str (lis_cons li_int lis_nil)))) (lis_cons li_int lis_nil))) (lis_cons (li_tup (lis_cons (li_tup (lis_cons li_str lis_nil)) (lis_cons li_int lis_nil))) lis_nil))))))))
  (Evl.pss_cut (ps_asg (pe_call GSo hr3 (by rfl) dSo.g dSo.F.kp dSo.b .nil pass0 (pa_cons (pv 0) (pa_cons (li_catL (C := L.C) (a := a) (li_var (pv 5)) (li_lst (lis_cons (li_tup (lis_cons li_str (lis_cons li_non lis_nil))) (lis_cons (li_tup (lis_cons (li_tup (lis_cons li_str (lis_cons (li_tup (lis_cons li_str lis_nil)) lis_nil))) (lis_cons li_int lis_nil))) lis_nil)))) pa_nil))) (pg_tup rfl (pgs_cons (pg_name (i := 6) nd rfl (Or.inr rfl)) (pgs_cons (pg_name (i := 7) nd rfl (Or.inl rfl)) pgs_nil))))
  (Evl.pss_cut (ps_par (i := 8) (j := 9) rfl nd rfl rfl (by decide) rfl rfl (pa_cons (pe_lst pa_nil) (pa_cons (pe_lst pa_nil) pa_nil)) rfl)
  (Evl.pss_cut (ps_for PassesOwn.never rfl (pi_list (pe_lst (pa_cons (pe_glob (v := .ref dDi.f) (by rfl) dDi.g rfl) (pa_cons (pe_glob (v := .ref dCo.f) (by rfl) dCo.g rfl) pa_nil)))) (pg_name (i := 10) nd rfl (Or.inr rfl)) (pss_cons (ps_expr (pe_bm PySem.F.plainAttrs_list PySem.F.slot_list_append PySem.F.type_list_append mt_append (pv 8) (pa_cons (pe_came (k := 9) (cs := cs46 TF.C TT.C TL.C) dCa (fun cdv => came_ok (X := (cxOf CX0 P w K mg base nRight46 "_law_right" (defScope sRight46) d.f (.ref c) A0 outer0 s0 H E0).nox) bIsi bVE gI TF TT TL okC) TB rfl rfl hr11 (by rfl) (LamX.lamS_by (sc := defScope sRight46) (by decide +kernel)) rfl (fun _ _ _ _ _ => rfl) (fun A outer s H E f c' hrl => pe_callS (i := 10) (S := S1) hS1 (hrl.mono (by decide)) rfl (.inr (.inr rfl)) (passes_call (takes_of rfl rfl rfl rfl) (fun _ _ _ _ h => h)) (pa_cons (pe_var (i := 2) rfl (.inr (.inr rfl))) (pa_cons (pe_var (i := 3) rfl (.inr (.inr rfl))) (pa_cons (pe_var (i := 4) rfl (.inr (.inr rfl))) pa_nil))))) pa_nil))) (pss_cons (ps_expr (pe_bm PySem.F.plainAttrs_list PySem.F.slot_list_append PySem.F.type_list_append mt_append (pv 8) (pa_cons (pe_came (k := 9) (cs := cs46 TF.C TT.C TL.C) dCa (fun cdv => came_ok (X := (cxOf CX0 P w K mg base nRight46 "_law_right" (defScope sRight46) d.f (.ref c) A0 outer0 s0 H E0).nox) bIsi bVE gI TF TT TL okC) TB rfl rfl hr11 (by rfl) (LamX.lamS_by (sc := defScope sRight46) (by decide +kernel)) rfl (fun _ _ _ _ _ => rfl) (fun A outer s H E f c' hrl => pe_callS (i := 10) (S := S1) hS1 (hrl.mono (by decide)) rfl (.inr (.inr rfl)) (passes_call (takes_of rfl rfl rfl rfl) (fun _ _ _ _ h => h)) (pa_cons (pe_var (i := 1) rfl (.inr (.inr rfl))) (pa_cons (pe_var (i := 3) rfl (.inr (.inr rfl))) (pa_cons (pe_var (i := 4) rfl (.inr (.inr rfl))) pa_nil))))) pa_nil))) (pss_cons (ps_expr (pe_bm PySem.F.plainAttrs_list PySem.F.slot_list_append PySem.F.type_list_append mt_append (pv 8) (pa_cons (pe_came (k := 9) (cs := cs46 TF.C TT.C TL.C) dCa (fun cdv => came_ok (X := (cxOf CX0 P w K mg base nRight46 "_law_right" (defScope sRight46) d.f (.ref c) A0 outer0 s0 H E0).nox) bIsi bVE gI TF TT TL okC) TB rfl rfl hr11 (by rfl) (LamX.lamS_by (sc := defScope sRight46) (by decide +kernel)) rfl (fun _ _ _ _ _ => rfl) (fun A outer s H E f c' hrl => pe_callS (i := 10) (S := S1) hS1 (hrl.mono (by decide)) rfl (.inr (.inr rfl)) (passes_call (takes_of rfl rfl rfl rfl) (fun _ _ _ _ h => h)) (pa_cons (pe_var (i := 1) rfl (.inr (.inr rfl))) (pa_cons pe_str (pa_cons (pe_var (i := 4) rfl (.inr (.inr rfl))) pa_nil))))) pa_nil))) (pss_one (ps_set (i := 9) nd rfl (.inl rfl) (pe_op (r := rCat) op_cat (pv 9) (pe_lst (pa_cons (pe_lst (pa_cons pe_str (pa_cons (pv 2) (pa_cons pe_bl pa_nil)))) (pa_cons (pe_lst (pa_cons pe_str (pa_cons (pv 3) (pa_cons pe_bl pa_nil)))) (pa_cons (pe_lst (pa_cons pe_str (pa_cons (pv 4) (pa_cons pe_bl pa_nil)))) pa_nil)))))))))))
  (Evl.pss_cut (ps_for PassesOwn.never rfl (pi_list (pe_lst (pa_cons (pe_glob (v := .ref dRi.f) (by rfl) dRi.g rfl) (pa_cons (pe_glob (v := .ref dLe.f) (by rfl) dLe.g rfl) (pa_cons (pe_glob (v := .ref dAl.f) (by rfl) dAl.g rfl) (pa_cons (pe_glob (v := .ref dFf.f) (by rfl) dFf.g rfl) pa_nil)))))) (pg_name (i := 10) nd rfl (Or.inr rfl)) (pss_cons (ps_expr (pe_bm PySem.F.plainAttrs_list PySem.F.slot_list_append PySem.F.type_list_append mt_append (pv 8) (pa_cons (pe_came (k := 9) (cs := cs46 TF.C TT.C TL.C) dCa (fun cdv => came_ok (X := (cxOf CX0 P w K mg base nRight46 "_law_right" (defScope sRight46) d.f (.ref c) A0 outer0 s0 H E0).nox) bIsi bVE gI TF TT TL okC) TB rfl rfl hr11 (by rfl) (LamX.lamS_by (sc := defScope sRight46) (by decide +kernel)) rfl (fun _ _ _ _ _ => rfl) (fun A outer s H E f c' hrl => pe_callS (i := 10) (S := S2) hS2 (hrl.mono (by decide)) rfl (.inr (.inr rfl)) (passes_call (takes_of rfl rfl rfl rfl) (fun _ _ _ _ h => h)) (pa_cons (pe_var (i := 2) rfl (.inr (.inr rfl))) (pa_cons (pe_var (i := 6) rfl (.inr (.inr rfl))) pa_nil)))) pa_nil))) (pss_cons (ps_expr (pe_bm PySem.F.plainAttrs_list PySem.F.slot_list_append PySem.F.type_list_append mt_append (pv 8) (pa_cons (pe_came (k := 9) (cs := cs46 TF.C TT.C TL.C) dCa (fun cdv => came_ok (X := (cxOf CX0 P w K mg base nRight46 "_law_right" (defScope sRight46) d.f (.ref c) A0 outer0 s0 H E0).nox) bIsi bVE gI TF TT TL okC) TB rfl rfl hr11 (by rfl) (LamX.lamS_by (sc := defScope sRight46) (by decide +kernel)) rfl (fun _ _ _ _ _ => rfl) (fun A outer s H E f c' hrl => pe_callSK (i := 10) (S := S2) (ks := ["texts", "ladder"]) (gV := fun _ ws => ws.reverse) hK2 (hrl.mono (by decide)) rfl (.inr (.inr rfl)) (passes_call (takes_of rfl rfl rfl rfl) (fun _ _ _ _ h => h)) (pk_cons (pe_var (i := 6) rfl (.inr (.inr rfl))) (pk_cons (pe_var (i := 1) rfl (.inr (.inr rfl))) pk_nil)))) pa_nil))) (pss_one (ps_set (i := 9) nd rfl (.inl rfl) (pe_op (r := rCat) op_cat (pv 9) (pe_lst (pa_cons (pe_lst (pa_cons pe_str (pa_cons (pv 2) (pa_cons pe_bl pa_nil)))) (pa_cons (pe_lst (pa_cons pe_str (pa_cons (pv 7) (pa_cons pe_bl pa_nil)))) pa_nil)))))))))
  (Evl.pss_cut (ps_if (pt_cmpR op_ne (pe_callB (call_reprX (m := 6) RLx gd hr9) (by rfl) bRepr (by decide +kernel) (pa_cons (pv 8) pa_nil)) (pe_callB (call_reprX (m := 6) RLx gd hr9) (by rfl) bRepr (by decide +kernel) (pa_cons (pv 9) pa_nil)) (nomark _)) (pss_one (ps_ret pe_bl)) pss_nil)
  (Evl.pss_cut (ps_set (i := 11) nd rfl (.inl rfl) (pe_lst (pa_cons (pe_call GRi (hr10.mono (by decide)) (by rfl) dRi.g dRi.F.kp dRi.b .nil pass0 (pa_cons (pv 1) (pa_cons (pe_tup pa_nil) pa_nil))) (pa_cons (pe_call GLe (hr10.mono (by decide)) (by rfl) dLe.g dLe.F.kp dLe.b .nil pass0 (pa_cons (pv 1) (pa_cons (pe_tup pa_nil) pa_nil))) (pa_cons (pe_call GAl (hr10.mono (by decide)) (by rfl) dAl.g dAl.F.kp dAl.b .nil pass0 (pa_cons (pv 1) (pa_cons (pe_tup pa_nil) pa_nil))) (pa_cons (pe_call GFf (hr10.mono (by decide)) (by rfl) dFf.g dFf.F.kp dFf.b .nil pass0 (pa_cons (pv 1) (pa_cons (pe_tup pa_nil) pa_nil))) pa_nil))))))
  (Evl.pss_cut (ps_set (i := 11) nd rfl (.inl rfl) (pe_op (r := rCat) op_cat (pv 11) (pe_lst (pa_cons (pe_call GLe (hr10.mono (by decide)) (by rfl) dLe.g dLe.F.kp dLe.b .nil pass0 (pa_cons (pv 1) (pa_cons (li_repT (X := (cxOf CX0 P w K mg base nRight46 "_law_right" (defScope sRight46) d.f (.ref c) A0 outer0 s0 H E0).nox) (C := L.C) (a := a) (n := 12) (li_tup (lis_cons li_str lis_nil))) pa_nil))) (pa_cons (pe_call GRi (hr10.mono (by decide)) (by rfl) dRi.g dRi.F.kp dRi.b .nil pass0 (pa_cons (pv 1) (pa_cons (pe_tup (pa_cons pe_str (pa_cons pe_str pa_nil))) pa_nil))) (pa_cons (pe_call GFf (hr10.mono (by decide)) (by rfl) dFf.g dFf.F.kp dFf.b .nil pass0 (pa_cons (pv 1) (pa_cons (pe_tup (pa_cons pe_str pa_nil)) pa_nil))) pa_nil))))))
  (pss_one (ps_ret (pe_cmpR (r := rEqD K) (op_eqD hu) (pv 11) (li_lst (X := (cxOf CX0 P w K mg base nRight46 "_law_right" (defScope sRight46) d.f (.ref c) A0 outer0 s0 H E0).nox) (C := L.C) (a := a) (lis_cons (li_tup lis_nil) (lis_cons (li_tup lis_nil) (lis_cons li_bl (lis_cons li_neg (lis_cons (li_repT (n := 12) (li_tup (lis_cons li_int lis_nil))) (lis_cons li_non (lis_cons li_non lis_nil)))))))) (by rfl)))))))))))))))), ?_⟩
    have j0 : Jx K L.C a T 12 H [] [some (.ref a), none, none, none, none, none, none, none, none, none, none, none] H := by
      obtain ⟨x, y, z, e⟩ := id hS
      exact ⟨rfl, rfl, ⟨⟨_, e⟩, (fun _ h => nomatch h)⟩, (But.refl a H).n, hT, hS⟩
    refine ⟨fun σ' H' => Jx K L.C a T 12 H [(1, ladS)] σ' H', st_lit (i := 1) j0 rfl (by repeat' constructor) rfl (by decide) .nil fun _ _ j => j, ?_⟩
    intro σ1 H1 j1
    refine ⟨fun σ' H' => ∃ xn, xn ∈ tl nT ∧ Jx K L.C a T 12 H [(2, xn), (1, ladS)] σ' H', st_some (i := 2) (env' := [(1, ladS)]) (ds := tl nT) j1 rfl (by repeat' constructor) rfl (by intro h; cases h) (by show 7 < 1000; decide) (by decide) (.keep .nil) fun d _ _ m j => ⟨d, m, j⟩, ?_⟩
    rintro σ2 H2 ⟨xn, mxn, j2⟩
    refine ⟨fun σ' H' => ∃ xb, xb ∈ tl bT ∧ Jx K L.C a T 12 H [(3, xb), (2, xn), (1, ladS)] σ' H', st_some (i := 3) (env' := [(2, xn), (1, ladS)]) (ds := tl bT) j2 rfl (by repeat' constructor) rfl (by intro h; cases h) (by show 8 < 1000; decide) (by decide) (.keep (.keep .nil)) fun d _ _ m j => ⟨d, m, j⟩, ?_⟩
    rintro σ3 H3 ⟨xb, mxb, j3⟩
    refine ⟨fun σ' H' => ∃ xo, xo ∈ tl oT ∧ Jx K L.C a T 12 H [(4, xo), (3, xb), (2, xn), (1, ladS)] σ' H', st_some (i := 4) (env' := [(3, xb), (2, xn), (1, ladS)]) (ds := tl oT) j3 rfl (by repeat' constructor) rfl (by intro h; cases h) (by show 5 < 1000; decide) (by decide) (.keep (.keep (.keep .nil))) fun d _ _ m j => ⟨d, m, j⟩, ?_⟩
    rintro σ4 H4 ⟨xo, mxo, j4⟩
    refine ⟨fun σ' H' => Jx K L.C a T 12 H [(5, s1), (4, xo), (3, xb), (2, xn), (1, ladS)] σ' H', st_lit (i := 5) j4 rfl (by repeat' constructor) rfl (by decide) (.keep (.keep (.keep (.keep .nil)))) fun _ _ j => j, ?_⟩
    intro σ5 H5 j5
    refine ⟨fun σ' H' => ∃ xr ys, RX xr ys ∧ Jx K L.C a T 12 H [(7, ys), (6, xr), (4, xo), (3, xb), (2, xn), (1, ladS)] σ' H', st_pair (i := 6) (j := 7) (env' := [(4, xo), (3, xb), (2, xn), (1, ladS)]) (env1 := [(4, xo), (3, xb), (2, xn), (1, ladS)]) j5 rfl (by repeat' constructor) rfl rx46 (by intro h; cases h) (by show 8 < 1000; decide) (by decide) (by decide) (.drop (.keep (.keep (.keep (.keep .nil))))) (by decide) (.keep (.keep (.keep (.keep .nil)))) fun x y _ _ r j => ⟨x, y, r, j⟩, ?_⟩
    rintro σ6 H6 ⟨xr, ys, hR6, j6⟩
    obtain ⟨r1, rfl, sm1, hb1⟩ := hR6
    obtain ⟨hn, on⟩ := nw46 xn mxn
    obtain ⟨hb, ob⟩ := bw46 xb mxb
    obtain ⟨ho, oo⟩ := ow46 xo mxo
    have or1 := rw46 sm1
    let env : LEnv := [(7, optT r1), (6, xr), (4, xo), (3, xb), (2, xn), (1, ladS)]
    obtain ⟨vm, p1, _⟩ := j6.got (i := 1) (d := ladS) (by simp)
    obtain ⟨vn, p2, _⟩ := j6.got (i := 2) (d := xn) (by simp)
    obtain ⟨vb, p3, _⟩ := j6.got (i := 3) (d := xb) (by simp)
    obtain ⟨vo, p4, _⟩ := j6.got (i := 4) (d := xo) (by simp)
    obtain ⟨vl, p5, _⟩ := j6.got (i := 6) (d := xr) (by simp)
    obtain ⟨vs, p6, ts⟩ := j6.got (i := 7) (d := optT r1) (by simp)
    obtain rfl := optV46 ts
    clear ts
    have sl6 : Sl6 vm vn vb vo vl (optN r1) σ6 := ⟨p1, p2, p3, p4, p5, p6⟩
    clear p1 p2 p3 p4 p5 p6
    refine ⟨fun σ' H' => ∃ Ld Dd, J4 K L.C a T 12 8 9 H H6 env Ld Dd [] [] σ' H' ∧ Sl6 vm vn vb vo vl (optN r1) σ', ?_, ?_⟩
    · exact ⟨by show 0 ≤ sizeLine; decide, fun Ld nL => ⟨by show 0 ≤ sizeLine; decide, fun Dd nD => ⟨.ref Ld, .ref Dd, rfl, Ld, Dd, J4.start j6 nL nD (by decide) (by decide) (by decide) (.keep (.keep (.keep (.keep (.keep (.keep .nil)))))) (.keep (.keep (.keep (.keep (.keep (.keep .nil)))))), (sl6.set 8 (by decide)).set 9 (by decide)⟩⟩⟩
    clear sl6
    rintro σ7 H7 ⟨Ld, Dd7, j7, sl7⟩
    refine ⟨fun σ' H' => ∃ Dd, J4 K L.C a T 12 8 9 H H6 env Ld Dd (rp 2 [rwV "NotALadder" vn, rwV "InvalidFigure" vb, rwV "InvalidFigure" vo]) (rp 2 [rwV "NotALadder" vn, rwV "InvalidFigure" vb, rwV "InvalidFigure" vo]) σ' H' ∧ Sl6 vm vn vb vo vl (optN r1) σ', ?_, ?_⟩
    · refine ⟨by show 2 ≤ sizeLine; decide, fun F nF => ⟨F, rfl, ⟨_, SqL.of upd_same⟩, for_list (K := K) (a := F) (xs := [.ref dDi.f, .ref dCo.f]) (fun i σ' H' => ∃ Dd, J4 K L.C a T 12 8 9 H H6 env Ld Dd (rp i [rwV "NotALadder" vn, rwV "InvalidFigure" vb, rwV "InvalidFigure" vo]) (rp i [rwV "NotALadder" vn, rwV "InvalidFigure" vb, rwV "InvalidFigure" vo]) σ' H' ∧ Sl6 vm vn vb vo vl (optN r1) σ' ∧ H' F = some (.lst [.ref dDi.f, .ref dCo.f]) ∧ F ≠ Ld ∧ F ≠ Dd) ?_ ?_ ?_ ?_⟩⟩
      · refine ⟨Dd7, ?_, sl7, upd_same, fun z => ?_, fun z => ?_⟩
        · exact j7.ext (same_extN (same_upd nF)) (tabs_same j7.t (same_upd nF))
        · obtain ⟨ps, e, _⟩ := j7.r
          rw [z, e] at nF
          cases nF
        · obtain ⟨ps, e, _⟩ := j7.due
          rw [z, e] at nF
          cases nF
      · rintro i σ' H' _ ⟨_, _, _, h, _⟩
        exact SqL.of h
      · rintro i x σ' H' hi ⟨Dd, j, sl, hF, n1, n2⟩
        have hi4 : i < 2 := (List.getElem?_eq_some_iff.mp hi).1
        obtain ⟨f, rfl, hf⟩ : ∃ f, x = .ref f ∧ (f = dDi.f ∨ f = dCo.f) := by
          have := List.mem_of_getElem? hi
          simp only [List.mem_cons, List.not_mem_nil, or_false] at this
          rcases this with rfl | rfl
          · exact ⟨_, rfl, .inl rfl⟩
          · exact ⟨_, rfl, .inr (rfl)⟩
        have ln : (rp i [rwV "NotALadder" vn, rwV "InvalidFigure" vb, rwV "InvalidFigure" vo]).length ≤ 100 := by
          rw [rp_len]
          show i * 3 ≤ 100
          omega
        have sl' := sl.set (x := some (V.ref f)) 10 (by decide)
        have j0 := j.setV (m := 10) (v := .ref f) (by decide) (.keep (.keep (.keep (.keep (.keep (.keep .nil)))))) (by decide) (by decide)
        have h10 : (σ'.set 10 (some (V.ref f)))[10]? = some (some (V.ref f)) := List.getElem?_set_self (by rw [j.j1.n]; decide)
        refine st_more4 (v := vn) (nm := "NotALadder") (fd := "value") (CE := TL.C) j0 (by omega) (.tail _ (.tail _ (.head _))) (fun H2 E Q x2 jj e => ?_) (fun H1 k1 j1 => ?_)
        · exact ⟨f, _, h10, ⟨rfl, hf⟩, vn, sl'.2.1, vb, sl'.2.2.1, vo, sl'.2.2.2.1, vn, vb, vo, xn, xb, xo, TL.C, vn, rfl, (jj.tk (i := 2) (d := xn) (by simp [env]) sl'.2.1), (jj.tk (i := 3) (d := xb) (by simp [env]) sl'.2.2.1), (jj.tk (i := 4) (d := xo) (by simp [env]) sl'.2.2.2.1), .inl ⟨hn, rfl, rfl⟩, e⟩
        refine st_more4 (v := vb) (nm := "InvalidFigure") (fd := "value") (CE := TF.C) j1 (by rw [List.length_append, List.length_singleton]; omega) (.head _) (fun H2 E Q x2 jj e => ?_) (fun H2 k2 j2 => ?_)
        · exact ⟨f, _, h10, ⟨rfl, hf⟩, vm, sl'.1, vb, sl'.2.2.1, vo, sl'.2.2.2.1, vm, vb, vo, ladS, xb, xo, TF.C, vb, rfl, (jj.tk (i := 1) (d := ladS) (by simp [env]) sl'.1), (jj.tk (i := 3) (d := xb) (by simp [env]) sl'.2.2.1), (jj.tk (i := 4) (d := xo) (by simp [env]) sl'.2.2.2.1), .inr (.inl ⟨usS, 1, "near", true, 1, rfl, hb, rfl, rfl⟩), e⟩
        refine st_more4 (v := vo) (nm := "InvalidFigure") (fd := "value") (CE := TF.C) j2 (by rw [List.length_append, List.length_singleton, List.length_append, List.length_singleton]; omega) (.head _) (fun H2 E Q x2 jj e => ?_) (fun H3 k3 j3 => ?_)
        · exact ⟨f, _, h10, ⟨rfl, hf⟩, vm, sl'.1, vo, sl'.2.2.2.1, vm, .str "0.5K", vo, ladS, (.str "0.5K"), xo, TF.C, vo, rfl, (jj.tk (i := 1) (d := ladS) (by simp [env]) sl'.1), (.str _ (by decide)), (jj.tk (i := 4) (d := xo) (by simp [env]) sl'.2.2.2.1), .inr (.inr ⟨usS, 1, "near", true, 1, (1, 5), rfl, half, ⟨by decide, by decide, by decide⟩, ho, rfl, rfl⟩), e⟩
        refine st_due4 (ws := [wr "NotALadder" 2 vn, wr "InvalidFigure" 3 vb, wr "InvalidFigure" 4 vo]) j3 (fun r hr => ?_) (by show _ + 3 ≤ 1000; omega) (by decide) (by decide) (.keep (.keep (.keep (.keep (.keep (.keep .nil)))))) (fun G H8 nG s8 j8 => ?_)
        · simp only [List.mem_cons, List.not_mem_nil, or_false] at hr
          rcases hr with rfl | rfl | rfl
          · exact wr_ok sl'.2.1
          · exact wr_ok sl'.2.2.1
          · exact wr_ok sl'.2.2.2.1
        have hFm := (k3 _ _ n1 n2 (k2 _ _ n1 n2 (k1 _ _ n1 n2 hF)))
        refine ⟨G, ?_, sl'.set 9 (by decide), s8 _ _ hFm, n1, fun z => ?_⟩
        · simp only [List.append_assoc, List.cons_append, List.nil_append] at j8
          simp only [rp, List.append_assoc]
          exact j8
        · rw [z, nG] at hFm
          cases hFm
      · rintro σ' H' ⟨Dd, j, sl, _⟩
        exact ⟨Dd, j, sl⟩
    clear j7 sl7
    rintro σ8 H8 ⟨Dd8, j8, sl8⟩
    refine ⟨fun σ' H' => ∃ Dd, J4 K L.C a T 12 8 9 H H6 env Ld Dd (rp 2 [rwV "NotALadder" vn, rwV "InvalidFigure" vb, rwV "InvalidFigure" vo] ++ rp 4 [rwV "NotALadder" vn, rwV "InvalidTexts" (optN r1)]) (rp 2 [rwV "NotALadder" vn, rwV "InvalidFigure" vb, rwV "InvalidFigure" vo] ++ rp 4 [rwV "NotALadder" vn, rwV "InvalidTexts" (optN r1)]) σ' H' ∧ Sl6 vm vn vb vo vl (optN r1) σ', ?_, ?_⟩
    · refine ⟨by show 4 ≤ sizeLine; decide, fun F nF => ⟨F, rfl, ⟨_, SqL.of upd_same⟩, for_list (K := K) (a := F) (xs := [.ref dRi.f, .ref dLe.f, .ref dAl.f, .ref dFf.f]) (fun i σ' H' => ∃ Dd, J4 K L.C a T 12 8 9 H H6 env Ld Dd (rp 2 [rwV "NotALadder" vn, rwV "InvalidFigure" vb, rwV "InvalidFigure" vo] ++ rp i [rwV "NotALadder" vn, rwV "InvalidTexts" (optN r1)]) (rp 2 [rwV "NotALadder" vn, rwV "InvalidFigure" vb, rwV "InvalidFigure" vo] ++ rp i [rwV "NotALadder" vn, rwV "InvalidTexts" (optN r1)]) σ' H' ∧ Sl6 vm vn vb vo vl (optN r1) σ' ∧ H' F = some (.lst [.ref dRi.f, .ref dLe.f, .ref dAl.f, .ref dFf.f]) ∧ F ≠ Ld ∧ F ≠ Dd) ?_ ?_ ?_ ?_⟩⟩
      · refine ⟨Dd8, ?_, sl8, upd_same, fun z => ?_, fun z => ?_⟩
        · rw [rp, List.append_nil]
          exact j8.ext (same_extN (same_upd nF)) (tabs_same j8.t (same_upd nF))
        · obtain ⟨ps, e, _⟩ := j8.r
          rw [z, e] at nF
          cases nF
        · obtain ⟨ps, e, _⟩ := j8.due
          rw [z, e] at nF
          cases nF
      · rintro i σ' H' _ ⟨_, _, _, h, _⟩
        exact SqL.of h
      · rintro i x σ' H' hi ⟨Dd, j, sl, hF, n1, n2⟩
        have hi4 : i < 4 := (List.getElem?_eq_some_iff.mp hi).1
        obtain ⟨f, rfl, hf⟩ : ∃ f, x = .ref f ∧ (f = dRi.f ∨ f = dLe.f ∨ f = dAl.f ∨ f = dFf.f) := by
          have := List.mem_of_getElem? hi
          simp only [List.mem_cons, List.not_mem_nil, or_false] at this
          rcases this with rfl | rfl | rfl | rfl
          · exact ⟨_, rfl, .inl rfl⟩
          · exact ⟨_, rfl, .inr (.inl rfl)⟩
          · exact ⟨_, rfl, .inr (.inr (.inl rfl))⟩
          · exact ⟨_, rfl, .inr (.inr (.inr (rfl)))⟩
        have ln : (rp 2 [rwV "NotALadder" vn, rwV "InvalidFigure" vb, rwV "InvalidFigure" vo] ++ rp i [rwV "NotALadder" vn, rwV "InvalidTexts" (optN r1)]).length ≤ 100 := by
          rw [List.length_append, rp_len, rp_len]
          show 2 * 3 + i * 2 ≤ 100
          omega
        have sl' := sl.set (x := some (V.ref f)) 10 (by decide)
        have j0 := j.setV (m := 10) (v := .ref f) (by decide) (.keep (.keep (.keep (.keep (.keep (.keep .nil)))))) (by decide) (by decide)
        have h10 : (σ'.set 10 (some (V.ref f)))[10]? = some (some (V.ref f)) := List.getElem?_set_self (by rw [j.j1.n]; decide)
        refine st_more4 (v := vn) (nm := "NotALadder") (fd := "value") (CE := TL.C) j0 (by omega) (.tail _ (.tail _ (.head _))) (fun H2 E Q x2 jj e => ?_) (fun H1 k1 j1 => ?_)
        · exact ⟨f, _, h10, ⟨rfl, hf⟩, vn, sl'.2.1, vl, sl'.2.2.2.2.1, vn, vl, xn, xr, TL.C, "value", vn, rfl, (jj.tk (i := 2) (d := xn) (by simp [env]) sl'.2.1), (jj.tk (i := 6) (d := xr) (by simp [env]) sl'.2.2.2.2.1), .inl ⟨hn, rfl, rfl, rfl⟩, e⟩
        refine st_more4 (v := (optN r1)) (nm := "InvalidTexts") (fd := "index") (CE := TT.C) j1 (by rw [List.length_append, List.length_singleton]; omega) (.tail _ (.head _)) (fun H2 E Q x2 jj e => ?_) (fun H2 k2 j2 => ?_)
        · exact ⟨f, _, h10, ⟨rfl, hf⟩, vl, sl'.2.2.2.2.1, vm, sl'.1, rfl, vm, vl, ladS, xr, TT.C, "index", optN r1, rfl, (jj.tk (i := 1) (d := ladS) (by simp [env]) sl'.1), (jj.tk (i := 6) (d := xr) (by simp [env]) sl'.2.2.2.2.1), .inr ⟨usS, 1, "near", true, 1, r1, rfl, hb1, rfl, rfl, rfl⟩, e⟩
        refine st_due4 (ws := [wr "NotALadder" 2 vn, wr "InvalidTexts" 7 (optN r1)]) j2 (fun r hr => ?_) (by show _ + 2 ≤ 1000; omega) (by decide) (by decide) (.keep (.keep (.keep (.keep (.keep (.keep .nil)))))) (fun G H8 nG s8 j8 => ?_)
        · simp only [List.mem_cons, List.not_mem_nil, or_false] at hr
          rcases hr with rfl | rfl
          · exact wr_ok sl'.2.1
          · exact wr_ok sl'.2.2.2.2.2
        have hFm := (k2 _ _ n1 n2 (k1 _ _ n1 n2 hF))
        refine ⟨G, ?_, sl'.set 9 (by decide), s8 _ _ hFm, n1, fun z => ?_⟩
        · simp only [List.append_assoc, List.cons_append, List.nil_append] at j8
          simp only [rp, List.append_assoc]
          exact j8
        · rw [z, nG] at hFm
          cases hFm
      · rintro σ' H' ⟨Dd, j, sl, _⟩
        exact ⟨Dd, j, sl⟩
    clear j8 sl8
    rintro σ9 H9 ⟨Dd9, j9, sl9⟩
    refine ⟨fun σ' H' => Jx K L.C a T 12 H env σ' H', ?_, ?_⟩
    · have ja := j9
      have jj := ja.jx
      have tn := (jj.tk (i := 2) (d := xn) (by simp [env]) sl9.2.1)
      have tb := (jj.tk (i := 3) (d := xb) (by simp [env]) sl9.2.2.1)
      have to := (jj.tk (i := 4) (d := xo) (by simp [env]) sl9.2.2.2.1)
      have rN : TaAll K L.C H9 (rwV "NotALadder" vn) (rwT "NotALadder" xn) := .cons (.str _ (by decide)) (.cons tn (.cons (.bl _) .nil))
      have rB : TaAll K L.C H9 (rwV "InvalidFigure" vb) (rwT "InvalidFigure" xb) := .cons (.str _ (by decide)) (.cons tb (.cons (.bl _) .nil))
      have rO : TaAll K L.C H9 (rwV "InvalidFigure" vo) (rwT "InvalidFigure" xo) := .cons (.str _ (by decide)) (.cons to (.cons (.bl _) .nil))
      have rT : TaAll K L.C H9 (rwV "InvalidTexts" (optN r1)) (rwT "InvalidTexts" (optT r1)) := .cons (.str _ (by decide)) (.cons (opt_ta r1) (.cons (.bl _) .nil))
      let ts : List (List Th) := rp 2 [rwT "NotALadder" xn, rwT "InvalidFigure" xb, rwT "InvalidFigure" xo] ++ rp 4 [rwT "NotALadder" xn, rwT "InvalidTexts" (optT r1)]
      obtain ⟨u1, u2⟩ := ja.things (ts := ts) (paired_app (rp_paired (.cons rN (.cons rB (.cons rO .nil))) 2) (rp_paired (.cons rN (.cons rT .nil)) 4))
      have oks : ∀ t ∈ ts.map Th.lst, t.shw = true ∧ t.ht ≤ 4 ∧ (thX ladW t).length ≤ 400 := by
        intro t ht
        obtain ⟨r, hr, rfl⟩ := List.mem_map.mp ht
        have en : r = rwT "NotALadder" xn ∨ r = rwT "InvalidFigure" xb ∨ r = rwT "InvalidFigure" xo ∨ r = rwT "InvalidTexts" (optT r1) := by
          rcases List.mem_append.mp hr with hr | hr
          · have := rp_mem hr
            simp only [List.mem_cons, List.not_mem_nil, or_false] at this
            rcases this with h | h | h
            · exact (.inl h)
            · exact (.inr (.inl h))
            · exact (.inr (.inr (.inl h)))
          · have := rp_mem hr
            simp only [List.mem_cons, List.not_mem_nil, or_false] at this
            rcases this with h | h
            · exact (.inl h)
            · exact (.inr (.inr (.inr h)))
        rcases en with rfl | rfl | rfl | rfl
        · exact rowOk (by decide +kernel) on
        · exact rowOk (by decide +kernel) ob
        · exact rowOk (by decide +kernel) oo
        · exact rowOk (by decide +kernel) or1
      obtain ⟨w1, w2, w3⟩ := rowsOk (ts := ts.map Th.lst) (by show 14 ≤ 1000; decide) oks
      refine ⟨.ref Ld, ja.l, Ld, ts.map Th.lst, rfl, u1, w1, w2, w3, .ref Dd9, ja.d, Dd9, ts.map Th.lst, rfl, u2, w1, w2, w3, rfl, _, rfl, iteE (ne_sameS rfl) ?_⟩
      exact ja.jx
    clear j9 sl9
    intro σz Hz jz
    obtain ⟨v1, q1, t1⟩ := jz.got (i := 1) (d := ladS) (by simp [env])
    obtain ⟨la, _, _, _, _, _, rfl, e1, hL, _⟩ := t1.lad_of rfl
    cases e1
    clear t1
    refine ⟨fun σ' H' => Jx K L.C a T 12 H env σ' H' ∧ LS K L.C H' la ∧ σ'[1]? = some (some (.ref la)) ∧ ∃ F r1 r2, σ'[11]? = some (some (.ref F)) ∧ H' F = some (.lst [.ref r1, .ref r2, .bl true, .int (-1)]) ∧ SqT K H' r1 [] ∧ SqT K H' r2 [], ?_, ?_⟩
    · refine ⟨_, q1, by show 0 ≤ sizeLine; decide, fun e1 n1 => ?_⟩
      have s1 := same_upd n1 (o := .tup [])
      refine nil_go (ris0 (hL.same s1) (SqT.of upd_same) fun x1 H1 t1 w1 => ?_)
      have s1 := s1.trans t1
      refine ⟨_, q1, by show 0 ≤ sizeLine; decide, fun e2 n2 => ?_⟩
      have s2 := same_upd n2 (o := .tup [])
      refine nil_go (lst0 (hL.same (s1.trans s2)) (SqT.of upd_same) fun x2 H2 t2 w2 => ?_)
      have s2 := s2.trans t2
      have s12 := s1.trans s2
      refine ⟨_, q1, by show 0 ≤ sizeLine; decide, fun e3 n3 => ?_⟩
      have s3 := same_upd n3 (o := .tup [])
      refine nil_go (alw0 (hL.same (s12.trans s3)) (SqT.of upd_same) fun H3 t3 => ?_)
      have s3 := s3.trans t3
      have s13 := s12.trans s3
      refine ⟨_, q1, by show 0 ≤ sizeLine; decide, fun e4 n4 => ?_⟩
      have s4 := same_upd n4 (o := .tup [])
      refine nil_go (fal0 (hL.same (s13.trans s4)) (SqT.of upd_same) fun H4 t4 => ?_)
      have s4 := s4.trans t4
      have s14 := s13.trans s4
      refine ⟨by show 4 ≤ sizeLine; decide, fun F nF => ?_⟩
      have sF := same_upd nF (o := .lst [.ref x1, .ref x2, .bl true, .int (-1)])
      have sA := s14.trans sF
      exact ⟨(jz.same sA).setV (by decide) (.keep (.keep (.keep (.keep (.keep (.keep .nil)))))), hL.same sA, by rw [List.getElem?_set_ne (by decide)]; exact q1, F, x1, x2, List.getElem?_set_self (by rw [jz.n]; decide), upd_same, same_sqt (((s2.trans s3).trans s4).trans sF) w1, same_sqt ((s3.trans s4).trans sF) w2⟩
    clear jz hL q1
    rintro σy Hy ⟨jy, hL, q1, F, x1, x2, qF, hF, w1, w2⟩
    have lkok : Lok K L.C a [] (fun _ => .non) σy Hy := ⟨jy.sp, fun _ h => nomatch h⟩
    refine ⟨fun σ' H' => Jx K L.C a T 12 H env σ' H' ∧ ∃ G r1 r2 r3, σ'[11]? = some (some (.ref G)) ∧ H' G = some (.lst [.ref r1, .ref r2, .bl true, .int (-1), .ref r3, .non, .non]) ∧ SqT K H' r1 [] ∧ SqT K H' r2 [] ∧ SqT K H' r3 (List.replicate 12 (.int 7)), ?_, ?_⟩
    · refine ⟨_, qF, _, q1, fun _ => .non, by repeat' constructor, lkok, fun v H1 s1 t1 => ?_⟩
      obtain ⟨tp, vs, rfl, hp, hd⟩ := (t1.sm (hid_same a H1)).tup_inv
      have evs : vs = ks12.map fun k => V.str (textK usS 1 k) := tas_str (fun k => textK usS 1 k) (ks := ks12) (show TaAll K L.C H1 vs (ks12.map fun k => Th.str (textK usS 1 k)) from hd)
      subst evs
      refine nil_go (lst12 (hL.same s1) hp fun x3 H2 s2 w3 => ?_)
      have s12 := s1.trans s2
      refine ⟨_, q1, by show 2 ≤ sizeLine; decide, fun e2 n2 => ?_⟩
      have s3 := same_upd n2 (o := .tup [.str "7", .str "0.5K"])
      have g1 : [V.str "7", V.str "0.5K"] = ([((0, 7) : FKey)] ++ [((1, 5) : FKey)]).map fun k => V.str (textK usS 1 k) := by kernel_rfl
      refine nil_go (risN (ks := [(0, 7)]) (fun k hk => by obtain rfl := List.mem_singleton.mp hk; exact ⟨by decide, by decide, by decide⟩) (by decide) (hL.same (s12.trans s3)) (by rw [← g1]; exact SqT.of upd_same) fun H3 s4 => ?_)
      have s34 := s3.trans s4
      have s14 := s12.trans s34
      refine ⟨_, q1, by show 1 ≤ sizeLine; decide, fun e3 n3 => ?_⟩
      have s5 := same_upd n3 (o := .tup [.str "0.5K"])
      have g2 : [V.str "0.5K"] = (([] : List FKey) ++ [((1, 5) : FKey)]).map fun k => V.str (textK usS 1 k) := by kernel_rfl
      refine nil_go (falN (ks := []) (fun _ h => nomatch h) (by decide) (hL.same (s14.trans s5)) (by rw [← g2]; exact SqT.of upd_same) fun H4 s6 => ?_)
      have s56 := s5.trans s6
      have s36 := s34.trans s56
      have s16 := s14.trans s56
      refine ⟨by show 3 ≤ sizeLine; decide, fun F2 nF2 => ?_⟩
      have sF2 := same_upd nF2 (o := .lst [.ref x3, .non, .non])
      refine ⟨F, F2, _, _, rfl, rfl, (s16.trans sF2) _ _ hF, upd_same, by show 4 + 3 ≤ sizeLine; decide, fun G nG => ?_⟩
      have sG := same_upd nG (o := .lst ([.ref x1, .ref x2, .bl true, .int (-1)] ++ [.ref x3, .non, .non]))
      have sL := sF2.trans sG
      have sA := s16.trans sL
      exact ⟨(jy.same sA).setV (by decide) (.keep (.keep (.keep (.keep (.keep (.keep .nil)))))), G, x1, x2, x3, List.getElem?_set_self (by rw [jy.n]; decide), upd_same, same_sqt sA w1, same_sqt sA w2, same_sqt (s36.trans sL) w3⟩
    clear jy hL q1 w1 w2 qF hF lkok
    rintro σx Hx ⟨jx, G, x1, x2, x3, qG, hG, w1, w2, w3⟩
    have lkok : Lok K L.C a [] (fun _ => .non) σx Hx := ⟨jx.sp, fun _ h => nomatch h⟩
    refine ⟨_, qG, fun _ => .non, by repeat' constructor, lkok, fun v H1 s1 t1 => ?_⟩
    have d1 : Dp K H1 v (thD ((.lst [(.tup []), (.tup []), (.bl true), (.int (-1)), (.tup (List.replicate 12 (tl (.tup [(.int 7)]))).flatten), .non, .non]))) := ta_dp _ _ (by kernel_rfl) (t1.sm (hid_same a H1))
    have e7 : DpAll K H1 (List.replicate 12 (V.int 7)) (List.replicate 12 (.int 7)) := .cons (.int _) (.cons (.int _) (.cons (.int _) (.cons (.int _) (.cons (.int _) (.cons (.int _) (.cons (.int _) (.cons (.int _) (.cons (.int _) (.cons (.int _) (.cons (.int _) (.cons (.int _) .nil)))))))))))
    refine ⟨.list [.tuple [], .tuple [], .bool true, .int (-1), .tuple (List.replicate 12 (.int 7)), .none, .none], _, .lst (SqL.of (s1 _ _ hG)) (.cons (.tup (same_sqt s1 w1) .nil) (.cons (.tup (same_sqt s1 w2) .nil) (.cons (.bl _) (.cons (.int _) (.cons (.tup (same_sqt s1 w3) e7) (.cons .non (.cons .non .nil))))))), d1, by kernel_rfl, by kernel_rfl, ?_⟩
    have e : PyData.eqv (.list [.tuple [], .tuple [], .bool true, .int (-1), .tuple (List.replicate 12 (.int 7)), .none, .none]) (thD ((.lst [(.tup []), (.tup []), (.bl true), (.int (-1)), (.tup (List.replicate 12 (tl (.tup [(.int 7)]))).flatten), .non, .non]))) = true := by decide +kernel
    rw [e]
    have jw := jx.same s1
    exact q _ jw.b jw.t
end
end My

namespace My
open PySem PySem.Spec PyProof.Rows L2
def mkD {K : PySem.W.Frag} {mg : Str → Option Value} {h : Heap} {x : Str} {st : Stmt} {ps : List Str} {f : Addr} {oc : Value} {od an : Option Addr} {sl : Array (Option Value)} {kV dc pm cd ct : Value} (X : K.In h) (G : h.Ns mainGlobals mg)
    (b : ∀ (kV doc pm : Value) (an : Option Addr) (cdv ct : Value) (us : List Value), us.length = ps.length → bindArgs (PySem.W.fnOf x x (defArgs st) (defBody st) (defScope st) .none kV doc pm an cdv ct) ⟨us, []⟩ = pure (ps.zip us))
    (a : PySem.W.nsIn K mainGlobals x = some (some (.ref f))) (l : K.lookup f = some ⟨oc, od, .func (PySem.W.fnOf x x (defArgs st) (defBody st) (defScope st) .none kV dc pm an cd ct), sl⟩) (c : PySem.W.codeIn K cd x = true) (k : PySem.W.keepIn K (.ref f) = true) : Dd K mg x st ps :=
  ⟨f, _, fun_mk l c k, (fun_mk l c k).binds b, PySem.W.mg_of X G a⟩
def mkL {K : PySem.W.Frag} {mg : Str → Option Value} {h : Heap} {C f : Addr} {oc : Value} {od an : Option Addr} {sl : Array (Option Value)} {kV dc pm cd ct : Value} (X : K.In h) (G : h.Ns mainGlobals mg)
    (aC : PySem.W.nsIn K mainGlobals "Ladder" = some (some (.ref C))) (a : PySem.W.findIn K (.ref C) "__init__" = some (some (.ref f))) (i : PySem.W.isFn K (.ref f) = true)
    (l : K.lookup f = some ⟨oc, od, .func (PySem.W.fnOf "__init__" "Ladder.__init__" (defArgs sLInit) (defBody sLInit) (defScope sLInit) .none kV dc pm an cd ct), sl⟩) (c : PySem.W.codeIn K cd "Ladder.__init__" = true) (k : PySem.W.keepIn K (.ref f) = true)
    (pg : PySem.W.plainGet K C Str.empty = true) (hd : PySem.W.hasDictIn K C = true) (po : PySem.W.plainOver K C = true) (sa : PySem.W.findIn K (.ref C) "__setattr__" = some (some (.builtin "object.__setattr__"))) (mk : PySem.W.makesIn K C = true) (kc : PySem.W.keepIn K (.ref C) = true)
    (n1 : PySem.W.findIn K (.ref C) "units" = some none) (n2 : PySem.W.findIn K (.ref C) "decimals" = some none) (n3 : PySem.W.findIn K (.ref C) "rounding" = some none) (n4 : PySem.W.findIn K (.ref C) "carry" = some none) (n5 : PySem.W.findIn K (.ref C) "least" = some none) (n6 : PySem.W.findIn K (.ref C) "told" = some none) (n7 : PySem.W.findIn K (.ref C) "steps" = some none) (n8 : PySem.W.findIn K (.ref C) "thresholds" = some none)
    (i1 : PySem.W.findIn K (.ref C) "__class__" = some (some (.builtin "object.__class__"))) (i2 : PySem.W.specialIn K (.builtin "object.__class__") "__get__" = some (some (.builtin "getset_descriptor.__get__"))) (i3 : PySem.W.takesIn K (.builtin "object.__class__") = some true)
    (i4 : PySem.W.mroIn K C (.type "object") = some true) : { L : LadC K mg // LadI K L.C } :=
  ⟨⟨C, f, _, fun_mk l c k, ⟨mk, a, i, kc⟩, PySem.W.mg_of X G aC, ⟨pg, hd, po, sa⟩, n1, n2, n3, n4, n5, n6, n7, n8⟩, ⟨i1, i2, i3, i4, (by unfold PySem.W.kitOne; rw [if_pos (beq_self_eq_true _)])⟩⟩
theorem mkParts {K : PySem.W.Frag} {mg : Str → Option Value} {h : Heap} {a : Addr} {dd : Option Addr} {sl : Array (Option Value)} {n : Nat} {t1 t2 t3 t4 : Tok} (X : K.In h) (G : h.Ns mainGlobals mg) (ha : PySem.W.nsIn K mainGlobals "PARTS" = some (some (.ref a)))
    (l : K.lookup a = some ⟨.type "tuple", dd, .seq #[.int 1 t1, .int 10 t2, .int 100 t3, .int 1000 t4] n, sl⟩) : ∃ a, mg "PARTS" = some (.ref a) ∧ ∀ H, SqT K H a [.int 1, .int 10, .int 100, .int 1000] :=
  ⟨a, PySem.W.mg_of X G ha, fun H => .inr ⟨_, _, _, l, rfl, rfl, (by show 4 ≤ sizeLine; decide), .cons ⟨_, rfl⟩ (.cons ⟨_, rfl⟩ (.cons ⟨_, rfl⟩ (.cons ⟨_, rfl⟩ .nil)))⟩⟩
theorem mkRounds {K : PySem.W.Frag} {mg : Str → Option Value} {h : Heap} {a : Addr} {dd : Option Addr} {sl : Array (Option Value)} {n : Nat} {t1 t2 t3 t4 : Tok} (X : K.In h) (G : h.Ns mainGlobals mg) (ha : PySem.W.nsIn K mainGlobals "ROUNDINGS" = some (some (.ref a)))
    (l : K.lookup a = some ⟨.type "tuple", dd, .seq #[.str "down" t1, .str "up" t2, .str "near" t3, .str "even" t4] n, sl⟩) : ∃ a, mg "ROUNDINGS" = some (.ref a) ∧ ∀ H, SqT K H a [.str "down", .str "up", .str "near", .str "even"] :=
  ⟨a, PySem.W.mg_of X G ha, fun H => .inr ⟨_, _, _, l, rfl, rfl, (by show 4 ≤ sizeLine; decide), .cons ⟨_, rfl⟩ (.cons ⟨_, rfl⟩ (.cons ⟨_, rfl⟩ (.cons ⟨_, rfl⟩ .nil)))⟩⟩
theorem mkG {K : PySem.W.Frag} {mg : Str → Option Value} {h : Heap} {x : Str} {v u : Value} (X : K.In h) (G : h.Ns mainGlobals mg) (a : PySem.W.nsIn K mainGlobals x = some (some v)) (e : v = u) : mg x = some u := e ▸ PySem.W.mg_of X G a
theorem mkN {K : PySem.W.Frag} {mg : Str → Option Value} {h : Heap} {x : Str} (X : K.In h) (G : h.Ns mainGlobals mg) (a : PySem.W.nsIn K mainGlobals x = some none) : mg x = none := PySem.W.mg_none_of X G a
def mkLD {K : PySem.W.Frag} {mg : Str → Option Value} {h : Heap} {C f : Addr} {oc : Value} {od an : Option Addr} {sl : Array (Option Value)} {Dk : Addr} {dc pm cd ct uc ul : Value} (X : K.In h) (G : h.Ns mainGlobals mg)
    (aC : PySem.W.nsIn K mainGlobals "Ladder" = some (some (.ref C))) (a : PySem.W.findIn K (.ref C) "__init__" = some (some (.ref f))) (i : PySem.W.isFn K (.ref f) = true)
    (l : K.lookup f = some ⟨oc, od, .func (PySem.W.fnOf "__init__" "Ladder.__init__" (defArgs sLInit) (defBody sLInit) (defScope sLInit) .none (.ref Dk) dc pm an cd ct), sl⟩) (c : PySem.W.codeIn K cd "Ladder.__init__" = true) (k : PySem.W.keepIn K (.ref f) = true)
    (pg : PySem.W.plainGet K C Str.empty = true) (hd : PySem.W.hasDictIn K C = true) (po : PySem.W.plainOver K C = true) (sa : PySem.W.findIn K (.ref C) "__setattr__" = some (some (.builtin "object.__setattr__"))) (mk : PySem.W.makesIn K C = true) (kc : PySem.W.keepIn K (.ref C) = true)
    (n1 : PySem.W.findIn K (.ref C) "units" = some none) (n2 : PySem.W.findIn K (.ref C) "decimals" = some none) (n3 : PySem.W.findIn K (.ref C) "rounding" = some none) (n4 : PySem.W.findIn K (.ref C) "carry" = some none) (n5 : PySem.W.findIn K (.ref C) "least" = some none) (n6 : PySem.W.findIn K (.ref C) "told" = some none) (n7 : PySem.W.findIn K (.ref C) "steps" = some none) (n8 : PySem.W.findIn K (.ref C) "thresholds" = some none)
    (i1 : PySem.W.findIn K (.ref C) "__class__" = some (some (.builtin "object.__class__"))) (i2 : PySem.W.specialIn K (.builtin "object.__class__") "__get__" = some (some (.builtin "getset_descriptor.__get__"))) (i3 : PySem.W.takesIn K (.builtin "object.__class__") = some true)
    (i4 : PySem.W.mroIn K C (.type "object") = some true) (u1 : PySem.W.nsIn K Dk "carry" = some (some uc)) (r1 : RelV (.bl true) uc) (u2 : PySem.W.nsIn K Dk "least" = some (some ul)) (r2 : RelV (.int 1) ul) : { L : LadC K mg // LadI K L.C ∧ LadD K L.f L.fd } :=
  ⟨(mkL X G aC a i l c k pg hd po sa mk kc n1 n2 n3 n4 n5 n6 n7 n8 i1 i2 i3 i4).1, (mkL X G aC a i l c k pg hd po sa mk kc n1 n2 n3 n4 n5 n6 n7 n8 i1 i2 i3 i4).2, ⟨⟨_, _, _, _, _, _, _, _, _, _, rfl, l, c, .inl ⟨rfl, rfl⟩, .inr ⟨Dk, rfl, fun q hq => by
    rcases List.mem_cons.mp hq with e | hq
    · rw [e]
      exact ⟨uc, u1, r1⟩
    · rcases List.mem_cons.mp hq with e | hq
      · rw [e]
        exact ⟨ul, u2, r2⟩
      · cases hq⟩⟩, k⟩⟩
/-- all together -/
theorem all_mk {l : PySem.W.OpenLaw} {w : World} {K : PySem.W.Frag} {h : Heap} {mg : Str → Option Value} {fa : Addr} (X : K.In h) (G : h.Ns mainGlobals mg) (hfa : mg "law" = some (.ref fa))
    {fl : Addr} {oc : Value} {od an : Option Addr} {sl : Array (Option Value)} {kV dc pm cd ct : Value}
    (la : PySem.W.nsIn K mainGlobals "law" = some (some (.ref fl))) (ll : K.lookup fl = some ⟨oc, od, .func (PySem.W.fnOf "law" "law" (defArgs sLaw) (defBody sLaw) (defScope sLaw) .none kV dc pm an cd ct), sl⟩) (lc : PySem.W.codeIn K cd "law" = true) (lk : PySem.W.keepIn K (.ref fl) = true)
    {cT tT CI CL : Addr} (tabI : PySem.W.tabIn K "_law_right" = some (cT, tT)) (tabN : K.lookup tT = none) (B : Bt mg) (Gk : Gc K mg) (L : { L : LadC K mg // LadI K L.C ∧ LadD K L.f L.fd }) (gM : ∃ t, mg "MOST_DIGITS" = some (.int 24 t)) (b_repr : mg "repr" = none) (b_ValueError : mg "ValueError" = none) (b_any : mg "any" = none) (b_zip : mg "zip" = none) (c_MOST_ROWS : ∃ t, mg "MOST_ROWS" = some (.int 12 t))
    (dInteger : Dd K mg "is_integer" sInteger ["value"])
    (dWithin : Dd K mg "is_within" sWithin ["value", "low", "high"])
    (dUnit : Dd K mg "is_unit" sUnit ["unit"])
    (dUName : Dd K mg "is_unit_name" sUName ["name"])
    (dFits : Dd K mg "fits_behind" sFits ["before", "unit"])
    (dCUnits : Dd K mg "check_units" sCUnits ["units"])
    (dCDec : Dd K mg "check_decimals" sCDec ["units", "decimals"])
    (dCRnd : Dd K mg "check_rounding" sCRnd ["rounding"])
    (dWritten : Dd K mg "written" sWritten ["ladder", "place", "mark"])
    (dCLad : Dd K mg "check_ladder" sCLad ["ladder"])
    (dPFig : Dd K mg "parts_of_figure" sPFig ["ladder", "text"])
    (dPartsOf : Dd K mg "parts_of" sPartsOf ["ladder", "text"])
    (dPlaceU : Dd K mg "place_of_unit" sPlaceU ["ladder", "name"])
    (dIsMark : Dd K mg "is_mark" sIsMark ["digits"])
    (dFirstR : Dd K mg "first_rounded" sFirstR ["mark", "step", "rounding"])
    (dStartOf : Dd K mg "start_of" sStartOf ["ladder", "place"])
    (dNums : Dd K mg "numbers_shown" sNums ["ladder", "place", "mark"])
    (dRangesOf : Dd K mg "ranges_of" sRangesOf ["ladder", "texts"])
    (dCTexts : Dd K mg "check_texts" sCTexts ["ladder", "texts"])
    (dCRanges : Dd K mg "checked_ranges" sCRanges ["ladder", "texts"])
    (dRisen : Dd K mg "risen" sRisen ["ranges"])
    (dRising : Dd K mg "rising" sRising ["ladder", "texts"])
    (dLeastR : Dd K mg "least_rising" sLeastR ["ladder", "texts"])
    (dAlwaysR : Dd K mg "always_rise" sAlwaysR ["ladder", "texts"])
    (dFirstFall : Dd K mg "first_fall" sFirstFall ["ladder", "texts"])
    (dDiff : Dd K mg "difference" sDiff ["ladder", "text", "other_text"])
    (dCompd : Dd K mg "compared" sCompd ["ladder", "text", "other_text"])
    (dSpring : Dd K mg "_law_spring" sSpring ["_law_script", "_law_k"])
    (dGulp : Dd K mg "_law_gulp" sGulp ["_law_spring_here", "_law_many"])
    (dSome : Dd K mg "_law_some_of" sSome ["_law_spring_here", "_law_things"])
    (dCame : Dd K mg "_law_came_out" sCame ["_law_ask"])
    (dSample : Dd K mg "sample_ladder" sSample [])
    (dRight : Dd K mg "_law_right" sRight46 ["_law_spring_here"])
    (gI : mg "InputError" = some (.ref CI))
    (XFig : ErrS K mg "InvalidFigure" "value" "InvalidFigure.__init__" sEFig CI)
    (XTexts : ErrS K mg "InvalidTexts" "index" "InvalidTexts.__init__" sETexts CI)
    (XLad : ErrS K mg "NotALadder" "value" "NotALadder.__init__" sELad CI)
    (xFigFig : PySem.W.exmOne K (.ref XFig.T.C) (.ref XFig.T.C) = some true)
    (xFigTexts : PySem.W.exmOne K (.ref XFig.T.C) (.ref XTexts.T.C) = some false)
    (xFigLad : PySem.W.exmOne K (.ref XFig.T.C) (.ref XLad.T.C) = some false)
    (xTextsFig : PySem.W.exmOne K (.ref XTexts.T.C) (.ref XFig.T.C) = some false)
    (xTextsTexts : PySem.W.exmOne K (.ref XTexts.T.C) (.ref XTexts.T.C) = some true)
    (xTextsLad : PySem.W.exmOne K (.ref XTexts.T.C) (.ref XLad.T.C) = some false)
    (xLadFig : PySem.W.exmOne K (.ref XLad.T.C) (.ref XFig.T.C) = some false)
    (xLadTexts : PySem.W.exmOne K (.ref XLad.T.C) (.ref XTexts.T.C) = some false)
    (xLadLad : PySem.W.exmOne K (.ref XLad.T.C) (.ref XLad.T.C) = some true)
    (gCL : mg "Ladder" = some (.ref CL))
    (kO : KitO K CL)
    (hcode : dRight.fd.code = .ref cT)
    (RC : RprC K CL) :
    ∃ (fd : FuncData) (c T : Addr), PySem.W.tabIn K "_law_right" = some (c, T) ∧ K.lookup T = none ∧ (∀ (s : Shared) (v : Value), BindsTo s fd ⟨[v], []⟩ [("_law_script", v)]) ∧ ∀ base : Heap, K.In base → base.Ns mainGlobals mg → LamX.TabB base mg c T → FnG l.prog w K mg base 13 fa fd ["_law_script"] (spLawT K T) := by
  have e := hfa.symm.trans (PySem.W.mg_of X G la)
  cases e
  obtain ⟨L, I, LD⟩ := L
  refine ⟨_, cT, tT, tabI, tabN, fun s v => .of_eq rfl, fun base _ _ TB => ok_lawT (kR := 10) (fun_mk (st := sLaw) ll lc lk) dSpring.F dSpring.b dSpring.g dRight.F.kp ?_ dRight.b dRight.g B⟩
  obtain rfl : L.C = CL := by
    have := L.g.symm.trans gCL
    cases this
    rfl
  have GLI := ok_linit (P := l.prog) (w := w) (base := base) L dCUnits dUnit dUName ⟨dWithin, dInteger⟩ dFits dCDec dCRnd B Gk
  have GSa := ok_sample (P := l.prog) (w := w) (base := base) dSample L LD GLI
  have GPT := ok_partsT (P := l.prog) (w := w) (base := base) dPartsOf dPlaceU dIsMark dWritten L I kO B Gk gM
  have GC := ok_clad (P := l.prog) (w := w) (base := base) dCLad L I B
  have GCX := ok_cladX (P := l.prog) (w := w) (base := base) XLad.T dCLad L I kO B
  have GPX := ok_pfigX (P := l.prog) (w := w) (base := base) XFig.T dPFig dPartsOf L GPT
  have GPO := ok_partsof (P := l.prog) (w := w) (base := base) dPartsOf dPlaceU dIsMark dWritten L B Gk gM
  have GF := ok_pfig (P := l.prog) (w := w) (base := base) dPFig dPartsOf GPO
  have GNu := ok_nums (P := l.prog) (w := w) (base := base) dNums dStartOf dFirstR L B
  have GRS := ok_rangesof (P := l.prog) (w := w) (base := base) dRangesOf dPartsOf dNums GPO GNu
  have GCT := ok_ctexts (P := l.prog) (w := w) (base := base) dCTexts dPartsOf B c_MOST_ROWS GPO
  have GCR := ok_cranges (P := l.prog) (w := w) (base := base) dCRanges dCLad dCTexts dRangesOf GC GCT GRS
  have GX := ok_rising (P := l.prog) (w := w) (base := base) dRising dCRanges dRisen GCR (ok_risen dRisen B b_any)
  have GTX := ok_ctextsX (P := l.prog) (w := w) (base := base) XTexts.T dCTexts dPartsOf L I kO B c_MOST_ROWS GPT
  have GDX := ok_diffX (P := l.prog) (w := w) (base := base) dDiff dCLad dPFig L GC GF GCX GPX
  have GRX := ok_crangesX (P := l.prog) (w := w) (base := base) dCRanges dCLad dCTexts L GC GCX GTX
  have GRiX := ok_risingX (P := l.prog) (w := w) (base := base) dRising dCRanges L GRX
  refine ok_right dRight hcode TB dGulp dSome dCame dSample dDiff dCompd dRising dLeastR dAlwaysR dFirstFall L RC B b_repr b_ValueError gI XFig.toT XTexts.toT XLad.toT ?_ GSa (GDX.mono (by decide)) ((ok_compdX dCompd dDiff L GDX).mono (by decide)) (GRiX.mono (by decide)) ((ok_leastrX dLeastR dRising L GRiX).mono (by decide)) ((ok_alwaysrX dAlwaysR dCRanges L GRX).mono (by decide)) ((ok_firstfallX dFirstFall dCRanges L GRX).mono (by decide))
    (GX.mono (by decide)) (ok_leastr dLeastR dRising B GX) ((ok_alwaysr dAlwaysR dCRanges B b_zip GCR).mono (by decide)) ((ok_firstfall dFirstFall dCRanges B GCR).mono (by decide))
  refine ⟨fun c hc => ?_, fun c hc => ?_, fun c hc c' hc' => ?_, fun c hc c' hc' e => ?_⟩
  · simp only [List.mem_cons, List.not_mem_nil, or_false] at hc
    rcases hc with rfl | rfl | rfl
    · exact XFig.iE
    · exact XTexts.iE
    · exact XLad.iE
  · simp only [List.mem_cons, List.not_mem_nil, or_false] at hc
    rcases hc with rfl | rfl | rfl
    · exact XFig.vE
    · exact XTexts.vE
    · exact XLad.vE
  · simp only [List.mem_cons, List.not_mem_nil, or_false] at hc hc'
    rcases hc with rfl | rfl | rfl <;> rcases hc' with rfl | rfl | rfl
    · exact xFigFig
    · exact xFigTexts
    · exact xFigLad
    · exact xTextsFig
    · exact xTextsTexts
    · exact xTextsLad
    · exact xLadFig
    · exact xLadTexts
    · exact xLadLad
  · simp only [List.mem_cons, List.not_mem_nil, or_false] at hc hc'
    rcases hc with rfl | rfl | rfl <;> rcases hc' with rfl | rfl | rfl
    · rfl
    · exact absurd (show (("InvalidFigure" : Str) == "InvalidTexts") = true from e) (by decide +kernel)
    · exact absurd (show (("InvalidFigure" : Str) == "NotALadder") = true from e) (by decide +kernel)
    · exact absurd (show (("InvalidTexts" : Str) == "InvalidFigure") = true from e) (by decide +kernel)
    · rfl
    · exact absurd (show (("InvalidTexts" : Str) == "NotALadder") = true from e) (by decide +kernel)
    · exact absurd (show (("NotALadder" : Str) == "InvalidFigure") = true from e) (by decide +kernel)
    · exact absurd (show (("NotALadder" : Str) == "InvalidTexts") = true from e) (by decide +kernel)
    · rfl
end My

open PySem PySem.W PyProof.Rows
set_option maxRecDepth 100000 in
set_option maxHeartbeats 0 in
theorem PySem.Challenge.cw_shortfigures_k46_changes_refused_holds : PySem.Challenge.rw_shortfigures_k46_changes_refused.Holds := by
  w_on; o_law; k_head; (case hw => w_witness2)
  k_fill
  refine HT1.walk_T (maker := "_law_right") (l := PySem.Challenge.rw_shortfigures_k46_changes_refused) (n := 63) (k := 13) (x := "_law_script") (sp := fun w T => My.spLawT _ T) rfl (by decide) rfl ⟨rfl, by decide, by decide⟩ (fun w h Y => PySem.W.km_in_of Y) ?R ?F (fun _ T M a ns hl hM hS => ⟨a, ns, rfl, hS, hl, My.tabs_start hM, fun _ => rfl⟩)
  case R => decide +kernel
  case F =>
    intro w mg fa h KX G hmg
    refine' My.all_mk KX G hmg ?la ?ll ?lc ?lk ?ti ?tn ⟨My.mkN KX G ?b0, My.mkN KX G ?b1, My.mkN KX G ?b2, My.mkN KX G ?b3, My.mkN KX G ?b4, My.mkN KX G ?b5, My.mkN KX G ?b6, My.mkN KX G ?b7, My.mkN KX G ?b8, My.mkN KX G ?b9, My.mkN KX G ?b10, My.mkN KX G ?b11, My.mkN KX G ?b12⟩ ⟨⟨_, My.mkG KX G ?g1 ?e1⟩, ⟨_, My.mkG KX G ?g2 ?e2⟩, ⟨_, My.mkG KX G ?g3 ?e3⟩, ⟨_, My.mkG KX G ?g4 ?e4⟩, ⟨_, My.mkG KX G ?g5 ?e5⟩, ⟨_, My.mkG KX G ?g6 ?e6⟩, My.mkParts KX G ?g7 ?g8, My.mkRounds KX G ?g9 ?g10⟩
      (My.mkLD KX G ?LaC ?La ?Li ?Ll ?Lc ?Lk ?Lpg ?Lhd ?Lpo ?Lsa ?Lmk ?Lkc ?Ln1 ?Ln2 ?Ln3 ?Ln4 ?Ln5 ?Ln6 ?Ln7 ?Ln8 ?Li1 ?Li2 ?Li3 ?Li4 ?Lu1 ?Lr1 ?Lu2 ?Lr2)
      ⟨_, My.mkG KX G ?gm ?em⟩
      (My.mkN KX G ?b_repr)
      (My.mkN KX G ?b_ValueError)
      (My.mkN KX G ?b_any)
      (My.mkN KX G ?b_zip)
      ⟨_, My.mkG KX G ?c_MOST_ROWS ?ce_MOST_ROWS⟩
      (My.mkD (x := "is_integer") (st := My.sInteger) (ps := ["value"]) KX G (fun _ _ _ _ _ _ us hl => match us, hl with | [_], _ => rfl) ?adInteger ?ldInteger ?cdInteger ?kdInteger)
      (My.mkD (x := "is_within") (st := My.sWithin) (ps := ["value", "low", "high"]) KX G (fun _ _ _ _ _ _ us hl => match us, hl with | [_, _, _], _ => rfl) ?adWithin ?ldWithin ?cdWithin ?kdWithin)
      (My.mkD (x := "is_unit") (st := My.sUnit) (ps := ["unit"]) KX G (fun _ _ _ _ _ _ us hl => match us, hl with | [_], _ => rfl) ?adUnit ?ldUnit ?cdUnit ?kdUnit)
      (My.mkD (x := "is_unit_name") (st := My.sUName) (ps := ["name"]) KX G (fun _ _ _ _ _ _ us hl => match us, hl with | [_], _ => rfl) ?adUName ?ldUName ?cdUName ?kdUName)
      (My.mkD (x := "fits_behind") (st := My.sFits) (ps := ["before", "unit"]) KX G (fun _ _ _ _ _ _ us hl => match us, hl with | [_, _], _ => rfl) ?adFits ?ldFits ?cdFits ?kdFits)
      (My.mkD (x := "check_units") (st := My.sCUnits) (ps := ["units"]) KX G (fun _ _ _ _ _ _ us hl => match us, hl with | [_], _ => rfl) ?adCUnits ?ldCUnits ?cdCUnits ?kdCUnits)
      (My.mkD (x := "check_decimals") (st := My.sCDec) (ps := ["units", "decimals"]) KX G (fun _ _ _ _ _ _ us hl => match us, hl with | [_, _], _ => rfl) ?adCDec ?ldCDec ?cdCDec ?kdCDec)
      (My.mkD (x := "check_rounding") (st := My.sCRnd) (ps := ["rounding"]) KX G (fun _ _ _ _ _ _ us hl => match us, hl with | [_], _ => rfl) ?adCRnd ?ldCRnd ?cdCRnd ?kdCRnd)
      (My.mkD (x := "written") (st := My.sWritten) (ps := ["ladder", "place", "mark"]) KX G (fun _ _ _ _ _ _ us hl => match us, hl with | [_, _, _], _ => rfl) ?adWritten ?ldWritten ?cdWritten ?kdWritten)
      (My.mkD (x := "check_ladder") (st := My.sCLad) (ps := ["ladder"]) KX G (fun _ _ _ _ _ _ us hl => match us, hl with | [_], _ => rfl) ?adCLad ?ldCLad ?cdCLad ?kdCLad)
      (My.mkD (x := "parts_of_figure") (st := My.sPFig) (ps := ["ladder", "text"]) KX G (fun _ _ _ _ _ _ us hl => match us, hl with | [_, _], _ => rfl) ?adPFig ?ldPFig ?cdPFig ?kdPFig)
      (My.mkD (x := "parts_of") (st := My.sPartsOf) (ps := ["ladder", "text"]) KX G (fun _ _ _ _ _ _ us hl => match us, hl with | [_, _], _ => rfl) ?adPartsOf ?ldPartsOf ?cdPartsOf ?kdPartsOf)
      (My.mkD (x := "place_of_unit") (st := My.sPlaceU) (ps := ["ladder", "name"]) KX G (fun _ _ _ _ _ _ us hl => match us, hl with | [_, _], _ => rfl) ?adPlaceU ?ldPlaceU ?cdPlaceU ?kdPlaceU)
      (My.mkD (x := "is_mark") (st := My.sIsMark) (ps := ["digits"]) KX G (fun _ _ _ _ _ _ us hl => match us, hl with | [_], _ => rfl) ?adIsMark ?ldIsMark ?cdIsMark ?kdIsMark)
      (My.mkD (x := "first_rounded") (st := My.sFirstR) (ps := ["mark", "step", "rounding"]) KX G (fun _ _ _ _ _ _ us hl => match us, hl with | [_, _, _], _ => rfl) ?adFirstR ?ldFirstR ?cdFirstR ?kdFirstR)
      (My.mkD (x := "start_of") (st := My.sStartOf) (ps := ["ladder", "place"]) KX G (fun _ _ _ _ _ _ us hl => match us, hl with | [_, _], _ => rfl) ?adStartOf ?ldStartOf ?cdStartOf ?kdStartOf)
      (My.mkD (x := "numbers_shown") (st := My.sNums) (ps := ["ladder", "place", "mark"]) KX G (fun _ _ _ _ _ _ us hl => match us, hl with | [_, _, _], _ => rfl) ?adNums ?ldNums ?cdNums ?kdNums)
      (My.mkD (x := "ranges_of") (st := My.sRangesOf) (ps := ["ladder", "texts"]) KX G (fun _ _ _ _ _ _ us hl => match us, hl with | [_, _], _ => rfl) ?adRangesOf ?ldRangesOf ?cdRangesOf ?kdRangesOf)
      (My.mkD (x := "check_texts") (st := My.sCTexts) (ps := ["ladder", "texts"]) KX G (fun _ _ _ _ _ _ us hl => match us, hl with | [_, _], _ => rfl) ?adCTexts ?ldCTexts ?cdCTexts ?kdCTexts)
      (My.mkD (x := "checked_ranges") (st := My.sCRanges) (ps := ["ladder", "texts"]) KX G (fun _ _ _ _ _ _ us hl => match us, hl with | [_, _], _ => rfl) ?adCRanges ?ldCRanges ?cdCRanges ?kdCRanges)
      (My.mkD (x := "risen") (st := My.sRisen) (ps := ["ranges"]) KX G (fun _ _ _ _ _ _ us hl => match us, hl with | [_], _ => rfl) ?adRisen ?ldRisen ?cdRisen ?kdRisen)
      (My.mkD (x := "rising") (st := My.sRising) (ps := ["ladder", "texts"]) KX G (fun _ _ _ _ _ _ us hl => match us, hl with | [_, _], _ => rfl) ?adRising ?ldRising ?cdRising ?kdRising)
      (My.mkD (x := "least_rising") (st := My.sLeastR) (ps := ["ladder", "texts"]) KX G (fun _ _ _ _ _ _ us hl => match us, hl with | [_, _], _ => rfl) ?adLeastR ?ldLeastR ?cdLeastR ?kdLeastR)
      (My.mkD (x := "always_rise") (st := My.sAlwaysR) (ps := ["ladder", "texts"]) KX G (fun _ _ _ _ _ _ us hl => match us, hl with | [_, _], _ => rfl) ?adAlwaysR ?ldAlwaysR ?cdAlwaysR ?kdAlwaysR)
      (My.mkD (x := "first_fall") (st := My.sFirstFall) (ps := ["ladder", "texts"]) KX G (fun _ _ _ _ _ _ us hl => match us, hl with | [_, _], _ => rfl) ?adFirstFall ?ldFirstFall ?cdFirstFall ?kdFirstFall)
      (My.mkD (x := "difference") (st := My.sDiff) (ps := ["ladder", "text", "other_text"]) KX G (fun _ _ _ _ _ _ us hl => match us, hl with | [_, _, _], _ => rfl) ?adDiff ?ldDiff ?cdDiff ?kdDiff)
      (My.mkD (x := "compared") (st := My.sCompd) (ps := ["ladder", "text", "other_text"]) KX G (fun _ _ _ _ _ _ us hl => match us, hl with | [_, _, _], _ => rfl) ?adCompd ?ldCompd ?cdCompd ?kdCompd)
      (My.mkD (x := "_law_spring") (st := My.sSpring) (ps := ["_law_script", "_law_k"]) KX G (fun _ _ _ _ _ _ us hl => match us, hl with | [_, _], _ => rfl) ?adSpring ?ldSpring ?cdSpring ?kdSpring)
      (My.mkD (x := "_law_gulp") (st := My.sGulp) (ps := ["_law_spring_here", "_law_many"]) KX G (fun _ _ _ _ _ _ us hl => match us, hl with | [_, _], _ => rfl) ?adGulp ?ldGulp ?cdGulp ?kdGulp)
      (My.mkD (x := "_law_some_of") (st := My.sSome) (ps := ["_law_spring_here", "_law_things"]) KX G (fun _ _ _ _ _ _ us hl => match us, hl with | [_, _], _ => rfl) ?adSome ?ldSome ?cdSome ?kdSome)
      (My.mkD (x := "_law_came_out") (st := My.sCame) (ps := ["_law_ask"]) KX G (fun _ _ _ _ _ _ us hl => match us, hl with | [_], _ => rfl) ?adCame ?ldCame ?cdCame ?kdCame)
      (My.mkD (x := "sample_ladder") (st := My.sSample) (ps := []) KX G (fun _ _ _ _ _ _ us hl => match us, hl with | [], _ => rfl) ?adSample ?ldSample ?cdSample ?kdSample)
      (My.mkD (x := "_law_right") (st := My.sRight46) (ps := ["_law_spring_here"]) KX G (fun _ _ _ _ _ _ us hl => match us, hl with | [_], _ => rfl) ?adRight ?ldRight ?cdRight ?kdRight)
      (My.mkG KX G ?gI ?gIe)
      (My.mkES (nm := "InvalidFigure") (fd := "value") (ql := "InvalidFigure.__init__") (ini := My.sEFig) KX G (fun _ _ _ _ _ _ us hl => match us, hl with | [_, _], _ => rfl) ?aCFig ?xLFig ?xVFig ?saFig ?exCFig ?tyCFig ?kCFig ?gaFig ?ggFig ?hdFig ?iCFig ?tIFig ?noFig ?lFig ?cFig ?kFig ?haFig ?hnFig ?htFig ?hmFig ?iEFig ?vEFig ?xEFig)
      (My.mkES (nm := "InvalidTexts") (fd := "index") (ql := "InvalidTexts.__init__") (ini := My.sETexts) KX G (fun _ _ _ _ _ _ us hl => match us, hl with | [_, _], _ => rfl) ?aCTexts ?xLTexts ?xVTexts ?saTexts ?exCTexts ?tyCTexts ?kCTexts ?gaTexts ?ggTexts ?hdTexts ?iCTexts ?tITexts ?noTexts ?lTexts ?cTexts ?kTexts ?haTexts ?hnTexts ?htTexts ?hmTexts ?iETexts ?vETexts ?xETexts)
      (My.mkES (nm := "NotALadder") (fd := "value") (ql := "NotALadder.__init__") (ini := My.sELad) KX G (fun _ _ _ _ _ _ us hl => match us, hl with | [_, _], _ => rfl) ?aCLad ?xLLad ?xVLad ?saLad ?exCLad ?tyCLad ?kCLad ?gaLad ?ggLad ?hdLad ?iCLad ?tILad ?noLad ?lLad ?cLad ?kLad ?haLad ?hnLad ?htLad ?hmLad ?iELad ?vELad ?xELad)
      ?qFigFig
      ?qFigTexts
      ?qFigLad
      ?qTextsFig
      ?qTextsTexts
      ?qTextsLad
      ?qLadFig
      ?qLadTexts
      ?qLadLad
      (My.mkG KX G ?gCL ?gCLe)
      (My.mkKO ?koa1 ?koa2 ?koa3 ?koa4 ?kob1 ?kob2 ?kob3 ?kob4 ?kob5 ?kob6 ?kob7)
      rfl
      (My.mkRpr (fun _ _ _ _ _ _ us hl => match us, hl with | [_], _ => rfl) ?rpA ?rpI ?rpL ?rpC ?rpK)
    (case la => k_is); (case ll => k_is); (case lc => k_is); (case lk => k_is)
    (case b0 => k_is); (case b1 => k_is); (case b2 => k_is); (case b3 => k_is); (case b4 => k_is); (case b5 => k_is); (case b6 => k_is); (case b7 => k_is); (case b8 => k_is); (case b9 => k_is); (case b10 => k_is); (case b11 => k_is); (case b12 => k_is)
    (case g1 => k_is); (case g2 => k_is); (case g3 => k_is); (case g4 => k_is); (case g5 => k_is); (case g6 => k_is); (case g7 => k_is); (case g8 => k_is); (case g9 => k_is); (case g10 => k_is)
    (case e1 => exact rfl); (case e2 => exact rfl); (case e3 => exact rfl); (case e4 => exact rfl); (case e5 => exact rfl); (case e6 => exact rfl)
    (case LaC => k_is); (case La => k_is); (case Li => k_is); (case Ll => k_is); (case Lc => k_is); (case Lk => k_is); (case Lpg => k_is); (case Lhd => k_is); (case Lpo => k_is); (case Lsa => k_is); (case Lmk => k_is); (case Lkc => k_is); (case Ln1 => k_is); (case Ln2 => k_is); (case Ln3 => k_is); (case Ln4 => k_is); (case Ln5 => k_is); (case Ln6 => k_is); (case Ln7 => k_is); (case Ln8 => k_is); (case Li1 => k_is); (case Li2 => k_is); (case Li3 => k_is); (case Li4 => k_is)
    (case ti => first | k_is | rfl | decide +kernel); (case tn => first | k_is | rfl)
    (case Lu1 => k_is); (case Lr1 => first | exact rfl | exact ⟨_, rfl⟩ | constructor); (case Lu2 => k_is); (case Lr2 => first | exact rfl | exact ⟨_, rfl⟩ | constructor)
    (case gm => k_is); (case em => exact rfl)
    (case b_repr => k_is)
    (case b_ValueError => k_is)
    (case b_any => k_is)
    (case b_zip => k_is)
    (case c_MOST_ROWS => k_is); (case ce_MOST_ROWS => exact rfl)
    (case adInteger => k_is); (case ldInteger => k_is); (case cdInteger => k_is); (case kdInteger => k_is)
    (case adWithin => k_is); (case ldWithin => k_is); (case cdWithin => k_is); (case kdWithin => k_is)
    (case adUnit => k_is); (case ldUnit => k_is); (case cdUnit => k_is); (case kdUnit => k_is)
    (case adUName => k_is); (case ldUName => k_is); (case cdUName => k_is); (case kdUName => k_is)
    (case adFits => k_is); (case ldFits => k_is); (case cdFits => k_is); (case kdFits => k_is)
    (case adCUnits => k_is); (case ldCUnits => k_is); (case cdCUnits => k_is); (case kdCUnits => k_is)
    (case adCDec => k_is); (case ldCDec => k_is); (case cdCDec => k_is); (case kdCDec => k_is)
    (case adCRnd => k_is); (case ldCRnd => k_is); (case cdCRnd => k_is); (case kdCRnd => k_is)
    (case adWritten => k_is); (case ldWritten => k_is); (case cdWritten => k_is); (case kdWritten => k_is)
    (case adCLad => k_is); (case ldCLad => k_is); (case cdCLad => k_is); (case kdCLad => k_is)
    (case adPFig => k_is); (case ldPFig => k_is); (case cdPFig => k_is); (case kdPFig => k_is)
    (case adPartsOf => k_is); (case ldPartsOf => k_is); (case cdPartsOf => k_is); (case kdPartsOf => k_is)
    (case adPlaceU => k_is); (case ldPlaceU => k_is); (case cdPlaceU => k_is); (case kdPlaceU => k_is)
    (case adIsMark => k_is); (case ldIsMark => k_is); (case cdIsMark => k_is); (case kdIsMark => k_is)
    (case adFirstR => k_is); (case ldFirstR => k_is); (case cdFirstR => k_is); (case kdFirstR => k_is)
    (case adStartOf => k_is); (case ldStartOf => k_is); (case cdStartOf => k_is); (case kdStartOf => k_is)
    (case adNums => k_is); (case ldNums => k_is); (case cdNums => k_is); (case kdNums => k_is)
    (case adRangesOf => k_is); (case ldRangesOf => k_is); (case cdRangesOf => k_is); (case kdRangesOf => k_is)
    (case adCTexts => k_is); (case ldCTexts => k_is); (case cdCTexts => k_is); (case kdCTexts => k_is)
    (case adCRanges => k_is); (case ldCRanges => k_is); (case cdCRanges => k_is); (case kdCRanges => k_is)
    (case adRisen => k_is); (case ldRisen => k_is); (case cdRisen => k_is); (case kdRisen => k_is)
    (case adRising => k_is); (case ldRising => k_is); (case cdRising => k_is); (case kdRising => k_is)
    (case adLeastR => k_is); (case ldLeastR => k_is); (case cdLeastR => k_is); (case kdLeastR => k_is)
    (case adAlwaysR => k_is); (case ldAlwaysR => k_is); (case cdAlwaysR => k_is); (case kdAlwaysR => k_is)
    (case adFirstFall => k_is); (case ldFirstFall => k_is); (case cdFirstFall => k_is); (case kdFirstFall => k_is)
    (case adDiff => k_is); (case ldDiff => k_is); (case cdDiff => k_is); (case kdDiff => k_is)
    (case adCompd => k_is); (case ldCompd => k_is); (case cdCompd => k_is); (case kdCompd => k_is)
    (case adSpring => k_is); (case ldSpring => k_is); (case cdSpring => k_is); (case kdSpring => k_is)
    (case adGulp => k_is); (case ldGulp => k_is); (case cdGulp => k_is); (case kdGulp => k_is)
    (case adSome => k_is); (case ldSome => k_is); (case cdSome => k_is); (case kdSome => k_is)
    (case adCame => k_is); (case ldCame => k_is); (case cdCame => k_is); (case kdCame => k_is)
    (case adSample => k_is); (case ldSample => k_is); (case cdSample => k_is); (case kdSample => k_is)
    (case adRight => k_is); (case ldRight => k_is); (case cdRight => k_is); (case kdRight => k_is)
    (case gI => k_is); (case gIe => exact rfl)
    (case aCFig => k_is); (case xLFig => k_is); (case xVFig => decide +kernel); (case saFig => k_is); (case exCFig => k_is); (case tyCFig => k_is); (case kCFig => k_is); (case gaFig => k_is); (case ggFig => k_is); (case hdFig => k_is); (case iCFig => k_is); (case tIFig => k_is); (case noFig => k_is); (case lFig => k_is); (case cFig => k_is); (case kFig => k_is); (case haFig => k_is); (case hnFig => k_is); (case htFig => k_is); (case hmFig => k_is); (case iEFig => first | k_is | rfl); (case vEFig => first | k_is | rfl); (case xEFig => first | k_is | rfl)
    (case aCTexts => k_is); (case xLTexts => k_is); (case xVTexts => decide +kernel); (case saTexts => k_is); (case exCTexts => k_is); (case tyCTexts => k_is); (case kCTexts => k_is); (case gaTexts => k_is); (case ggTexts => k_is); (case hdTexts => k_is); (case iCTexts => k_is); (case tITexts => k_is); (case noTexts => k_is); (case lTexts => k_is); (case cTexts => k_is); (case kTexts => k_is); (case haTexts => k_is); (case hnTexts => k_is); (case htTexts => k_is); (case hmTexts => k_is); (case iETexts => first | k_is | rfl); (case vETexts => first | k_is | rfl); (case xETexts => first | k_is | rfl)
    (case aCLad => k_is); (case xLLad => k_is); (case xVLad => decide +kernel); (case saLad => k_is); (case exCLad => k_is); (case tyCLad => k_is); (case kCLad => k_is); (case gaLad => k_is); (case ggLad => k_is); (case hdLad => k_is); (case iCLad => k_is); (case tILad => k_is); (case noLad => k_is); (case lLad => k_is); (case cLad => k_is); (case kLad => k_is); (case haLad => k_is); (case hnLad => k_is); (case htLad => k_is); (case hmLad => k_is); (case iELad => first | k_is | rfl); (case vELad => first | k_is | rfl); (case xELad => first | k_is | rfl)
    (case qFigFig => first | k_is | rfl)
    (case qFigTexts => first | k_is | rfl)
    (case qFigLad => first | k_is | rfl)
    (case qTextsFig => first | k_is | rfl)
    (case qTextsTexts => first | k_is | rfl)
    (case qTextsLad => first | k_is | rfl)
    (case qLadFig => first | k_is | rfl)
    (case qLadTexts => first | k_is | rfl)
    (case qLadLad => first | k_is | rfl)
    (case gCL => k_is); (case gCLe => exact rfl)
    (case koa1 => first | k_is | rfl); (case koa2 => first | k_is | rfl); (case koa3 => first | k_is | rfl); (case koa4 => first | k_is | rfl); (case kob1 => first | k_is | rfl); (case kob2 => first | k_is | rfl); (case kob3 => first | k_is | rfl); (case kob4 => first | k_is | rfl); (case kob5 => first | k_is | rfl); (case kob6 => first | k_is | rfl); (case kob7 => first | k_is | rfl)
    (case rpA => k_is); (case rpI => k_is); (case rpL => k_is); (case rpC => k_is); (case rpK => k_is)
