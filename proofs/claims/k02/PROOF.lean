import PyProof.Rows.All
import Wide.All
import OpenK.AllK
import Wide.FinOn
import HandS.ForMost
import HandS.Wide
import HandS.WideBits
import HandS.MakeKwOnly
import HandS.Defaults
import HandS.StrMore
import HandS.IsInst
import HandS.TupAny
import HandS.Flow
import KE.GoesMore
import KE.GoesEnum
import HandS.Conv
import HandS.Evl
import KE.KIntText
import HandS.Text
import HandS.Style
import HandS.ReplaceList
import HandS.ReplaceLit
import HandS.ReplaceDef
import KE.GoesZip
import KE.DataMinMax
import HandS.SortKw
import HandS.Ends
import PyProof.StrLawsRepr
import HandS.RaiseMore
import HandS.ExcInit
import HandS.ExcField
import HandS.WordsExc
import HandS.TryOnly
import HandS.TryMany
import HandS.ExcIs
import HandS.Lambda
import HandS.EndTab
import KE.KNestM
import HandS.TupMul
import HandS.Dict
import HandS.FromBytesMap
import HandS.FStr
import PySem.Challenge.RW_shortfigures_k02_ladders_made
set_option Elab.async false
set_option linter.all false
set_option maxRecDepth 100000
set_option maxHeartbeats 4000000
namespace My
open PySem PySem.Spec PyProof.Rows L2

/-! ### the text by places -/
def top (i : Nat) : Stmt := PySem.Challenge.pw_shortfigures_k02_ladders_made.main.body.getD i (.Pass ⟨0, 0, 0, 0⟩)
abbrev sSpring : Stmt := top 28
abbrev sGulp : Stmt := top 29
abbrev sSome : Stmt := top 30
theorem scGulp : FnScope ["_law_spring_here", "_law_many", "_law_digit"] ["_law_spring_here", "_law_many"] (defScope sGulp) := ⟨rfl, rfl, rfl, by decide +kernel, rfl, by decide +kernel, by decide +kernel⟩
theorem scSome : FnScope ["_law_spring_here", "_law_things"] ["_law_spring_here", "_law_things"] (defScope sSome) := ⟨rfl, rfl, rfl, by decide +kernel, rfl, by decide +kernel, by decide +kernel⟩
theorem scSpring : FnScope ["_law_script", "_law_k", "_law_own", "_law_mixed", "_law_entry"] ["_law_script", "_law_k"] (defScope sSpring) := ⟨rfl, rfl, rfl, by decide +kernel, rfl, by decide +kernel, by decide +kernel⟩

/-! ### heaps -/
/-- all that was tracked stands, but a -/
def But (a : Addr) (H H' : Hp) : Prop := ∀ b o, H b = some o → b ≠ a → H' b = some o
theorem But.refl (a : Addr) (H : Hp) : But a H H := fun _ _ e _ => e
theorem But.trans {a : Addr} {H H1 H2 : Hp} (x : But a H H1) (y : But a H1 H2) : But a H H2 := fun b o e n => y b o (x b o e n) n
theorem Same.but {a : Addr} {H H1 : Hp} (x : Same H H1) : But a H H1 := fun b o e _ => x b o e
theorem But.upd (a : Addr) (H : Hp) (o : HO) : But a H (upd H a o) := fun b _ e n => by rw [upd_ne n]; exact e
theorem same_upd {H : Hp} {p : Addr} {o : HO} (h : H p = none) : Same H (upd H p o) := fun b x e => by
  rw [upd_ne (ne_of_none e h)]
  exact e
theorem Same.refl (H : Hp) : Same H H := fun _ _ e => e
/-- a spring: a list of three ints -/
def Spr (H : Hp) (a : Addr) : Prop := ∃ x y z : Int, H a = some (.lst [.int x, .int y, .int z])
theorem Spr.same {H H1 : Hp} {a : Addr} (s : Spr H a) (k : Same H H1) : Spr H1 a := by
  obtain ⟨x, y, z, e⟩ := s
  exact ⟨x, y, z, k _ _ e⟩
theorem But.new {a p : Addr} {H H1 : Hp} {o : HO} (x : But a H H1) (h : H1 p = none) : But a H (L2.upd H1 p o) := x.trans (Same.but (same_upd h))
/-! ### promises -/
def spGulp : Sp := fun vs H Q _ => ∃ (a : Addr) (m : Int), vs = [.ref a, .int m] ∧ Spr H a ∧ 0 < m ∧ m.natAbs < 2 ^ 64 ∧
  ∀ (r : Int) (H' : Hp), 0 ≤ r → r < m → Spr H' a → But a H H' → Q (.int r) H'
def spSome (K : PySem.W.Frag) : Sp := fun vs H Q _ => ∃ (a t : Addr) (xs : List V), vs = [.ref a, .ref t] ∧ Spr H a ∧ (SqL K H t xs ∨ SqT K H t xs) ∧ t ≠ a ∧ xs ≠ [] ∧ xs.length < 1000 ∧
  ∀ (v : V) (H' : Hp), v ∈ xs → Spr H' a → But a H H' → Q v H'
theorem divp_small (i : Int) {j : Int} (h : 0 < j) (hj : j.natAbs < 2 ^ 64) : CDivP i j := ⟨h, PyProof.noPylong_of_log2 (Nat.lt_of_lt_of_le (PySem.Flt.log2_lt_of (by decide) hj) (by decide))⟩
theorem but_sql {K : PySem.W.Frag} {a t : Addr} {xs : List V} {H H' : Hp} (b : But a H H') (n : t ≠ a) (h : SqL K H t xs) : SqL K H' t xs := by
  rcases h with (h | ⟨o, h⟩) | h
  · exact .inl (.inl (b _ _ h n))
  · exact .inl (.inr ⟨o, b _ _ h n⟩)
  · exact .inr h
theorem but_sqt {K : PySem.W.Frag} {a t : Addr} {xs : List V} {H H' : Hp} (b : But a H H') (n : t ≠ a) (h : SqT K H t xs) : SqT K H' t xs := by
  rcases h with (h | ⟨o, h⟩) | h
  · exact .inl (.inl (b _ _ h n))
  · exact .inl (.inr ⟨o, b _ _ h n⟩)
  · exact .inr h
/-- what the walk asks of built-ins -/
structure Bt (mg : Str → Option Value) : Prop where
  len : mg "len" = none
  int : mg "int" = none
  divmod : mg "divmod" = none
  abs : mg "abs" = none
  all : mg "all" = none
  range : mg "range" = none
  max : mg "max" = none
  min : mg "min" = none
  str : mg "str" = none
  tuple : mg "tuple" = none
  isinstance : mg "isinstance" = none
  enumerate : mg "enumerate" = none
  bool : mg "bool" = none
section
variable {P : Program} {w : World} {K : PySem.W.Frag} {mg : Str → Option Value} {base : Heap}
theorem ok_gulp {f : Addr} {fd : FuncData} (F : Fun K "_law_gulp" "_law_gulp" sGulp f fd) (B : Bt mg) : FnOk P w K mg base CX0 2 f fd ["_law_spring_here", "_law_many"] spGulp := by
  refine F.ok scGulp (fun vs H Q E h => ?_) (fun cdv A outer s H vs Q E hr h => ?_)
  · obtain ⟨a, m, rfl, _⟩ := h
    rfl
  · obtain ⟨a, m, rfl, ⟨x, y, z, ha⟩, hm, hm2, k⟩ := h
    refine ⟨_, pss_cons (ps_asg (pe_op op_add (pe_ix ix_list (pv 0) pe_int (fun _ _ => rfl)) pe_int) (pg_sub (pv 0) pe_int set_list))
      (pss_cons (ps_if (pt_cmpR op_gt (pe_ix ix_list (pv 0) pe_int (fun _ _ => rfl)) pe_int (nomark _))
        (pss_cons (ps_asg (pe_callB call_divmodW (by rfl) B.divmod (by decide +kernel) (pa_cons (pe_callTy call_int1 (by rfl) B.int (by decide +kernel) (pa_cons (pe_ix ix_list (pv 0) pe_int (fun _ _ => rfl)) pa_nil)) (pa_cons (pv 1) pa_nil)))
            (pg_tup rfl (pgs_cons (pg_sub (pv 0) pe_int set_list) (pgs_cons (pg_name (i := 2) scGulp.nd rfl (.inl rfl)) pgs_nil))))
          (pss_one (ps_ret (pv 2)))) pss_nil)
      (pss_cons (ps_asg (pe_op op_mod (pe_callTy call_int1 (by rfl) B.int (by decide +kernel) (pa_cons
          (pe_op op_add (pe_op op_add (pe_op op_mul (pe_ix ix_list (pv 0) pe_int (fun _ _ => rfl)) pe_int) (pe_op op_mul (pe_ix ix_list (pv 0) pe_int (fun _ _ => rfl)) pe_int))
            (pe_op op_mul (pe_op op_fdiv (pe_ix ix_list (pv 0) pe_int (fun _ _ => rfl)) pe_int) pe_int)) pa_nil)) pe_int) (pg_sub (pv 0) pe_int set_list))
      (pss_one (ps_ret (pe_op op_mod (pe_callTy call_int1 (by rfl) B.int (by decide +kernel) (pa_cons (pe_op op_fdiv (pe_ix ix_list (pv 0) pe_int (fun _ _ => rfl)) pe_int) pa_nil)) (pv 1)))))), ?_⟩
    have hA : SqL K H a [.int x, .int y, .int z] := SqL.of ha
    -- sp[0] = sp[0] + 5
    refine ⟨.ref a, rfl, a, _, 0, .int x, rfl, rfl, hA, rfl, x, 5, rfl, rfl, .ref a, rfl, a, _, 0, 0, rfl, rfl, ha, rfl, ?_⟩
    have h1 : (upd H a (.lst [.int (x + 5), .int y, .int z])) a = some (.lst [.int (x + 5), .int y, .int z]) := upd_same
    have b1 : But a H (upd H a (.lst [.int (x + 5), .int y, .int z])) := But.upd _ _ _
    have hA1 : SqL K (upd H a (.lst [.int (x + 5), .int y, .int z])) a [.int (x + 5), .int y, .int z] := SqL.of h1
    refine ⟨.ref a, rfl, a, _, 1, .int y, rfl, rfl, hA1, rfl, y, 0, rfl, rfl, _, rfl, ite2 (fun _ => ?_) (fun _ => ?_)⟩
    · refine ⟨.ref a, rfl, a, _, 1, .int y, rfl, rfl, hA1, rfl, .inl ⟨y, rfl, .int m, rfl, y, m, rfl, divp_small _ hm hm2, fun p hp => ?_⟩⟩
      have npa : a ≠ p := ne_of_none h1 hp
      refine ⟨p, _, rfl, SqT.of upd_same, rfl, .int (y / m), [.int (y % m)], rfl, .ref a, rfl, a, _, 1, 1, rfl, rfl, (by rw [upd_ne npa]; exact h1), rfl, .int (y % m), [], rfl, rfl, _, rfl, ?_⟩
      refine k (y % m) _ (Int.emod_nonneg _ (by omega)) (Int.emod_lt_of_pos _ hm) ⟨_, _, _, upd_same⟩ ?_
      exact (b1.new hp).trans (But.upd _ _ _)
    · refine ⟨.ref a, rfl, a, _, 2, .int z, rfl, rfl, hA1, rfl, z, 46021, rfl, rfl, .inr ⟨by decide, by decide⟩, .ref a, rfl, a, _, 0, .int (x + 5), rfl, rfl, hA1, rfl, _, 80021, rfl, rfl, .inr ⟨by decide, by decide⟩, _, _, rfl, rfl,
        .ref a, rfl, a, _, 2, .int z, rfl, rfl, hA1, rfl, z, 3001, rfl, rfl, ⟨by decide, by decide⟩, _, 31, rfl, rfl, .inr ⟨by decide, by decide⟩, _, _, rfl, rfl, .inl ⟨_, rfl, _, 1999999859, rfl, rfl, (by show (0 : Int) < 1999999859; decide), .ref a, rfl, a, _, 2, 2, rfl, rfl, h1, rfl, ?_⟩⟩
      refine ⟨.ref a, rfl, a, _, 2, _, rfl, rfl, SqL.of upd_same, rfl, _, 263, rfl, rfl, ⟨by decide, by decide⟩, .inl ⟨_, rfl, .int m, rfl, _, m, rfl, rfl, hm, ?_⟩⟩
      exact k _ _ (Int.emod_nonneg _ (by omega)) (Int.emod_lt_of_pos _ hm) ⟨_, _, _, upd_same⟩ (b1.trans (But.upd _ _ _))
end
end My

namespace My
open PySem PySem.Spec PyProof.Rows L2
abbrev sLaw : Stmt := top 35
theorem scLaw : FnScope ["_law_script", "_law_k"] ["_law_script"] (defScope sLaw) := ⟨rfl, rfl, rfl, by decide +kernel, rfl, by decide +kernel, by decide +kernel⟩
def spSpring (K : PySem.W.Frag) : Sp := fun vs H Q _ => ∃ (s : Addr) (k : Int) (ns : List Int), vs = [.ref s, .int k] ∧ SqL K H s (ns.map V.int) ∧ 0 ≤ k ∧ ns.length ≤ 63 ∧
  ∀ (p : Addr) (H' : Hp), Same H H' → H p = none → Spr H' p → Q (.ref p) H'
/-- what every _law_right promises -/
def spRight : Sp := fun vs H Q _ => ∃ a : Addr, vs = [.ref a] ∧ Spr H a ∧ ∀ H', But a H H' → Q (.bl true) H'
def spLaw (K : PySem.W.Frag) : Sp := fun vs H Q _ => ∃ (a : Addr) (ns : List Int), vs = [.ref a] ∧ SqL K H a (ns.map V.int) ∧ ns.length ≤ 63 ∧ ∀ H', Q (.bl true) H'
section
variable {P : Program} {w : World} {K : PySem.W.Frag} {mg : Str → Option Value} {base : Heap}
theorem ok_some {f fG : Addr} {fd fdG : FuncData} (F : Fun K "_law_some_of" "_law_some_of" sSome f fd) (FG : Fun K "_law_gulp" "_law_gulp" sGulp fG fdG) (bG : Binds K fdG ["_law_spring_here", "_law_many"] []) (gG : mg "_law_gulp" = some (.ref fG)) (B : Bt mg) :
    FnOk P w K mg base CX0 3 f fd ["_law_spring_here", "_law_things"] (spSome K) := by
  have G : FnOk P w K mg base CX0 2 fG fdG ["_law_spring_here", "_law_many"] spGulp := ok_gulp FG B
  refine F.ok scSome (fun vs H Q E h => ?_) (fun cdv A outer s H vs Q E hr h => ?_)
  · obtain ⟨a, t, xs, rfl, _⟩ := h
    rfl
  · obtain ⟨a, t, xs, rfl, ha, ht, nta, hne, hlen, k⟩ := h
    refine ⟨_, pss_one (ps_ret (pe_ix (IxR.or ix_list ix_tup) (pv 1) (pe_call G hr (by rfl) gG FG.kp bG .nil pass0 (pa_cons (pv 0) (pa_cons (pe_callB call_len_seq (by rfl) B.len PySem.boot_len (pa_cons (pv 1) pa_nil)) pa_nil))) (fun _ _ => rfl))), ?_⟩
    have hpos : 0 < xs.length := List.length_pos_iff.mpr hne
    refine ⟨.ref t, rfl, .ref a, rfl, .ref t, rfl, t, xs, rfl, ht, a, (xs.length : Int), rfl, ha, by omega, by omega, fun r H' h0 h1 s' b' => ?_⟩
    obtain ⟨i, rfl⟩ : ∃ i : Nat, r = (i : Int) := ⟨r.toNat, by omega⟩
    have hi : i < xs.length := by omega
    have e : xs[i]? = some xs[i] := List.getElem?_eq_getElem hi
    have hm : xs[i] ∈ xs := List.getElem_mem hi
    rcases ht with ht | ht
    · exact .inl ⟨t, xs, i, xs[i], rfl, rfl, but_sql b' nta ht, atI_nat e, k _ _ hm s' b'⟩
    · exact .inr ⟨t, xs, i, xs[i], rfl, rfl, but_sqt b' nta ht, atI_nat e, k _ _ hm s' b'⟩
theorem ok_spring {f : Addr} {fd : FuncData} (F : Fun K "_law_spring" "_law_spring" sSpring f fd) (B : Bt mg) : FnOk P w K mg base CX0 2 f fd ["_law_script", "_law_k"] (spSpring K) := by
  refine F.ok scSpring (fun vs H Q E h => ?_) (fun cdv A outer s H vs Q E hr h => ?_)
  · obtain ⟨a, t, xs, rfl, _⟩ := h
    rfl
  · obtain ⟨a, k, ns, rfl, hs, hk, hlen, q⟩ := h
    refine ⟨_, pss_cons (ps_set (i := 2) scSpring.nd rfl (.inl rfl) (pe_ifExp (pt_cmpR op_lt (pv 1) (pe_callB call_len_seq (by rfl) B.len PySem.boot_len (pa_cons (pv 0) pa_nil)) (nomark _))
          (pe_callTy call_int1 (by rfl) B.int (by decide +kernel) (pa_cons (pe_ix ix_list (pv 0) (pv 1) (fun _ _ => rfl)) pa_nil))
          (pe_op op_add (pe_op op_mul pe_int (pv 1)) pe_int)))
      (pss_cons (ps_set (i := 3) scSpring.nd rfl (.inl rfl) (pe_op op_add pe_int (pe_op op_mul pe_int (pv 1))))
      (pss_cons (ps_for PassesOwn.never rfl (pi_list (pe_slice sl_list (pv 0) po_none (po_some pe_int))) (pg_name (i := 4) scSpring.nd rfl (.inl rfl))
        (pss_one (ps_set (i := 3) scSpring.nd rfl (.inl rfl) (pe_op op_mod (pe_callTy call_int1 (by rfl) B.int (by decide +kernel) (pa_cons
          (pe_op op_add (pe_op op_mul (pv 3) pe_int) (pe_op op_mod (pe_callTy call_int1 (by rfl) B.int (by decide +kernel) (pa_cons (pv 4) pa_nil)) pe_int)) pa_nil)) pe_int))))
      (pss_one (ps_ret (pe_lst (pa_cons pe_int (pa_cons
        (pe_ifExp (PW.pt (pw_or (pt_cmpR op_lt (pv 2) pe_int (nomark _)) (pw_or1 (pt_cmpR op_ge (pv 2) (pe_op op_pow pe_int pe_int) (nomark _))))) (pe_callB call_abs (by rfl) B.abs (by decide +kernel) (pa_cons (pv 2) pa_nil)) pe_int)
        (pa_cons (pe_op op_mod (pe_callTy call_int1 (by rfl) B.int (by decide +kernel) (pa_cons (pe_op op_add (pe_op op_mul (pv 3) pe_int) (pe_op op_mod (pv 2) pe_int)) pa_nil)) pe_int) pa_nil)))))))), ?_⟩
    have cm : ∀ {i : Nat} {x : V}, (cutV (ns.map V.int) none (some 13))[i]? = some x → ∃ z, x = V.int z := fun e => by
      have h1 := List.mem_of_getElem? e
      have h2 := List.mem_of_mem_drop (List.mem_of_mem_take h1)
      obtain ⟨z, _, rfl⟩ := List.mem_map.mp h2
      exact ⟨z, rfl⟩
    refine ⟨.int k, rfl, .ref a, rfl, a, _, rfl, .inl hs, _, _, rfl, rfl, _, rfl, ite2 (fun e => ?_) (fun e => ?_)⟩
    · have hk2 : k < ((ns.map V.int).length : Int) := of_decide_eq_true e
      rw [List.length_map] at hk2
      obtain ⟨i, rfl⟩ : ∃ i : Nat, k = (i : Int) := ⟨k.toNat, by omega⟩
      have hi : i < ns.length := by omega
      have e : (ns.map V.int)[i]? = some (.int ns[i]) := by
        rw [List.getElem?_map, List.getElem?_eq_getElem hi]
        rfl
      refine ⟨.ref a, rfl, .int i, rfl, a, _, i, _, rfl, rfl, hs, atI_nat e, .inl ⟨ns[i], rfl, ?_⟩⟩
      generalize ns[i] = own
      generalize (i : Int) = k at hk hk2 ⊢
      refine ⟨.int k, rfl, 1709, k, rfl, rfl, .inl ⟨by decide, by decide⟩, 60013, _, rfl, rfl, ?_⟩
      refine ⟨.ref a, rfl, 13, rfl, a, _, rfl, hs, fun p np => ?_⟩
      refine ⟨p, rfl, ⟨_, SqL.of upd_same⟩, for_list (K := K) (a := p) (xs := cutV (ns.map V.int) none (some 13)) (fun i σ H2 => ∃ (mx : Int) (v : Option V), σ = [some (.ref a), some (.int k), some (.int own), some (.int mx), v] ∧ H2 = upd H p (.lst (cutV (ns.map V.int) none (some 13))))
        ⟨_, none, rfl, rfl⟩ (fun i σ H2 _ ⟨_, _, _, e2⟩ => by rw [e2]; exact SqL.of upd_same) ?_ ?_⟩
      · rintro i y σ H2 hi ⟨mx, v, rfl, rfl⟩
        obtain ⟨z, rfl⟩ := cm hi
        refine ⟨.int mx, rfl, mx, 38699, rfl, rfl, .inr ⟨by decide, by decide⟩, .int z, rfl, .inl ⟨z, rfl, z, 1999999859, rfl, rfl, (by show (0 : Int) < 1999999859; decide), _, _, rfl, rfl, .inl ⟨_, rfl, _, 1999999859, rfl, rfl, (by show (0 : Int) < 1999999859; decide), ?_⟩⟩⟩
        exact ⟨_, _, rfl, rfl⟩
      · rintro σ H2 ⟨mx, v, rfl, rfl⟩
        have fin : ∀ g : Int, ∀ (Hq : Hp), Hq = upd H p (.lst (cutV (ns.map V.int) none (some 13))) → ∀ l, Hq l = none → Q (.ref l) (upd Hq l (.lst [.int 3, .int g, .int ((mx * 11 + own % 1999999859) % 1999999859)])) := fun g Hq e l nl => by
          subst e
          have sm := (same_upd np (o := .lst (cutV (ns.map V.int) none (some 13))))
          exact q l _ (fun b o x => same_upd nl _ _ (sm _ _ x)) (sm.free nl) ⟨_, _, _, upd_same⟩
        refine ⟨.int own, rfl, own, 0, rfl, rfl, _, rfl, ite2 (fun _ => ?_) (fun _ => ?_)⟩
        · refine ite2 (fun _ => ?_) (fun hh => absurd rfl hh)
          refine ⟨.int own, rfl, own, rfl, .int mx, rfl, mx, 11, rfl, rfl, .inr ⟨by decide, by decide⟩, .int own, rfl, own, 1999999859, rfl, rfl, (by show (0 : Int) < 1999999859; decide), _, _, rfl, rfl, .inl ⟨_, rfl, _, 1999999859, rfl, rfl, (by show (0 : Int) < 1999999859; decide), ?_⟩⟩
          refine ⟨(by show 3 ≤ sizeLine; decide), fun l nl => ?_⟩
          exact fin _ _ rfl l nl
        · refine ⟨.int own, rfl, 10, 13, rfl, rfl, ⟨by decide, by decide, by decide⟩, own, _, rfl, rfl, _, rfl, ite2 (fun _ => ?_) (fun _ => ?_)⟩
          · refine ⟨.int own, rfl, own, rfl, .int mx, rfl, mx, 11, rfl, rfl, .inr ⟨by decide, by decide⟩, .int own, rfl, own, 1999999859, rfl, rfl, (by show (0 : Int) < 1999999859; decide), _, _, rfl, rfl, .inl ⟨_, rfl, _, 1999999859, rfl, rfl, (by show (0 : Int) < 1999999859; decide), ?_⟩⟩
            refine ⟨(by show 3 ≤ sizeLine; decide), fun l nl => ?_⟩
            exact fin _ _ rfl l nl
          · refine ⟨.int mx, rfl, mx, 11, rfl, rfl, .inr ⟨by decide, by decide⟩, .int own, rfl, own, 1999999859, rfl, rfl, (by show (0 : Int) < 1999999859; decide), _, _, rfl, rfl, .inl ⟨_, rfl, _, 1999999859, rfl, rfl, (by show (0 : Int) < 1999999859; decide), ?_⟩⟩
            refine ⟨(by show 3 ≤ sizeLine; decide), fun l nl => ?_⟩
            exact fin _ _ rfl l nl
    · refine ⟨.int k, rfl, 37, k, rfl, rfl, .inl ⟨by decide, by decide⟩, _, 13, rfl, rfl, ?_⟩
      refine ⟨.int k, rfl, 1709, k, rfl, rfl, .inl ⟨by decide, by decide⟩, 60013, _, rfl, rfl, ?_⟩
      refine ⟨.ref a, rfl, 13, rfl, a, _, rfl, hs, fun p np => ?_⟩
      refine ⟨p, rfl, ⟨_, SqL.of upd_same⟩, for_list (K := K) (a := p) (xs := cutV (ns.map V.int) none (some 13)) (fun i σ H2 => ∃ (mx : Int) (v : Option V), σ = [some (.ref a), some (.int k), some (.int (37 * k + 13)), some (.int mx), v] ∧ H2 = upd H p (.lst (cutV (ns.map V.int) none (some 13))))
        ⟨_, none, rfl, rfl⟩ (fun i σ H2 _ ⟨_, _, _, e2⟩ => by rw [e2]; exact SqL.of upd_same) ?_ ?_⟩
      · rintro i y σ H2 hi ⟨mx, v, rfl, rfl⟩
        obtain ⟨z, rfl⟩ := cm hi
        refine ⟨.int mx, rfl, mx, 38699, rfl, rfl, .inr ⟨by decide, by decide⟩, .int z, rfl, .inl ⟨z, rfl, z, 1999999859, rfl, rfl, (by show (0 : Int) < 1999999859; decide), _, _, rfl, rfl, .inl ⟨_, rfl, _, 1999999859, rfl, rfl, (by show (0 : Int) < 1999999859; decide), ?_⟩⟩⟩
        exact ⟨_, _, rfl, rfl⟩
      · rintro σ H2 ⟨mx, v, rfl, rfl⟩
        have fin : ∀ g : Int, ∀ (Hq : Hp), Hq = upd H p (.lst (cutV (ns.map V.int) none (some 13))) → ∀ l, Hq l = none → Q (.ref l) (upd Hq l (.lst [.int 3, .int g, .int ((mx * 11 + (37 * k + 13) % 1999999859) % 1999999859)])) := fun g Hq e l nl => by
          subst e
          have sm := (same_upd np (o := .lst (cutV (ns.map V.int) none (some 13))))
          exact q l _ (fun b o x => same_upd nl _ _ (sm _ _ x)) (sm.free nl) ⟨_, _, _, upd_same⟩
        refine ⟨.int (37 * k + 13), rfl, (37 * k + 13), 0, rfl, rfl, _, rfl, ite2 (fun _ => ?_) (fun _ => ?_)⟩
        · refine ite2 (fun _ => ?_) (fun hh => absurd rfl hh)
          refine ⟨.int (37 * k + 13), rfl, (37 * k + 13), rfl, .int mx, rfl, mx, 11, rfl, rfl, .inr ⟨by decide, by decide⟩, .int (37 * k + 13), rfl, (37 * k + 13), 1999999859, rfl, rfl, (by show (0 : Int) < 1999999859; decide), _, _, rfl, rfl, .inl ⟨_, rfl, _, 1999999859, rfl, rfl, (by show (0 : Int) < 1999999859; decide), ?_⟩⟩
          refine ⟨(by show 3 ≤ sizeLine; decide), fun l nl => ?_⟩
          exact fin _ _ rfl l nl
        · refine ⟨.int (37 * k + 13), rfl, 10, 13, rfl, rfl, ⟨by decide, by decide, by decide⟩, (37 * k + 13), _, rfl, rfl, _, rfl, ite2 (fun _ => ?_) (fun _ => ?_)⟩
          · refine ⟨.int (37 * k + 13), rfl, (37 * k + 13), rfl, .int mx, rfl, mx, 11, rfl, rfl, .inr ⟨by decide, by decide⟩, .int (37 * k + 13), rfl, (37 * k + 13), 1999999859, rfl, rfl, (by show (0 : Int) < 1999999859; decide), _, _, rfl, rfl, .inl ⟨_, rfl, _, 1999999859, rfl, rfl, (by show (0 : Int) < 1999999859; decide), ?_⟩⟩
            refine ⟨(by show 3 ≤ sizeLine; decide), fun l nl => ?_⟩
            exact fin _ _ rfl l nl
          · refine ⟨.int mx, rfl, mx, 11, rfl, rfl, .inr ⟨by decide, by decide⟩, .int (37 * k + 13), rfl, (37 * k + 13), 1999999859, rfl, rfl, (by show (0 : Int) < 1999999859; decide), _, _, rfl, rfl, .inl ⟨_, rfl, _, 1999999859, rfl, rfl, (by show (0 : Int) < 1999999859; decide), ?_⟩⟩
            refine ⟨(by show 3 ≤ sizeLine; decide), fun l nl => ?_⟩
            exact fin _ _ rfl l nl
theorem ok_law {kR : Nat} {f fS fR : Addr} {fd fdS fdR : FuncData} (F : Fun K "law" "law" sLaw f fd) (FS : Fun K "_law_spring" "_law_spring" sSpring fS fdS) (bS : Binds K fdS ["_law_script", "_law_k"] []) (gS : mg "_law_spring" = some (.ref fS))
    (kpR : PySem.W.keepIn K (.ref fR) = true) (GR : FnOk P w K mg base CX0 (kR + 2) fR fdR ["_law_spring_here"] spRight) (bR : Binds K fdR ["_law_spring_here"] []) (gR : mg "_law_right" = some (.ref fR)) (B : Bt mg) :
    FnOk P w K mg base CX0 (kR + 3) f fd ["_law_script"] (spLaw K) := by
  have GS : FnOk P w K mg base CX0 2 fS fdS ["_law_script", "_law_k"] (spSpring K) := ok_spring FS B
  refine F.ok scLaw (fun vs H Q E h => ?_) (fun cdv A outer s H vs Q E hr h => ?_)
  · obtain ⟨a, xs, rfl, _⟩ := h
    rfl
  · obtain ⟨a, ns, rfl, hs, hlen, q⟩ := h
    have hr1 : Room 2 _ := hr.mono (by omega)
    refine ⟨_, pss_one (ps_ret (pe_callB (cr_all rfl) (by rfl) B.all (by decide +kernel) (pa_cons
      (pe_lc (own := [("_law_k", 1)]) (g := gName 1) (tt := tYes) rfl scLaw.nd
        (pi_range1 (by rfl) B.range (pa_cons (pe_callB (call_max2 rfl) (by rfl) B.max (by decide +kernel) (pa_cons pe_int (pa_cons (pe_callB (call_min2 rfl) (by rfl) B.min (by decide +kernel) (pa_cons (pe_callB call_len_seq (by rfl) B.len PySem.boot_len (pa_cons (pv 0) pa_nil)) (pa_cons pe_int pa_nil))) pa_nil))) pa_nil))
        (blkOk_by (own := [("_law_k", 1)]) (N := ["_law_script", "_law_k"]) (sc := defScope sLaw) (by decide +kernel)) (fun _ _ _ _ _ => pg_name (i := 1) scLaw.nd rfl (Or.inl rfl)) (fun _ _ _ _ _ => pts_nil)
        (fun _ _ _ _ _ => pe_call GR hr (by rfl) gR kpR bR .nil pass0 (pa_cons (pe_call GS hr1 (by rfl) gS FS.kp bS .nil pass0 (pa_cons (pv 0) (pa_cons (pv 1) pa_nil))) pa_nil)))
      pa_nil))), ?_⟩
    refine ⟨.ref a, rfl, a, _, rfl, .inl hs, _, 5, rfl, 2, _, rfl, _, rfl, ?_, ?_, ?_⟩
    · split <;> (try split) <;> rw [List.length_map] at * <;> omega
    · split <;> (try split) <;> rw [List.length_map] at * <;> omega
    · intro D nD
      refine lc_range (n := _) (fun i H2 => Same H H2 ∧ H2 D = some (.lst (List.replicate i (V.bl true)))) ⟨same_upd nD, upd_same⟩ ?_ ?_
      · rintro i H2 hi ⟨sm, hD⟩
        refine ⟨rfl, .ref a, rfl, .int (0 + (i : Int)), rfl, a, _, ns, rfl, sm.seq hs, by omega, hlen, fun p H3 sm3 np hp => ?_⟩
        have nDp : D ≠ p := ne_of_none hD np
        refine ⟨p, rfl, hp, fun H4 b4 => ?_⟩
        have hD4 : H4 D = some (.lst (List.replicate i (V.bl true))) := b4 _ _ (sm3 _ _ hD) nDp
        refine ⟨_, hD4, ?_, fun b o e => ?_, ?_⟩
        · rw [List.length_replicate]
          have hi2 : i < 6 := by
            revert hi
            split <;> (try split) <;> omega
          exact Nat.lt_of_lt_of_le hi2 (by decide)
        · have nbD : b ≠ D := ne_of_none e nD
          rw [upd_ne nbD]
          exact b4 _ _ (sm3 _ _ (sm _ _ e)) (ne_of_none (sm _ _ e) np)
        · rw [upd_same, List.replicate_succ']
      · rintro H2 ⟨sm, hD⟩
        obtain ⟨n, hD⟩ : ∃ n, H2 D = some (.lst (List.replicate n (V.bl true))) := ⟨_, hD⟩
        refine ⟨D, List.replicate n true, rfl, ?_, ?_⟩
        · rw [List.map_replicate]
          exact SqL.of hD
        · have e : (List.replicate n true).all id = true := by simp
          rw [e]
          exact q _
end
end My

namespace MyEn
open PySem
/-! enumerate(t), t a tuple -/
theorem new_tup (l : Addr) (its : Array Value) (n : Nat) (dc : Option Addr) (sl : Array (Option Value)) :
    Meets (Builtin.«enumerate.__new__» ⟨[.type "enumerate", .ref l], []⟩) (fun _ R s =>
      s.heap.get? l = some { cls := .type "tuple", dict := dc, data := .seq its n, slots := sl } ∧
      R (.ok (.ret (.ref (s.heap.push { cls := .type "tuple_iterator", data := .fields #[.ref l, .int 0 0] }).objs.size)))
        { s with heap := (s.heap.push { cls := .type "tuple_iterator", data := .fields #[.ref l, .int 0 0] }).push { cls := .type "enumerate", data := .fields #[.none, .bool false, .ref s.heap.objs.size, rawInt 0, .none, .none] } }) := .of_wp fun prog w A R s ⟨hl, h⟩ => by
  obtain ⟨hp, g, d, tk, os⟩ := s
  have hs := sub_enumerate
  have hT : Heap.IsTuple (Shared.heap ⟨hp, g, d, tk, os⟩) l its := ⟨_, hl, rfl, n, rfl⟩
  wp_walk using AutoSeq1.wpAny_loadPart' hl
  refine wpAny_stack_any (fun st => wpAny_pure ?_)
  split
  · rename_i c _ _ _ _ _
    cases (c == Value.type "enumerate") <;> (wp_walk using AutoSeq1.wpAny_loadPart' hl, wpAny_pyIter_tuple hT; exact ⟨_, rfl, h⟩)
  · (wp_walk using AutoSeq1.wpAny_loadPart' hl, wpAny_pyIter_tuple hT; exact ⟨_, rfl, h⟩)
section
variable {prog : Program} {w : World} {A : Around} {E : Value → Shared → Prop} {s : Shared}
theorem call_tup {l : Addr} {its : Array Value} {Q : Value → Shared → Prop} (hL : s.heap.IsTuple l its)
    (h : ∀ h', IsEnum h' (s.heap.objs.size + 1) s.heap.objs.size 0 .none → h'.IsTupleIter s.heap.objs.size l 0 → (∀ b o, s.heap.get? b = some o → h'.get? b = some o) → Q (.ref (s.heap.objs.size + 1)) { s with heap := h' }) :
    wpAny (model prog w) A (call (.type "enumerate") [.ref l]) Q E s := by
  obtain ⟨⟨c, dc, dt, sl⟩, hl, hc, n, hd⟩ := hL
  have hc' : c = .type "tuple" := hc
  have hd' : dt = .seq its n := hd
  subst hc' hd'
  refine callType_new F.called_enumerate (by decide) (F.typeCall_enumerate_1 _) (F.newCall_enumerate_1 _) (fun obj => F.args_object_init_2 obj _) F.entry_enumerate_new (new_tup l its n dc sl) ⟨hl, ?_⟩
  generalize hI : (s.heap.push { cls := .type "tuple_iterator", data := .fields #[.ref l, .int 0 0] }) = hI1
  have hz : hI1.objs.size = s.heap.objs.size + 1 := by rw [← hI]; exact Heap.size_push ..
  have he : IsEnum (hI1.push { cls := .type "enumerate", data := .fields #[.none, .bool false, .ref s.heap.objs.size, rawInt 0, .none, .none] }) (s.heap.objs.size + 1) s.heap.objs.size 0 .none := by
    have q := Heap.get?_push_size hI1 (o := { cls := .type "enumerate", data := .fields #[.none, .bool false, .ref s.heap.objs.size, rawInt 0, .none, .none] }) rfl
    rw [hz] at q
    exact q
  have hk : ∀ b o, s.heap.get? b = some o → hI1.get? b = some o := fun b o x => by rw [← hI]; exact Heap.get?_push_of_some _ x
  have hit : hI1.IsTupleIter s.heap.objs.size l 0 := by rw [← hI]; exact ⟨_, Heap.get?_push_size _ rfl, rfl, rfl⟩
  show _ ∧ _
  rw [hz]
  obtain ⟨oi, h1, h2⟩ := hit
  exact ⟨⟨_, he, rfl⟩, h _ he ⟨oi, Heap.get?_push_of_some _ h1, h2⟩ (fun b o x => Heap.get?_push_of_some _ (hk b o x))⟩
end
end MyEn
namespace L2
open PySem PySem.Spec PyProof.Rows
/-- the tuple at a, each item in a new pair -/
def Iten (K : PySem.W.Frag) (a : Addr) : It :=
  ⟨fun i H => ∃ (xs : List V) (x : V), SqT K H a xs ∧ xs[i]? = some x,
   fun i H v H' => ∃ T x, v = .ref T ∧ H T = none ∧ H' = upd H T (.tup [.int (i : Nat), x]) ∧ ∀ xs, SqT K H a xs → xs[i]? = some x,
   fun i H => ∃ xs : List V, SqT K H a xs ∧ xs.length ≤ i⟩
theorem turn_enT {P : Program} {w : World} {K : PySem.W.Frag} {elts : List Expr} {kk : Nat} {tpos : Pos} (a e it : Addr) (hai : a ≠ it) :
    Turn P w K (.Tuple elts kk tpos) (Iten K a) [e, it] e (fun i h => (∃ old, IsEnum h e it ((i : Nat) : Int) old) ∧ h.IsTupleIter it a i ∧ e ≠ it ∧ e ≠ a) where
  mem := by simp
  obj := fun i h st b hb => by
    obtain ⟨⟨old, he⟩, ⟨o, ho, hc, hd⟩, hne, _⟩ := st
    have e' : b = e ∨ b = it := by simpa using hb
    rcases e' with z | z
    · rw [z]
      refine ⟨_, he, ?_⟩
      intro v q
      cases q
    · rw [z]
      refine ⟨o, ho, ?_⟩
      intro v q
      rw [hd] at q
      cases q
  keep := fun i h h' st k => let ⟨⟨old, he⟩, hi, hne⟩ := st; ⟨⟨old, k e (by simp) _ he⟩, hi.at fun o q => k it (by simp) o q, hne⟩
  item := by
    intro X hP hw hK hc i pins s σ H E I hf st hg
    subst hP hw hK
    obtain ⟨⟨old, he⟩, hit, hne, hea⟩ := st
    obtain ⟨xs, x, hq, hx⟩ := hg
    obtain ⟨its, rv, p, hz⟩ := I.tuple hq
    obtain ⟨u, hu, ru⟩ := rv.get hx
    have hel : e < s.heap.objs.size := Heap.lt_size he
    have hil : it < s.heap.objs.size := by obtain ⟨_, q, _⟩ := hit; exact Heap.lt_size q
    have hlen : i < its.toArray.size := by
      have := (List.getElem?_eq_some_iff.mp hu).1
      simpa using this
    have D := Draws.tuple (prog := X.prog) (w := X.w) (A := X.A.in1) (I.ok.hd hc) it a hai its.toArray
    refine wpAny_pyNext_enum_itemD D he ⟨hit, show s.heap.IsTuple a its.toArray from p⟩ hlen hne (by simp; exact ⟨hne, hea⟩) fun y h' tk hy ho hit' hT hsz hk => ?_
    have hyu : y = u := by
      have h1 : its.toArray[i]? = some y := hy
      have h2 : its.toArray[i]? = some u := by simpa using hu
      rw [h1] at h2
      exact Option.some.inj h2
    subst hyu
    refine ⟨_, rfl, wpAny_letOwnedTupleGo_enum (s := { s with heap := h', toks := tk + 1 }) ho fun h'' he' sb => ?_⟩
    have hT2 : h''.get? s.heap.objs.size = some { cls := .type "tuple", data := .seq #[.int i tk, y] } := (sb.2 _ (Nat.ne_of_gt hel)).trans hT
    have new : ObjOk X.prog X.w (upd H s.heap.objs.size (.tup [.int (i : Nat), x])) h'' s.heap.objs.size (.tup [.int (i : Nat), x]) :=
      ⟨(by show 2 ≤ sizeLine; decide), [.int i tk, y], .cons ⟨_, rfl⟩ (.cons ru .nil), ⟨_, hT2, rfl, _, rfl⟩⟩
    have stay : ∀ b o, b ∉ [e, it] → s.heap.get? b = some o → h''.get? b = some o := fun b o hb q => by
      have n1 : b ≠ e := fun z => hb (by simp [z])
      have n2 : b ≠ it := fun z => hb (by simp [z])
      exact (sb.2 b n1).trans (hk b o n1 n2 q)
    have I1 : Inv X pins σ (upd H s.heap.objs.size (.tup [.int (i : Nat), x])) { s with heap := h'', toks := tk + 1 } := I.turnedNew (ch := [e, it]) stay hf (Nat.le_refl _) new
    have hsucc : ((i + 1 : Nat) : Int) = (i : Int) + 1 := by omega
    refine ⟨.ref s.heap.objs.size, _, I1, rfl, ⟨_, x, rfl, I.hok.fresh (Nat.le_refl _), rfl, fun ys hy => (I.tuple_inj hy hq) ▸ hx⟩, ⟨⟨y, by rw [hsucc]; exact he'⟩, hit'.1.at fun o q => (sb.2 it (Ne.symm hne)).trans q, hne, hea⟩, fun b hb => ?_⟩
    have hb' : b < s.heap.objs.size := by
      have e' : b = e ∨ b = it := by simpa using hb
      rcases e' with z | z <;> (rw [z]; assumption)
    rw [upd_ne (Nat.ne_of_lt hb')]
    exact (hf b hb).1
  done := by
    intro X hP hw hK hc i pins s σ H E I hf st hg
    subst hP hw hK
    obtain ⟨⟨old, he⟩, hit, hne, hea⟩ := st
    obtain ⟨xs, hq, hx⟩ := hg
    obtain ⟨its, rv, p, hz⟩ := I.tuple hq
    obtain ⟨f0, f1, f2, f3, f4, f5⟩ := hf it (by simp)
    have hl := rv.length
    have hT : s.heap.IsTuple a its.toArray := p
    have hnone : its.toArray[i]? = none := by simp; omega
    have D : Draws X.prog X.w X.A.in1 it [it, a] i (fun _ _ => False) (fun j h => j = i ∧ h.IsTupleIter it a i ∧ h.IsTuple a its.toArray) :=
      ⟨fun _ _ st => let ⟨o, ho, _⟩ := st.2.1; ⟨o, ho⟩, fun _ _ _ st hk => ⟨st.1, st.2.1.at fun o e => hk it (by simp) o e, st.2.2.at fun o e => hk a (by simp) o e⟩,
       fun j _ _ _ hj st _ => absurd st.1 (Nat.ne_of_lt hj), fun s Q E st hE => wpAny_nextOf_tuple_end (I.ok.hd hc) st.2.1 st.2.2 hnone hE⟩
    exact wpAny_pyNext_enum_endD D he ⟨rfl, hit, hT⟩ fun h' eb => ⟨rfl, I.turned (t' := s.toks) (fun b o hb q => eb b o hb q) f0 f1 f3 f4 f5⟩
  self := fun A i s Q E st h => let ⟨⟨_, he⟩, _⟩ := st; wpAny_pyIter_enum he h

def iEnT (K : PySem.W.Frag) (ta : TA) : TI := fun σ H R => ta σ H fun vs H1 => ∃ a xs, vs = [.ref a] ∧ SqT K H1 a xs ∧ R (Iten K a) H1
theorem pi_enT {X : Cx} {e : Expr} {ta : TA} {p pos tpos : Pos} {elts : List Expr} {kk : Nat} (hg : Gl X "enumerate") (hm : X.mg "enumerate" = none) (ha : PA X [e] ta) (hs : starEach [e] X.env = [(false, eval e X.env)] := by rfl) :
    PI X (.Tuple elts kk tpos) (.Call (.Name "enumerate" p) [e] [] pos) (iEnT X.K ta) := by
  constructor
  intro pins s σ H R I h
  refine Call_ (ld_blt I hg hm boot_enumerate (PyProof.Rows.callWith_type1 (thn (ha.run pos pins s σ H _ I h) ?_) hs rfl))
  rintro us s1 ⟨vs, H1, I1, r1, a, xs, rfl, hq, q⟩
  cases r1 with
  | cons r rr =>
    cases rr
    cases r
    obtain ⟨its, rv, p', hz⟩ := I1.tuple hq
    have hT : s1.heap.IsTuple a its.toArray := p'
    have hlt : a < s1.heap.objs.size := by obtain ⟨o, ho, _⟩ := hT; exact Heap.lt_size ho
    refine MyEn.call_tup hT fun h' he hit hk => wpAny_pyIter_enum he ?_
    have I2 : Inv X pins σ H1 { s1 with heap := h' } := I1.kept (t' := s1.toks) hk
    refine ⟨s1.heap.objs.size + 1, [s1.heap.objs.size + 1, s1.heap.objs.size], _, _, H1, rfl, I2, turn_enT a (s1.heap.objs.size + 1) s1.heap.objs.size (Nat.ne_of_lt hlt), ⟨⟨.none, he⟩, hit, Nat.succ_ne_self _, Nat.ne_of_gt (Nat.lt_succ_of_lt hlt)⟩, ?_, q⟩
    intro b hb
    have e' : b = s1.heap.objs.size + 1 ∨ b = s1.heap.objs.size := by simpa using hb
    have hle : s1.heap.objs.size ≤ b := e'.elim (fun z => z ▸ Nat.le_succ _) (fun z => z ▸ Nat.le_refl _)
    exact I1.fpOk hle (I1.hok.fresh hle)
/-- for place, item in enumerate(t): by an invariant; the pair is new each time -/
theorem for_enT {K : PySem.W.Frag} {a : Addr} {xs : List V} {g : TG} {tb : TS} {D : Ends} {σ : St} {H : Hp} (Pv : Nat → St → Hp → Prop) (h0 : Pv 0 σ H)
    (hl : ∀ i σ H, i ≤ xs.length → Pv i σ H → SqT K H a xs)
    (ht : ∀ (i : Nat) (x : V) (σ : St) (H : Hp) (T : Addr), xs[i]? = some x → Pv i σ H → H T = none → g (.ref T) σ (upd H T (.tup [.int (i : Nat), x])) fun σ2 H2 => tb { nx := Pv (i + 1), rt := D.rt, bk := D.nx, ct := Pv (i + 1) } σ2 H2)
    (he : ∀ σ H, Pv xs.length σ H → D.nx σ H) :
    ∃ W : Nat → Nat → St → Hp → Prop, (∃ m, W 0 m σ H) ∧ ∀ i m σ H, W i m σ H → ((Iten K a).stop i H ∧ D.nx σ H) ∨
      ((Iten K a).go i H ∧ ∃ N : St → Hp → Prop, (∀ σ' H', N σ' H' → ∃ m', m' < m ∧ W (i + 1) m' σ' H') ∧
        ∀ x H', (Iten K a).yld i H x H' → g x σ H' fun σ2 H2 => tb { nx := N, rt := D.rt, bk := D.nx, ct := N } σ2 H2) := by
  refine ⟨fun i m σ H => Pv i σ H ∧ i + m = xs.length, ⟨xs.length, h0, by omega⟩, fun i m σ H hW => ?_⟩
  obtain ⟨hp, hm⟩ := hW
  have hsq := hl i σ H (by omega) hp
  by_cases hi : i < xs.length
  · refine .inr ⟨⟨xs, xs[i], hsq, List.getElem?_eq_getElem hi⟩, Pv (i + 1), fun σ' H' hN => ⟨m - 1, by omega, hN, by omega⟩, ?_⟩
    rintro x H' ⟨T, y, rfl, hT, rfl, hy⟩
    exact ht i y σ H T (hy xs hsq) hp hT
  · have : i = xs.length := by omega
    subst this
    exact .inl ⟨⟨xs, hsq, Nat.le_refl _⟩, he σ H hp⟩
end L2

namespace My
open PySem PySem.Spec PyProof.Rows L2
/-- a def of the text: where it stands, how it is bound -/
structure Dd (K : PySem.W.Frag) (mg : Str → Option Value) (x : Str) (st : Stmt) (ps : List Str) where
  f : Addr
  fd : FuncData
  F : Fun K x x st f fd
  b : Binds K fd ps []
  g : mg x = some (.ref f)
abbrev sWithin : Stmt := top 9
abbrev sInteger : Stmt := top 8
abbrev sUnit : Stmt := top 18
abbrev sUName : Stmt := top 19
abbrev sFits : Stmt := top 20
abbrev sCUnits : Stmt := top 17
/-- is_within, with what it calls -/
structure DdW (K : PySem.W.Frag) (mg : Str → Option Value) extends Dd K mg "is_within" sWithin ["value", "low", "high"] where
  dI : Dd K mg "is_integer" sInteger ["value"]
theorem scInteger : FnScope ["value"] ["value"] (defScope sInteger) := ⟨rfl, rfl, rfl, by decide +kernel, rfl, by decide +kernel, by decide +kernel⟩
theorem scWithin : FnScope ["value", "low", "high"] ["value", "low", "high"] (defScope sWithin) := ⟨rfl, rfl, rfl, by decide +kernel, rfl, by decide +kernel, by decide +kernel⟩
theorem scUnit : FnScope ["unit"] ["unit"] (defScope sUnit) := ⟨rfl, rfl, rfl, by decide +kernel, rfl, by decide +kernel, by decide +kernel⟩
theorem scUName : FnScope ["name"] ["name"] (defScope sUName) := ⟨rfl, rfl, rfl, by decide +kernel, rfl, by decide +kernel, by decide +kernel⟩
def letters : Str := "ABCDEFGHIJKLMNOPQRSTUVWXYZabcdefghijklmnopqrstuvwxyz"
/-- the constants of the text -/
structure Gc (K : PySem.W.Frag) (mg : Str → Option Value) : Prop where
  units : ∃ t, mg "MOST_UNITS" = some (.int 6 t)
  decs : ∃ t, mg "MOST_DECIMALS" = some (.int 3 t)
  least : ∃ t, mg "MOST_LEAST" = some (.int 1000 t)
  num : ∃ t, mg "MOST_NUMBER" = some (.int 1000000000000000000 t)
  mlet : ∃ t, mg "MOST_LETTERS" = some (.int 3 t)
  letters : ∃ t, mg "LETTERS" = some (.str letters t)
  parts : ∃ a, mg "PARTS" = some (.ref a) ∧ ∀ H, SqT K H a [.int 1, .int 10, .int 100, .int 1000]
  rounds : ∃ a, mg "ROUNDINGS" = some (.ref a) ∧ ∀ H, SqT K H a [.str "down", .str "up", .str "near", .str "even"]
/-- a name of a unit, as the program asks -/
def GoodN (z : Str) : Prop := z.length ≤ 3 ∧ Txt.stripChars z letters = "" ∧ PyData.strOk z = true ∧ z.cps.toList.all (letters.cps.contains ·) = true
theorem tyx_tup {K : PySem.W.Frag} {H : Hp} {p : Addr} {xs : List V} (h : SqT K H p xs) : TyX K H (.ref p) (.type "tuple") := by
  rcases h with (h | ⟨o, h⟩) | ⟨o, its, n, h1, h2, _⟩
  · exact .base (.tup h)
  · exact .fTuple h
  · exact .kTuple h1 h2
theorem same_sqt {K : PySem.W.Frag} {a : Addr} {xs : List V} {H H' : Hp} (b : Same H H') (h : SqT K H a xs) : SqT K H' a xs := by
  rcases h with (h | ⟨o, h⟩) | h
  · exact .inl (.inl (b _ _ h))
  · exact .inl (.inr ⟨o, b _ _ h⟩)
  · exact .inr h
def spInteger : Sp := fun vs H Q _ => ∃ v : Int, vs = [.int v] ∧ Q (.bl true) H
def spWithin : Sp := fun vs H Q _ => ∃ v lo hi : Int, vs = [.int v, .int lo, .int hi] ∧ Q (.bl (decide (lo ≤ v ∧ v ≤ hi))) H
def spUName : Sp := fun vs H Q _ => ∃ z : Str, vs = [.str z] ∧ GoodN z ∧ Q (.bl true) H
def spUnit (K : PySem.W.Frag) : Sp := fun vs H Q _ => ∃ (p : Addr) (z : Str) (n : Int), vs = [.ref p] ∧ SqT K H p [.str z, .int n] ∧ GoodN z ∧ 1 ≤ n ∧ n ≤ 1000000000000000000 ∧ Q (.bl true) H
section
variable {P : Program} {w : World} {K : PySem.W.Frag} {mg : Str → Option Value} {base : Heap}
theorem ok_integer (d : Dd K mg "is_integer" sInteger ["value"]) (B : Bt mg) : FnOk P w K mg base CX0 1 d.f d.fd ["value"] spInteger := by
  refine d.F.ok scInteger (fun vs H Q E h => ?_) (fun cdv A outer s H vs Q E hr h => ?_)
  · obtain ⟨_, rfl, _⟩ := h
    rfl
  · obtain ⟨v, rfl, q⟩ := h
    refine ⟨_, pss_one (ps_ret (pe_and (pe_callB call_isi (by rfl) B.isinstance (by decide +kernel) (pa_cons (pv 0) (pa_cons (pe_bltn (v := .ty "int") (by rfl) B.int (by decide +kernel) rfl) pa_nil)))
      (pe_one (pe_not (pe_callB call_isi (by rfl) B.isinstance (by decide +kernel) (pa_cons (pv 0) (pa_cons (pe_bltn (v := .ty "bool") (by rfl) B.bool (by decide +kernel) rfl) pa_nil))))))), ?_⟩
    refine ⟨_, rfl, _, _, _, _, true, rfl, .ty "int", .base (.int v), kit_ty (by decide +kernel), _, rfl, iteT ?_⟩
    exact ⟨_, rfl, _, _, _, _, false, rfl, .ty "bool", .base (.int v), kit_ty (by decide +kernel), _, rfl, q⟩
theorem ok_within (d : DdW K mg) (B : Bt mg) : FnOk P w K mg base CX0 2 d.f d.fd ["value", "low", "high"] spWithin := by
  have GI : FnOk P w K mg base CX0 1 d.dI.f d.dI.fd ["value"] spInteger := ok_integer d.dI B
  refine d.F.ok scWithin (fun vs H Q E h => ?_) (fun cdv A outer s H vs Q E hr h => ?_)
  · obtain ⟨_, _, _, rfl, _⟩ := h
    rfl
  · obtain ⟨v, lo, hi, rfl, q⟩ := h
    refine ⟨_, pss_one (ps_ret (pe_and (pe_call GI hr (by rfl) d.dI.g d.dI.F.kp d.dI.b .nil pass0 (pa_cons (pv 0) pa_nil))
        (pe_one (pe_chain op_le op_le (pv 1) (pv 0) (pv 2))))), ?_⟩
    refine ⟨.int v, rfl, v, rfl, _, rfl, iteT ?_⟩
    refine ⟨.int lo, rfl, .int v, rfl, lo, v, rfl, rfl, _, rfl, ite2 (fun e => ?_) (fun e => ?_)⟩
    · have h1 : lo ≤ v := of_decide_eq_true e
      refine ⟨.int hi, rfl, v, hi, rfl, rfl, ?_⟩
      have e2 : decide (v ≤ hi) = decide (lo ≤ v ∧ v ≤ hi) := by simp [h1]
      show Q (.bl (decide (v ≤ hi))) H
      rw [e2]
      exact q
    · have h1 : ¬ lo ≤ v := fun z => e (decide_eq_true z)
      have e2 : false = decide (lo ≤ v ∧ v ≤ hi) := by simp [h1]
      rw [e2]
      exact q
theorem ok_uname (d : Dd K mg "is_unit_name" sUName ["name"]) (B : Bt mg) (G : Gc K mg) : FnOk P w K mg base CX0 2 d.f d.fd ["name"] spUName := by
  obtain ⟨t1, g1⟩ := G.mlet
  obtain ⟨t2, g2⟩ := G.letters
  refine d.F.ok scUName (fun vs H Q E h => ?_) (fun cdv A outer s H vs Q E hr h => ?_)
  · obtain ⟨_, rfl, _⟩ := h
    rfl
  · obtain ⟨z, rfl, ⟨h1, h2, _⟩, q⟩ := h
    refine ⟨_, pss_one (ps_ret (pe_and (pe_callB call_isi (by rfl) B.isinstance (by decide +kernel) (pa_cons (pv 0) (pa_cons (pe_bltn (v := .ty "str") (by rfl) B.str (by decide +kernel) rfl) pa_nil)))
      (pe_and (pe_cmpR op_le (pe_callB call_len_str (by rfl) B.len PySem.boot_len (pa_cons (pv 0) pa_nil)) (pe_glob (v := .int 3) (by rfl) g1 ⟨_, rfl⟩) (nomark _))
        (pe_one (pe_cmpR op_eq (pe_bm PySem.F.plainAttrs_str PySem.F.slot_str_strip PySem.F.type_str_strip mt_stripChars (pv 0) (pa_cons (pe_glob (v := .str letters) (by rfl) g2 ⟨_, rfl⟩) pa_nil)) pe_str (nomark _)))))), ?_⟩
    refine ⟨_, rfl, _, _, _, _, true, rfl, .ty "str", .base (.str z), kit_ty (by decide +kernel), _, rfl, iteT ?_⟩
    refine ⟨.str z, rfl, z, rfl, Nat.le_trans h1 (by decide), _, _, rfl, rfl, _, rfl, ?_⟩
    have e3 : decide ((z.length : Int) ≤ 3) = true := decide_eq_true (by omega)
    rw [if_pos e3]
    refine ⟨.str z, rfl, rfl, z, _, rfl, rfl, Nat.le_trans h1 (by decide), rfl, ?_⟩
    have e4 : decide (V.str (Txt.stripChars z letters) = V.str "") = true := decide_eq_true (by rw [h2])
    rw [e4]
    exact q
theorem ok_unit (d : Dd K mg "is_unit" sUnit ["unit"]) (dN : Dd K mg "is_unit_name" sUName ["name"]) (dW : DdW K mg) (B : Bt mg) (G : Gc K mg) : FnOk P w K mg base CX0 3 d.f d.fd ["unit"] (spUnit K) := by
  obtain ⟨t1, g1⟩ := G.num
  have GN : FnOk P w K mg base CX0 2 dN.f dN.fd ["name"] spUName := ok_uname dN B G
  have GW : FnOk P w K mg base CX0 2 dW.f dW.fd ["value", "low", "high"] spWithin := ok_within dW B
  refine d.F.ok scUnit (fun vs H Q E h => ?_) (fun cdv A outer s H vs Q E hr h => ?_)
  · obtain ⟨_, _, _, rfl, _⟩ := h
    rfl
  · obtain ⟨p, z, n, rfl, hp, hz, h1, h2, q⟩ := h
    refine ⟨_, pss_cons (ps_if (PW.pt (pw_or (pt_not (pt_val (pe_callB call_isi (by rfl) B.isinstance (by decide +kernel) (pa_cons (pv 0) (pa_cons (pe_bltn (v := .ty "tuple") (by rfl) B.tuple (by decide +kernel) rfl) pa_nil)))))
        (pw_or1 (pt_cmpR op_ne (pe_callB call_len_seq (by rfl) B.len PySem.boot_len (pa_cons (pv 0) pa_nil)) pe_int (nomark _))))) (pss_one (ps_ret pe_bl)) pss_nil)
      (pss_one (ps_ret (pe_and (pe_call GN hr (by rfl) dN.g dN.F.kp dN.b .nil pass0 (pa_cons (pe_ix ix_tup (pv 0) pe_int (fun _ _ => rfl)) pa_nil))
        (pe_one (pe_call GW hr (by rfl) dW.g dW.F.kp dW.b .nil pass0 (pa_cons (pe_ix ix_tup (pv 0) pe_int (fun _ _ => rfl)) (pa_cons pe_int (pa_cons (pe_glob (v := .int 1000000000000000000) (by rfl) g1 ⟨_, rfl⟩) pa_nil)))))))), ?_⟩
    refine ⟨_, rfl, _, _, _, _, true, rfl, .ty "tuple", tyx_tup hp, kit_ty (by decide +kernel), _, rfl, iteF ?_⟩
    refine ⟨.ref p, rfl, p, _, rfl, .inr hp, rfl, _, rfl, iteNS rfl ?_⟩
    refine ⟨.ref p, rfl, p, _, 0, .str z, rfl, rfl, hp, rfl, z, rfl, hz, _, rfl, iteT ?_⟩
    refine ⟨.ref p, rfl, p, _, 1, .int n, rfl, rfl, hp, rfl, n, 1, _, rfl, ?_⟩
    have e : decide (1 ≤ n ∧ n ≤ 1000000000000000000) = true := decide_eq_true ⟨h1, h2⟩
    rw [e]
    exact q
/-- the pairs of units stand -/
abbrev UP (K : PySem.W.Frag) (H : Hp) : List Addr → List (Str × Int) → Prop := PySem.Paired fun p u => SqT K H p [.str u.1, .int u.2]
/-- a tuple of units stands at a -/
def UA (K : PySem.W.Frag) (H : Hp) (a : Addr) (us : List (Str × Int)) : Prop := ∃ ps : List Addr, SqT K H a (ps.map V.ref) ∧ UP K H ps us
end
end My

namespace My
open PySem PySem.Spec PyProof.Rows L2
theorem paired_at {α β : Type} {F : α → β → Prop} : ∀ {l : List α} {m : List β} {i : Nat} {b : β}, PySem.Paired F l m → m[i]? = some b → ∃ a, l[i]? = some a ∧ F a b
  | _, _, _, _, .nil, e => by simp at e
  | _, _, 0, _, .cons r _, e => by simp at e; subst e; exact ⟨_, rfl, r⟩
  | _, _, i + 1, b, .cons _ t, e => by
    obtain ⟨u, h1, h2⟩ := paired_at (i := i) (b := b) t (by simpa using e)
    exact ⟨u, by simpa using h1, h2⟩
theorem paired_imp {α β : Type} {F G : α → β → Prop} (h : ∀ a b, F a b → G a b) : ∀ {l : List α} {m : List β}, PySem.Paired F l m → PySem.Paired G l m
  | _, _, .nil => .nil
  | _, _, .cons r t => .cons (h _ _ r) (paired_imp h t)
theorem UP.len {K : PySem.W.Frag} {H : Hp} {ps : List Addr} {us : List (Str × Int)} (h : UP K H ps us) : ps.length = us.length := PySem.Paired.length h
theorem UA.same {K : PySem.W.Frag} {H H' : Hp} {a : Addr} {us : List (Str × Int)} (s : Same H H') (h : UA K H a us) : UA K H' a us := by
  obtain ⟨ps, h1, h2⟩ := h
  exact ⟨ps, same_sqt s h1, paired_imp (fun _ _ => same_sqt s) h2⟩
theorem atI_end {α : Type} {xs : List α} {v : α} (h0 : 0 < xs.length) (h : xs[xs.length - 1]? = some v) : atI xs (-1) = some v := by
  unfold atI ixN
  have e1 : ¬ ((0 : Int) ≤ -1) := by omega
  have e2 : -(xs.length : Int) ≤ -1 := by omega
  have e3 : ((-1 : Int) + (xs.length : Int)).toNat = xs.length - 1 := by omega
  rw [if_neg e1, if_pos e2, e3]
  exact h
theorem get_ref {ps : List Addr} {i : Nat} {p : Addr} (h : ps[i]? = some p) : (ps.map V.ref)[i]? = some (.ref p) := by
  rw [List.getElem?_map, h]
  rfl
theorem of_get_ref {ps : List Addr} {i : Nat} {x : V} (h : (ps.map V.ref)[i]? = some x) : ∃ p, ps[i]? = some p ∧ x = .ref p := by
  rw [List.getElem?_map] at h
  cases e : ps[i]? with
  | none => rw [e] at h; cases h
  | some p => rw [e] at h; exact ⟨p, rfl, (Option.some.inj h).symm⟩
theorem paired_fst {α β : Type} {F : α → β → Prop} : ∀ {l : List α} {m : List β} {i : Nat} {a : α}, PySem.Paired F l m → l[i]? = some a → ∃ b, m[i]? = some b ∧ F a b
  | _, _, _, _, .nil, e => by simp at e
  | _, _, 0, _, .cons r _, e => by simp at e; subst e; exact ⟨_, rfl, r⟩
  | _, _, i + 1, b, .cons _ t, e => by
    obtain ⟨u, h1, h2⟩ := paired_fst (i := i) (a := b) t (by simpa using e)
    exact ⟨u, by simpa using h1, h2⟩
/-- a unit may stand behind others -/
def Fit (us : List (Str × Int)) (u : Str × Int) : Prop := (us = [] ∧ u.2 = 1) ∨ ∃ l, us[us.length - 1]? = some l ∧ us ≠ [] ∧ 0 < l.2 ∧ l.2 < u.2 ∧ u.2 % l.2 = 0 ∧ ∀ v ∈ us, v.1 ≠ u.1
theorem scFits : FnScope ["before", "unit", "name", "size", "last_size", "other"] ["before", "unit"] (defScope sFits) := ⟨rfl, rfl, rfl, by decide +kernel, rfl, by decide +kernel, by decide +kernel⟩
def spFits (K : PySem.W.Frag) : Sp := fun vs H Q _ => ∃ (b p : Addr) (us : List (Str × Int)) (u : Str × Int), vs = [.ref b, .ref p] ∧ UA K H b us ∧ SqT K H p [.str u.1, .int u.2] ∧ Fit us u ∧ us.length ≤ 6 ∧ ∀ H', Same H H' → Q (.bl true) H'
section
variable {P : Program} {w : World} {K : PySem.W.Frag} {mg : Str → Option Value} {base : Heap}
theorem ok_fits (d : Dd K mg "fits_behind" sFits ["before", "unit"]) (B : Bt mg) : FnOk P w K mg base CX0 2 d.f d.fd ["before", "unit"] (spFits K) := by
  refine d.F.ok scFits (fun vs H Q E h => ?_) (fun cdv A outer s H vs Q E hr h => ?_)
  · obtain ⟨_, _, _, _, rfl, _⟩ := h
    rfl
  · obtain ⟨b, p, us, ⟨z, n⟩, rfl, ⟨ps, hb, hu⟩, hp, hf, hlen, q⟩ := h
    refine ⟨_, pss_cons (ps_asg (pv 1) (pg_tup rfl (pgs_cons (pg_name (i := 2) scFits.nd rfl (.inl rfl)) (pgs_cons (pg_name (i := 3) scFits.nd rfl (.inl rfl)) pgs_nil))))
      (pss_cons (ps_if (pt_not (pt_truth (pv 0) (fun _ => rfl))) (pss_one (ps_ret (pe_cmpR op_eq (pv 3) pe_int (nomark _)))) pss_nil)
      (pss_cons (ps_set (i := 4) scFits.nd rfl (.inl rfl) (pe_ix ix_tup (pe_ix ix_tup (pv 0) (pe_un un_neg pe_int) (fun _ _ => rfl)) pe_int (fun _ _ => rfl)))
      (pss_one (ps_ret (pe_and (pe_cmpR op_gt (pv 3) (pv 4) (nomark _)) (pe_and (pe_cmpR op_eq (pe_op op_mod (pv 3) (pv 4)) pe_int (nomark _))
        (pe_one (pe_cmpR op_notIn_seq (pv 2)
          (pe_lc (own := [("other", 5)]) (g := gName 5) (tt := tYes) rfl scFits.nd (pi_tup (pv 0))
            (blkOk_by (own := [("other", 5)]) (N := ["before", "unit", "name", "size", "last_size", "other"]) (sc := defScope sFits) (by decide +kernel)) (fun _ _ _ _ _ => pg_name (i := 5) scFits.nd rfl (Or.inl rfl)) (fun _ _ _ _ _ => pts_nil)
            (fun _ _ _ _ _ => pe_ix (r := rIxT K) ix_tup (pv 5) pe_int (fun _ _ => rfl))) (by rfl))))))))), ?_⟩
    have el := UP.len hu
    refine ⟨.ref p, rfl, p, _, rfl, hp, rfl, .str z, [.int n], rfl, .int n, [], rfl, rfl, ?_⟩
    refine ⟨.ref b, rfl, _, .inr (.inl ⟨_, hb, rfl⟩), ?_⟩
    rcases hf with ⟨rfl, h1⟩ | ⟨⟨lz, ln⟩, hl, hne, h0, h1, h2, h3⟩
    · have e : ps = [] := List.length_eq_zero_iff.mp el
      subst e
      refine iteT ?_
      refine ⟨.int n, rfl, rfl, ?_⟩
      have e : decide (V.int n = V.int 1) = true := decide_eq_true (congrArg V.int h1)
      rw [e]
      exact q _ (Same.refl _)
    · obtain ⟨pl, hpl, hsl⟩ := paired_at hu hl
      have hps : ps ≠ [] := fun z => by
        rw [z] at hpl
        simp at hpl
      have hpos : 0 < ps.length := List.length_pos_iff.mpr hps
      have e0 : (!!(ps.map V.ref).isEmpty) = false := by
        cases ps with
        | nil => exact absurd rfl hps
        | cons a l => rfl
      rw [e0]
      refine iteF ?_
      refine ⟨.ref b, rfl, 1, rfl, b, _, -1, .ref pl, rfl, rfl, hb, atI_end (by rw [List.length_map]; exact hpos) (by rw [List.length_map, el]; exact get_ref hpl), pl, _, 1, .int ln, rfl, rfl, hsl, rfl, ?_⟩
      refine ⟨.int n, rfl, .int ln, rfl, n, ln, rfl, rfl, _, rfl, ?_⟩
      rw [if_pos (decide_eq_true h1)]
      refine ⟨.int n, rfl, .int ln, rfl, n, ln, rfl, rfl, h0, rfl, _, rfl, ?_⟩
      rw [if_pos (decide_eq_true (congrArg V.int h2 : V.int (n % ln) = V.int 0))]
      refine ⟨.str z, rfl, .ref b, rfl, b, rfl, ⟨_, hb⟩, fun D nD => ?_⟩
      refine lc_tup (K := K) (a := b) (xs := ps.map V.ref) (fun i H2 => Same H H2 ∧ H2 D = some (.lst ((us.take i).map fun u => V.str u.1))) ⟨same_upd nD, upd_same⟩ (fun i H2 _ h => same_sqt h.1 hb) ?_ ?_
      · rintro i x H2 hi ⟨sm, hD⟩
        obtain ⟨pi, hpi, rfl⟩ := of_get_ref hi
        obtain ⟨⟨uz, un⟩, hui, hsi⟩ := paired_fst hu hpi
        refine ⟨rfl, .ref pi, rfl, pi, _, 0, .str uz, rfl, rfl, same_sqt sm hsi, rfl, _, hD, ?_, fun c o e => ?_, ?_⟩
        · rw [List.length_map, List.length_take]
          exact Nat.lt_of_le_of_lt (Nat.le_trans (Nat.min_le_right _ _) hlen) (by decide)
        · rw [upd_ne (ne_of_none e nD)]
          exact sm _ _ e
        · rw [upd_same, List.take_add_one, hui, List.map_append]
          rfl
      · rintro H2 ⟨sm, hD⟩
        have et : us.take (ps.map V.ref).length = us := List.take_of_length_le (by rw [List.length_map, el]; exact Nat.le_refl _)
        rw [et] at hD
        refine ⟨D, _, rfl, .inl (SqL.of hD), rfl, ?_, ?_⟩
        · simp [List.all_map, flatV]
        · have e : inV (.str z) (us.map fun u => V.str u.1) = false := by
            unfold inV
            rw [List.any_eq_false]
            intro y hy
            obtain ⟨v, hv, rfl⟩ := List.mem_map.mp hy
            have := h3 v hv
            simpa [eqV] using this
          rw [if_pos rfl, e]
          exact q _ sm
end
end My

namespace My
open PySem PySem.Spec PyProof.Rows L2
theorem cut_take {xs : List V} (i : Nat) (hi : i ≤ xs.length) : cutV xs none (some (i : Int)) = xs.take i := by
  unfold cutV
  rw [HT.sIx_none, HT.sIx_nat, List.drop_zero, Nat.sub_zero, Nat.min_eq_left hi]
theorem cut_drop1 (xs : List V) : cutV xs (some 1) none = xs.drop 1 := by
  unfold cutV
  rw [HT.sIx_none, show HT.sIx xs.length 0 (some 1) = min 1 xs.length from HT.sIx_nat xs.length 0 1]
  cases xs with
  | nil => rfl
  | cons x r =>
    have e : min 1 (x :: r).length = 1 := by rw [List.length_cons]; omega
    rw [e]
    exact List.take_of_length_le (by rw [List.length_drop]; exact Nat.le_refl _)
theorem paired_take {α β : Type} {F : α → β → Prop} : ∀ {l : List α} {m : List β} (i : Nat), PySem.Paired F l m → PySem.Paired F (l.take i) (m.take i)
  | _, _, 0, _ => .nil
  | _, _, _ + 1, .nil => .nil
  | _, _, i + 1, .cons r t => .cons r (paired_take i t)
theorem paired_drop {α β : Type} {F : α → β → Prop} : ∀ {l : List α} {m : List β} (i : Nat), PySem.Paired F l m → PySem.Paired F (l.drop i) (m.drop i)
  | _, _, 0, r => r
  | _, _, _ + 1, .nil => .nil
  | _, _, i + 1, .cons _ t => paired_drop i t
/-- the units of a ladder -/
structure GoodUs (us : List (Str × Int)) : Prop where
  lo : 1 ≤ us.length
  hi : us.length ≤ 6
  each : ∀ i u, us[i]? = some u → GoodN u.1 ∧ 1 ≤ u.2 ∧ u.2 ≤ 1000000000000000000 ∧ Fit (us.take i) u
theorem scCUnits : FnScope ["units", "place", "unit"] ["units"] (defScope sCUnits) := ⟨rfl, rfl, rfl, by decide +kernel, rfl, by decide +kernel, by decide +kernel⟩
def spCUnits (K : PySem.W.Frag) : Sp := fun vs H Q _ => ∃ (a : Addr) (us : List (Str × Int)), vs = [.ref a] ∧ UA K H a us ∧ GoodUs us ∧ ∀ H', Same H H' → Q .non H'
section
variable {P : Program} {w : World} {K : PySem.W.Frag} {mg : Str → Option Value} {base : Heap}
theorem ok_cunits (d : Dd K mg "check_units" sCUnits ["units"]) (dU : Dd K mg "is_unit" sUnit ["unit"]) (dN : Dd K mg "is_unit_name" sUName ["name"]) (dW : DdW K mg) (dF : Dd K mg "fits_behind" sFits ["before", "unit"])
    (B : Bt mg) (G : Gc K mg) : FnOk P w K mg base CX0 4 d.f d.fd ["units"] (spCUnits K) := by
  obtain ⟨t1, g1⟩ := G.units
  have GU : FnOk P w K mg base CX0 3 dU.f dU.fd ["unit"] (spUnit K) := ok_unit dU dN dW B G
  have GF : FnOk P w K mg base CX0 2 dF.f dF.fd ["before", "unit"] (spFits K) := ok_fits dF B
  refine d.F.ok scCUnits (fun vs H Q E h => ?_) (fun cdv A outer s H vs Q E hr h => ?_)
  · obtain ⟨_, _, rfl, _⟩ := h
    rfl
  · obtain ⟨a, us, rfl, ⟨ps, ha, hu⟩, g, q⟩ := h
    have hr1 : Room 2 _ := hr.mono (by decide)
    refine ⟨_, pss_cons (ps_if (PW.pt (pw_or (pt_not (pt_val (pe_callB call_isi (by rfl) B.isinstance (by decide +kernel) (pa_cons (pv 0) (pa_cons (pe_bltn (v := .ty "tuple") (by rfl) B.tuple (by decide +kernel) rfl) pa_nil)))))
        (pw_or1 (pt_not (pt_chain op_le op_le pe_int (pe_callB call_len_seq (by rfl) B.len PySem.boot_len (pa_cons (pv 0) pa_nil)) (pe_glob (v := .int 6) (by rfl) g1 ⟨_, rfl⟩)))))) (pss_one ps_never) pss_nil)
      (pss_one (ps_for PassesOwn.never rfl (pi_enT (by rfl) B.enumerate (pa_cons (pv 0) pa_nil)) (pg_tup rfl (pgs_cons (pg_name (i := 1) scCUnits.nd rfl (.inl rfl)) (pgs_cons (pg_name (i := 2) scCUnits.nd rfl (.inl rfl)) pgs_nil)))
        (pss_one (ps_if (PW.pt (pw_or (pt_not (pt_val (pe_call GU hr (by rfl) dU.g dU.F.kp dU.b .nil pass0 (pa_cons (pv 2) pa_nil))))
          (pw_or1 (pt_not (pt_val (pe_call GF hr1 (by rfl) dF.g dF.F.kp dF.b .nil pass0 (pa_cons (pe_slice sl_tupA (pv 0) po_none (po_some (pv 1))) (pa_cons (pv 2) pa_nil)))))))) (pss_one ps_never) pss_nil)))), ?_⟩
    have el := UP.len hu
    refine ⟨_, rfl, _, _, _, _, true, rfl, .ty "tuple", tyx_tup ha, kit_ty (by decide +kernel), _, rfl, iteF ?_⟩
    refine ⟨.ref a, rfl, a, _, rfl, .inr ha, 1, _, rfl, rfl, _, rfl, ?_⟩
    have e1 : decide ((1 : Int) ≤ ((ps.map V.ref).length : Int)) = true := decide_eq_true (by rw [List.length_map, el]; have := g.lo; omega)
    have e2 : decide (((ps.map V.ref).length : Int) ≤ 6) = true := decide_eq_true (by rw [List.length_map, el]; have := g.hi; omega)
    rw [e1]
    refine iteT ?_
    refine ⟨_, _, rfl, rfl, _, rfl, ?_⟩
    rw [e2]
    refine iteF ?_
    refine ⟨.ref a, rfl, a, _, rfl, ha, for_enT (K := K) (a := a) (xs := ps.map V.ref) (fun i σ H2 => Same H H2 ∧ ∃ v1 v2, σ = [some (.ref a), v1, v2]) ⟨Same.refl _, none, none, rfl⟩ (fun i σ H2 _ h => same_sqt h.1 ha) ?_ ?_⟩
    · rintro i x σ H2 T hi ⟨sm, v1, v2, rfl⟩ nT
      obtain ⟨p, hp, rfl⟩ := of_get_ref hi
      obtain ⟨u, hu2, hs⟩ := paired_fst hu hp
      obtain ⟨k1, k2, k3, k4⟩ := g.each i u hu2
      have smT : Same H (upd H2 T (.tup [.int (i : Nat), .ref p])) := sm.trans (same_upd nT)
      have hi2 : i < ps.length := (List.getElem?_eq_some_iff.mp hp).1
      refine ⟨T, _, rfl, .inl (.inl upd_same), rfl, .int (i : Nat), [.ref p], rfl, .ref p, [], rfl, rfl, ?_⟩
      refine ⟨.ref p, rfl, p, u.1, u.2, rfl, same_sqt smT hs, k1, k2, k3, true, rfl, iteF ?_⟩
      refine ⟨.ref a, rfl, .int (i : Nat), rfl, _, rfl, a, _, rfl, same_sqt smT ha, fun z => ?_, fun _ c nc => ?_⟩
      · obtain ⟨_, z⟩ := z
        rw [HT.sIx_nat, List.length_map] at z
        omega
      · have smc := smT.trans (same_upd nc (o := .tup (cutV (ps.map V.ref) none (some (i : Int)))))
        have hcut : UA K (upd (upd H2 T (.tup [.int (i : Nat), .ref p])) c (.tup (cutV (ps.map V.ref) none (some (i : Int))))) c (us.take i) := by
          refine ⟨ps.take i, ?_, paired_take i (paired_imp (fun _ _ => same_sqt smc) hu)⟩
          rw [List.map_take, ← cut_take i (by rw [List.length_map]; omega)]
          exact SqT.of upd_same
        refine ⟨.ref p, rfl, c, p, us.take i, u, rfl, hcut, same_sqt smc hs, k4, ?_, fun H3 sm3 => ?_⟩
        · rw [List.length_take]
          exact Nat.le_trans (Nat.min_le_right _ _) g.hi
        · refine ⟨true, rfl, iteF ?_⟩
          exact ⟨smc.trans sm3, _, _, rfl⟩
    · rintro σ H2 ⟨sm, _⟩
      exact q _ sm
end
end My

namespace My
open PySem PySem.Spec PyProof.Rows L2
def notTup : HO → Bool
  | .tup _ => false
  | .frz _ _ => false
  | _ => true
theorem But.sqt {K : PySem.W.Frag} {a t : Addr} {o : HO} {xs : List V} {H H' : Hp} (hp : H a = some o) (n : notTup o = true) (b : But a H H') (h : SqT K H t xs) : SqT K H' t xs := by
  rcases h with (h | ⟨ob, h⟩) | h
  · refine .inl (.inl (b _ _ h ?_))
    rintro rfl
    rw [hp] at h
    cases h
    cases n
  · refine .inl (.inr ⟨ob, b _ _ h ?_⟩)
    rintro rfl
    rw [hp] at h
    cases h
    cases n
  · exact .inr h
theorem UA.but {K : PySem.W.Frag} {a t : Addr} {o : HO} {us : List (Str × Int)} {H H' : Hp} (hp : H a = some o) (n : notTup o = true) (b : But a H H') (h : UA K H t us) : UA K H' t us := by
  obtain ⟨ps, h1, h2⟩ := h
  exact ⟨ps, b.sqt hp n h1, paired_imp (fun _ _ => b.sqt hp n) h2⟩
theorem parts_at {d : Nat} (h : d ≤ 3) : atI [V.int 1, V.int 10, V.int 100, V.int 1000] (d : Int) = some (.int ((10 : Int) ^ d)) := by
  match d, h with
  | 0, _ => rfl
  | 1, _ => rfl
  | 2, _ => rfl
  | 3, _ => rfl
  | n + 4, h => omega
theorem pow_lo (d : Nat) : (0 : Int) < 10 ^ d := Int.pow_pos (by decide)
theorem pow_hi {d : Nat} (h : d ≤ 3) : (10 : Int) ^ d ≤ 1000 := by
  match d, h with
  | 0, _ => decide
  | 1, _ => decide
  | 2, _ => decide
  | 3, _ => decide
  | n + 4, h => omega
abbrev sCDec : Stmt := top 25
abbrev sCRnd : Stmt := top 26
theorem scCDec : FnScope ["units", "decimals", "unit"] ["units", "decimals"] (defScope sCDec) := ⟨rfl, rfl, rfl, by decide +kernel, rfl, by decide +kernel, by decide +kernel⟩
theorem scCRnd : FnScope ["rounding"] ["rounding"] (defScope sCRnd) := ⟨rfl, rfl, rfl, by decide +kernel, rfl, by decide +kernel, by decide +kernel⟩
def spCDec (K : PySem.W.Frag) : Sp := fun vs H Q _ => ∃ (a : Addr) (us : List (Str × Int)) (d : Nat), vs = [.ref a, .int (d : Int)] ∧ UA K H a us ∧ 1 ≤ us.length ∧ d ≤ 3 ∧ (∀ u ∈ us.drop 1, u.2 % (2 * 10 ^ d) = 0) ∧ ∀ H', Same H H' → Q .non H'
def sorts : List Str := ["down", "up", "near", "even"]
def spCRnd : Sp := fun vs H Q _ => ∃ z : Str, vs = [.str z] ∧ z ∈ sorts ∧ Q .non H
section
variable {P : Program} {w : World} {K : PySem.W.Frag} {mg : Str → Option Value} {base : Heap}
theorem ok_crnd (d : Dd K mg "check_rounding" sCRnd ["rounding"]) (B : Bt mg) (G : Gc K mg) : FnOk P w K mg base CX0 2 d.f d.fd ["rounding"] spCRnd := by
  obtain ⟨a1, g1, g2⟩ := G.rounds
  refine d.F.ok scCRnd (fun vs H Q E h => ?_) (fun cdv A outer s H vs Q E hr h => ?_)
  · obtain ⟨_, rfl, _⟩ := h
    rfl
  · obtain ⟨z, rfl, hz, q⟩ := h
    refine ⟨_, pss_one (ps_if (PW.pt (pw_or (pt_not (pt_val (pe_callB call_isi (by rfl) B.isinstance (by decide +kernel) (pa_cons (pv 0) (pa_cons (pe_bltn (v := .ty "str") (by rfl) B.str (by decide +kernel) rfl) pa_nil)))))
        (pw_or1 (pt_cmpR op_notIn_seq (pv 0) (pe_glob (v := .ref a1) (by rfl) g1 rfl) (by rfl))))) (pss_one ps_never) pss_nil), ?_⟩
    refine ⟨_, rfl, _, _, _, _, true, rfl, .ty "str", .base (.str z), kit_ty (by decide +kernel), _, rfl, iteF ?_⟩
    refine ⟨_, rfl, a1, _, rfl, .inr (g2 H), rfl, rfl, ?_⟩
    have e : inV (.str z) [.str "down", .str "up", .str "near", .str "even"] = true := by
      unfold inV sorts at *
      simp only [List.mem_cons, List.not_mem_nil, or_false] at hz
      rcases hz with rfl | rfl | rfl | rfl <;> decide +kernel
    rw [if_pos rfl, e]
    refine ⟨_, rfl, iteF ?_⟩
    exact q
theorem ok_cdec (d : Dd K mg "check_decimals" sCDec ["units", "decimals"]) (dW : DdW K mg) (B : Bt mg) (G : Gc K mg) : FnOk P w K mg base CX0 3 d.f d.fd ["units", "decimals"] (spCDec K) := by
  obtain ⟨t1, g1⟩ := G.decs
  obtain ⟨a2, g2, g3⟩ := G.parts
  have GW : FnOk P w K mg base CX0 2 dW.f dW.fd ["value", "low", "high"] spWithin := ok_within dW B
  refine d.F.ok scCDec (fun vs H Q E h => ?_) (fun cdv A outer s H vs Q E hr h => ?_)
  · obtain ⟨_, _, _, rfl, _⟩ := h
    rfl
  · obtain ⟨a, us, dn, rfl, ⟨ps, ha, hu⟩, hlen, hd, hall, q⟩ := h
    refine ⟨_, pss_cons (ps_if (pt_not (pt_val (pe_call GW hr (by rfl) dW.g dW.F.kp dW.b .nil pass0 (pa_cons (pv 1) (pa_cons pe_int (pa_cons (pe_glob (v := .int 3) (by rfl) g1 ⟨_, rfl⟩) pa_nil)))))) (pss_one ps_never) pss_nil)
      (pss_one (ps_for PassesOwn.never rfl (pi_tup (pe_slice sl_tupA (pv 0) (po_some pe_int) po_none)) (pg_name (i := 2) scCDec.nd rfl (.inl rfl))
        (pss_one (ps_if (pt_cmpR op_ne (pe_op op_mod (pe_ix ix_tup (pv 2) pe_int (fun _ _ => rfl)) (pe_op op_mul pe_int (pe_ix ix_tup (pe_glob (v := .ref a2) (by rfl) g2 rfl) (pv 1) (fun _ _ => rfl)))) pe_int (nomark _)) (pss_one ps_never) pss_nil)))), ?_⟩
    have el := UP.len hu
    refine ⟨.int (dn : Int), rfl, dn, 0, 3, rfl, ?_⟩
    rw [decide_eq_true (show (0 : Int) ≤ (dn : Int) ∧ (dn : Int) ≤ 3 by omega)]
    refine ⟨true, rfl, iteF ?_⟩
    refine ⟨.ref a, rfl, 1, rfl, a, _, rfl, ha, fun z => ?_, fun _ c nc => ?_⟩
    · obtain ⟨z, _⟩ := z
      rw [show HT.sIx (ps.map V.ref).length 0 (some 1) = min 1 (ps.map V.ref).length from HT.sIx_nat _ 0 1, List.length_map] at z
      omega
    · have smc : Same H (upd H c (.tup (cutV (ps.map V.ref) (some 1) none))) := same_upd nc
      refine ⟨c, rfl, ⟨_, SqT.of upd_same⟩, for_tup (K := K) (a := c) (xs := cutV (ps.map V.ref) (some 1) none) (fun i σ H2 => Same (upd H c (.tup (cutV (ps.map V.ref) (some 1) none))) H2 ∧ ∃ v, σ = [some (.ref a), some (.int (dn : Int)), v])
        ⟨Same.refl _, none, rfl⟩ (fun i σ H2 _ h => same_sqt h.1 (SqT.of upd_same)) ?_ ?_⟩
      · rintro i x σ H2 hi ⟨sm, v, rfl⟩
        rw [cut_drop1, ← List.map_drop] at hi
        obtain ⟨p, hp, rfl⟩ := of_get_ref hi
        obtain ⟨u, hu2, hs⟩ := paired_fst (paired_drop 1 hu) hp
        have hm : u ∈ us.drop 1 := List.mem_of_getElem? hu2
        have hz := hall u hm
        have hpos := pow_lo dn
        have hhi := pow_hi hd
        refine ⟨.ref p, rfl, p, _, 1, .int u.2, rfl, rfl, same_sqt sm (same_sqt smc hs), rfl, .int (dn : Int), rfl, a2, _, dn, _, rfl, rfl, g3 H2, parts_at hd, 2, _, rfl, rfl, .inl ⟨by decide, by decide⟩, u.2, _, rfl, rfl, (by show (0 : Int) < 2 * 10 ^ dn; omega), rfl, _, rfl, ?_⟩
        have e : (!decide (V.int (u.2 % (2 * 10 ^ dn)) = V.int 0)) = false := by rw [hz]; rfl
        rw [e]
        refine iteF ?_
        exact ⟨sm, _, rfl⟩
      · rintro σ H2 ⟨sm, _⟩
        exact q _ (smc.trans sm)
end
end My

namespace My
open PySem PySem.Spec PyProof.Rows L2
abbrev sLInit : Stmt := inClass (top 24) 0
theorem scLInit : FnScope ["self", "units", "decimals", "rounding", "carry", "least", "unit"] ["self", "units", "decimals", "rounding", "carry", "least"] (defScope sLInit) := ⟨rfl, rfl, rfl, by decide +kernel, rfl, by decide +kernel, by decide +kernel⟩
/-- the class Ladder -/
structure LadC (K : PySem.W.Frag) (mg : Str → Option Value) where
  C : Addr
  f : Addr
  fd : FuncData
  F : Fun K "__init__" "Ladder.__init__" sLInit f fd
  M : Mk K C f
  g : mg "Ladder" = some (.ref C)
  cl : Cls K C
  nUnits : NoAttr K C "units"
  nDec : NoAttr K C "decimals"
  nRnd : NoAttr K C "rounding"
  nCarry : NoAttr K C "carry"
  nLeast : NoAttr K C "least"
  nTold : NoAttr K C "told"
  nSteps : NoAttr K C "steps"
  nThr : NoAttr K C "thresholds"
/-- the attributes of a ladder, in their order -/
def fs5 (u : Addr) (d : Nat) (s : Str) (c : Bool) (l : Int) : List (Str × V) :=
  putF "least" (.int l) (putF "carry" (.bl c) (putF "rounding" (.str s) (putF "decimals" (.int (d : Int)) (putF "units" (.ref u) []))))
def flds (u : Addr) (d : Nat) (s : Str) (c : Bool) (l : Int) (t st th : Addr) : List (Str × V) :=
  putF "thresholds" (.ref th) (putF "steps" (.ref st) (putF "told" (.ref t) (fs5 u d s c l)))
local macro_rules | `(tactic| walk_at "my look") => `(tactic| (unfold flds fs5; repeat (first | rw [lookup_putF, if_pos rfl] | rw [lookup_putF, if_neg (by decide +kernel)])))
section
variable (u : Addr) (d : Nat) (s : Str) (c : Bool) (l : Int) (t st th : Addr)
theorem fl_units : (flds u d s c l t st th).lookup ("units" : Str) = some (.ref u) := by walk_at "my look"
theorem fl_dec : (flds u d s c l t st th).lookup ("decimals" : Str) = some (.int (d : Int)) := by walk_at "my look"
theorem fl_rnd : (flds u d s c l t st th).lookup ("rounding" : Str) = some (.str s) := by walk_at "my look"
theorem fl_carry : (flds u d s c l t st th).lookup ("carry" : Str) = some (.bl c) := by walk_at "my look"
theorem fl_least : (flds u d s c l t st th).lookup ("least" : Str) = some (.int l) := by walk_at "my look"
theorem fl_told : (flds u d s c l t st th).lookup ("told" : Str) = some (.ref t) := by walk_at "my look"
theorem fl_steps : (flds u d s c l t st th).lookup ("steps" : Str) = some (.ref st) := by walk_at "my look"
theorem fl_thr : (flds u d s c l t st th).lookup ("thresholds" : Str) = some (.ref th) := by walk_at "my look"
end
/-- steps and thresholds -/
def stepsOf (us : List (Str × Int)) (d : Nat) : List Int := 1 :: (us.drop 1).map fun u => u.2 / 10 ^ d
def thrsOf (us : List (Str × Int)) (l : Int) : List Int := 0 :: (us.drop 1).map fun u => u.2 * l
/-- what a ladder is made of -/
structure Good (us : List (Str × Int)) (d : Nat) (s : Str) (l : Int) : Prop where
  u : GoodUs us
  d3 : d ≤ 3
  div : ∀ u ∈ us.drop 1, u.2 % (2 * 10 ^ d) = 0
  srt : s ∈ sorts
  l1 : 1 ≤ l
  l2 : l ≤ 1000
def spLInit (K : PySem.W.Frag) (C : Addr) : Sp := fun vs H Q _ => ∃ (p dx ua : Addr) (us : List (Str × Int)) (d : Nat) (s : Str) (c : Bool) (l : Int), vs = [.ref p, .ref ua, .int (d : Int), .str s, .bl c, .int l] ∧ H p = some (.ins C dx []) ∧ UA K H ua us ∧ Good us d s l ∧
  ∀ (H' : Hp) (t st th : Addr), But p H H' → H' p = some (.ins C dx (flds ua d s c l t st th)) → SqT K H' t [.ref ua, .int (d : Int), .str s, .bl c, .int l] → SqT K H' st ((stepsOf us d).map V.int) → SqT K H' th ((thrsOf us l).map V.int) → Q .non H'
/-- [.. for unit in t], t a tuple of units, each to an int -/
theorem comp_units {K : PySem.W.Frag} {tl te : TE} {k : Nat} {σ : L2.St} {H : Hp} {Q : VK} {fn : Str × Int → Int} {vs : List (Str × Int)} {ps : List Addr} (hu : UP K H ps vs) (hlen : vs.length ≤ 6)
    (htl : ∀ Qt : VK, (∀ c H1, Same H H1 → SqT K H1 c (ps.map V.ref) → Qt (.ref c) H1) → tl σ H Qt)
    (hte : ∀ (pu : Addr) (u : Str × Int) (H4 : Hp) (Qe : VK), u ∈ vs → Same H H4 → SqT K H4 pu [.str u.1, .int u.2] → Qe (.int (fn u)) H4 → te ((wipe σ [k]).set k (some (.ref pu))) H4 Qe)
    (hw : ∀ y, wipe ((wipe σ [k]).set k (some y)) [k] = wipe σ [k])
    (hq : ∀ D H4, Same H H4 → H D = none → H4 D = some (.lst ((vs.map fn).map V.int)) → Q (.ref D) H4) : tLc (iTup K tl) (gName k) tYes te [k] σ H Q := by
  refine htl _ fun c H1 s1 hc => ⟨c, rfl, ⟨_, hc⟩, fun D nD => ?_⟩
  have el := UP.len hu
  refine lc_tup (K := K) (a := c) (xs := ps.map V.ref) (fun i H4 => Same H1 H4 ∧ H4 D = some (.lst (((vs.take i).map fn).map V.int))) ⟨same_upd nD, upd_same⟩ (fun i H4 _ h => same_sqt h.1 hc) ?_ ?_
  · rintro i y H4 hi ⟨sm, hD⟩
    obtain ⟨pu, hpu, rfl⟩ := of_get_ref hi
    obtain ⟨u, hu2, hs⟩ := paired_fst hu hpu
    refine ⟨hw _, hte pu u H4 _ (List.mem_of_getElem? hu2) (s1.trans sm) (same_sqt (s1.trans sm) hs) ⟨_, hD, ?_, fun b o e => ?_, ?_⟩⟩
    · rw [List.length_map, List.length_map, List.length_take]
      exact Nat.lt_of_le_of_lt (Nat.le_trans (Nat.min_le_right _ _) hlen) (by decide)
    · rw [upd_ne (ne_of_none e nD)]
      exact sm _ _ e
    · rw [upd_same, List.take_add_one, hu2, List.map_append, List.map_append]
      rfl
  · rintro H4 ⟨sm, hD⟩
    rw [List.length_map, el, List.take_of_length_le (Nat.le_refl _)] at hD
    exact hq D H4 (s1.trans sm) (s1.free nD) hD
/-- t[1:] of a tuple that is not empty -/
theorem rest_of {K : PySem.W.Frag} {H : Hp} {a : Addr} {xs : List V} {te : TE} {σ : L2.St} {Q : VK} (ha : SqT K H a xs) (h1 : 1 ≤ xs.length) (hte : ∀ Qt : VK, Qt (.ref a) H → te σ H Qt) (hq : ∀ c H1, Same H H1 → SqT K H1 c (xs.drop 1) → Q (.ref c) H1) :
    tSl (rSlA K) te (tPart (tC (.int 1))) tNoPart σ H Q := by
  refine hte _ ⟨1, rfl, a, xs, rfl, ha, fun z => ?_, fun _ c nc => ?_⟩
  · obtain ⟨z, _⟩ := z
    rw [show HT.sIx xs.length 0 (some 1) = min 1 xs.length from HT.sIx_nat _ 0 1] at z
    omega
  · refine hq c _ (same_upd nc) ?_
    rw [← cut_drop1]
    exact SqT.of upd_same
theorem few {f : Str} {v : V} {fs : List (Str × V)} {n : Nat} (h : fs.length ≤ n) : (putF f v fs).length ≤ n + 1 := Nat.le_trans (length_putF f v fs) (Nat.succ_le_succ h)
section
variable {P : Program} {w : World} {K : PySem.W.Frag} {mg : Str → Option Value} {base : Heap}
theorem ok_linit (L : LadC K mg) (dC : Dd K mg "check_units" sCUnits ["units"]) (dU : Dd K mg "is_unit" sUnit ["unit"]) (dN : Dd K mg "is_unit_name" sUName ["name"]) (dW : DdW K mg) (dF : Dd K mg "fits_behind" sFits ["before", "unit"])
    (dD : Dd K mg "check_decimals" sCDec ["units", "decimals"]) (dR : Dd K mg "check_rounding" sCRnd ["rounding"]) (B : Bt mg) (G : Gc K mg) :
    FnOk P w K mg base CX0 5 L.f L.fd ["self", "units", "decimals", "rounding", "carry", "least"] (spLInit K L.C) := by
  obtain ⟨a2, g2, g3⟩ := G.parts
  obtain ⟨t1, g1⟩ := G.least
  have GC : FnOk P w K mg base CX0 4 dC.f dC.fd ["units"] (spCUnits K) := ok_cunits dC dU dN dW dF B G
  have GD : FnOk P w K mg base CX0 3 dD.f dD.fd ["units", "decimals"] (spCDec K) := ok_cdec dD dW B G
  have GR : FnOk P w K mg base CX0 2 dR.f dR.fd ["rounding"] spCRnd := ok_crnd dR B G
  have GW : FnOk P w K mg base CX0 2 dW.f dW.fd ["value", "low", "high"] spWithin := ok_within dW B
  refine L.F.ok scLInit (fun vs H Q E h => ?_) (fun cdv A outer s H vs Q E hr h => ?_)
  · obtain ⟨_, _, _, _, _, _, _, _, rfl, _⟩ := h
    rfl
  · obtain ⟨p, dx, ua, us, dn, rs, cy, lt, rfl, hp, hU, g, q⟩ := h
    have hr2 : Room 3 _ := hr.mono (by decide)
    have hr1 : Room 2 _ := hr.mono (by decide)
    have nd := scLInit.nd
    refine ⟨_, pss_cons (ps_expr (pe_call GC hr (by rfl) dC.g dC.F.kp dC.b .nil pass0 (pa_cons (pv 1) pa_nil)))
      (pss_cons (ps_expr (pe_call GD hr2 (by rfl) dD.g dD.F.kp dD.b .nil pass0 (pa_cons (pv 1) (pa_cons (pv 2) pa_nil))))
      (pss_cons (ps_expr (pe_call GR hr1 (by rfl) dR.g dR.F.kp dR.b .nil pass0 (pa_cons (pv 3) pa_nil)))
      (pss_cons (ps_if (pt_not (pt_val (pe_callB call_isi (by rfl) B.isinstance (by decide +kernel) (pa_cons (pv 4) (pa_cons (pe_bltn (v := .ty "bool") (by rfl) B.bool (by decide +kernel) rfl) pa_nil))))) (pss_one ps_never) pss_nil)
      (pss_cons (ps_if (pt_not (pt_val (pe_call GW hr1 (by rfl) dW.g dW.F.kp dW.b .nil pass0 (pa_cons (pv 5) (pa_cons pe_int (pa_cons (pe_glob (v := .int 1000) (by rfl) g1 ⟨_, rfl⟩) pa_nil)))))) (pss_one ps_never) pss_nil)
      (pss_cons (ps_fld (pv 0) (pv 1) rfl)
      (pss_cons (ps_fld (pv 0) (pv 2) rfl)
      (pss_cons (ps_fld (pv 0) (pv 3) rfl)
      (pss_cons (ps_fld (pv 0) (pv 4) rfl)
      (pss_cons (ps_fld (pv 0) (pv 5) rfl)
      (Evl.pss_cut (ps_fld (pv 0) (pe_tup (pa_cons (pv 1) (pa_cons (pv 2) (pa_cons (pv 3) (pa_cons (pv 4) (pa_cons (pv 5) pa_nil)))))) rfl)
      (Evl.pss_cut (ps_fld (pv 0) (pe_op op_catA (pe_tup (pa_cons pe_int pa_nil)) (pe_tupleOf (by rfl) B.tuple
        (pe_lc (own := [("unit", 6)]) (g := gName 6) (tt := tYes) rfl nd (pi_tup (pe_slice sl_tupA (pv 1) (po_some pe_int) po_none))
            (blkOk_by (own := [("unit", 6)]) (N := ["self", "units", "decimals", "rounding", "carry", "least", "unit"]) (sc := defScope sLInit) (by decide +kernel)) (fun _ _ _ _ _ => pg_name (i := 6) nd rfl (Or.inl rfl)) (fun _ _ _ _ _ => pts_nil)
            (fun _ _ _ _ _ => pe_op op_fdiv (pe_ix (r := rIxT K) ix_tup (pv 6) pe_int (fun _ _ => rfl)) (pe_ix (r := rIxT K) ix_tup (pe_glob (v := .ref a2) (by rfl) g2 rfl) (pv 2) (fun _ _ => rfl)))))) rfl)
      (pss_one (ps_fld (pv 0) (pe_op op_catA (pe_tup (pa_cons pe_int pa_nil)) (pe_tupleOf (by rfl) B.tuple
        (pe_lc (own := [("unit", 6)]) (g := gName 6) (tt := tYes) rfl nd (pi_tup (pe_slice sl_tupA (pv 1) (po_some pe_int) po_none))
            (blkOk_by (own := [("unit", 6)]) (N := ["self", "units", "decimals", "rounding", "carry", "least", "unit"]) (sc := defScope sLInit) (by decide +kernel)) (fun _ _ _ _ _ => pg_name (i := 6) nd rfl (Or.inl rfl)) (fun _ _ _ _ _ => pts_nil)
            (fun _ _ _ _ _ => pe_op op_mul (pe_ix (r := rIxT K) ix_tup (pv 6) pe_int (fun _ _ => rfl)) (pv 5))))) rfl))))))))))))), ?_⟩
    have nt : notTup (.ins L.C dx []) = true := rfl
    -- the checks
    refine ⟨.ref ua, rfl, ua, us, rfl, hU, g.u, fun H1 s1 => ?_⟩
    refine ⟨.ref ua, rfl, .int (dn : Int), rfl, ua, us, dn, rfl, hU.same s1, g.u.lo, g.d3, g.div, fun H2 s2 => ?_⟩
    have s12 := s1.trans s2
    refine ⟨.str rs, rfl, rs, rfl, g.srt, ?_⟩
    refine ⟨_, rfl, _, _, _, _, true, rfl, .ty "bool", .base (.bl cy), kit_ty (by decide +kernel), _, rfl, iteF ?_⟩
    refine ⟨.int lt, rfl, lt, 1, 1000, rfl, ?_⟩
    rw [decide_eq_true (show (1 : Int) ≤ lt ∧ lt ≤ 1000 from ⟨g.l1, g.l2⟩)]
    refine ⟨true, rfl, iteF ?_⟩
    -- the fields
    have hp2 : H2 p = some (.ins L.C dx []) := s12 _ _ hp
    have cl := L.cl
    refine ⟨_, rfl, _, rfl, p, L.C, dx, _, rfl, hp2, cl, L.nUnits, by decide, ?_⟩
    refine ⟨_, rfl, _, rfl, p, L.C, dx, _, rfl, upd_same, cl, L.nDec, (by show 1 < 1000; decide), ?_⟩
    refine ⟨_, rfl, _, rfl, p, L.C, dx, _, rfl, upd_same, cl, L.nRnd, Nat.lt_of_le_of_lt (few (few (Nat.zero_le 0))) (by decide), ?_⟩
    refine ⟨_, rfl, _, rfl, p, L.C, dx, _, rfl, upd_same, cl, L.nCarry, Nat.lt_of_le_of_lt (few (few (few (Nat.zero_le 0)))) (by decide), ?_⟩
    refine ⟨_, rfl, _, rfl, p, L.C, dx, _, rfl, upd_same, cl, L.nLeast, Nat.lt_of_le_of_lt (few (few (few (few (Nat.zero_le 0))))) (by decide), ?_⟩
    have b5 : ∀ {H' : Hp}, But p H2 H' → But p H H' := fun b => (Same.but s12).trans b
    have lt5 : (fs5 ua dn rs cy lt).length ≤ 5 := few (few (few (few (few (Nat.zero_le 0)))))
    refine ⟨fun σ' H' => ∃ t, σ' = [some (.ref p), some (.ref ua), some (.int (dn : Int)), some (.str rs), some (.bl cy), some (.int lt), none] ∧ But p H H' ∧ H' p = some (.ins L.C dx (putF "told" (.ref t) (fs5 ua dn rs cy lt))) ∧
      SqT K H' t [.ref ua, .int (dn : Int), .str rs, .bl cy, .int lt], ?_, ?_⟩
    · refine ⟨_, rfl, _, rfl, _, rfl, _, rfl, _, rfl, (by show 5 ≤ sizeLine; decide), fun t nt' => ?_⟩
      have npt : p ≠ t := ne_of_none upd_same nt'
      refine ⟨_, rfl, p, L.C, dx, _, rfl, (by rw [upd_ne npt]; exact upd_same), cl, L.nTold, Nat.lt_of_le_of_lt lt5 (by decide), ?_⟩
      refine ⟨t, rfl, b5 ?_, upd_same, ?_⟩
      · exact (((((((But.upd _ _ _).trans (But.upd _ _ _)).trans (But.upd _ _ _)).trans (But.upd _ _ _)).trans (But.upd _ _ _)).trans (Same.but (same_upd nt')))).trans (But.upd _ _ _)
      · refine SqT.of ?_
        rw [upd_ne npt.symm]
        exact upd_same
    rintro σ' H3 ⟨t, rfl, b3, hp3, ht3⟩
    have lt6 : (putF "told" (V.ref t) (fs5 ua dn rs cy lt)).length ≤ 6 := few lt5
    have lt7 : ∀ st, (putF "steps" (V.ref st) (putF "told" (V.ref t) (fs5 ua dn rs cy lt))).length ≤ 7 := fun st => few lt6
    have each : ∀ u ∈ us.drop 1, 1 ≤ u.2 ∧ u.2 ≤ 1000000000000000000 := fun u hm => by
      obtain ⟨j, hj⟩ := List.getElem?_of_mem (List.mem_of_mem_drop hm)
      obtain ⟨_, h1, h2, _⟩ := g.u.each j u hj
      exact ⟨h1, h2⟩
    have nt1 : ∀ fs, notTup (.ins L.C dx fs) = true := fun _ => rfl
    have hl6 : (us.drop 1).length ≤ 6 := by rw [List.length_drop]; have := g.u.hi; omega
    have lenr : ∀ fn : Str × Int → Int, (((us.drop 1).map fn).map V.int).length ≤ 6 := fun fn => by rw [List.length_map, List.length_map]; exact hl6
    refine ⟨fun σ' H' => ∃ st, σ' = [some (.ref p), some (.ref ua), some (.int (dn : Int)), some (.str rs), some (.bl cy), some (.int lt), none] ∧ But p H H' ∧ H' p = some (.ins L.C dx (putF "steps" (.ref st) (putF "told" (.ref t) (fs5 ua dn rs cy lt)))) ∧
      SqT K H' t [.ref ua, .int (dn : Int), .str rs, .bl cy, .int lt] ∧ SqT K H' st ((stepsOf us dn).map V.int), ?_, ?_⟩
    · refine ⟨(by show 1 ≤ sizeLine; decide), fun x nx => ?_⟩
      have sx := same_upd nx (o := .tup [.int 1])
      obtain ⟨ps, ha, hu⟩ := (hU.but hp nt b3).same sx
      have el := UP.len hu
      refine comp_units (paired_drop 1 hu) hl6 (fun Qt hq => rest_of (te := tVar 1) ha (by rw [List.length_map, el]; exact g.u.lo) (fun Qt h => ⟨_, rfl, h⟩) (fun c H1 s1 h => hq c H1 s1 (by rw [List.map_drop]; exact h))) (fn := fun u => u.2 / 10 ^ dn) ?_ (fun y => rfl) ?_
      · intro pu u H4 Qe hm sm hs q4
        exact ⟨.ref pu, rfl, pu, _, 1, .int u.2, rfl, rfl, hs, rfl, .int (dn : Int), rfl, a2, _, dn, _, rfl, rfl, g3 H4, parts_at g.d3, u.2, _, rfl, rfl, ⟨pow_lo dn, Int.lt_of_le_of_lt (pow_hi g.d3) (by decide)⟩, q4⟩
      · intro D H4 sm nD hD
        have hx4 : H4 x = some (.tup [.int 1]) := sm _ _ upd_same
        have fin : ∀ (st : Addr) (H5 : Hp), Same H4 H5 → SqT K H5 st ((stepsOf us dn).map V.int) → H5 p = some (.ins L.C dx (putF "told" (.ref t) (fs5 ua dn rs cy lt))) ∧ ∀ o, But p H (upd H5 p o) ∧ SqT K (upd H5 p o) t [.ref ua, .int (dn : Int), .str rs, .bl cy, .int lt] ∧ SqT K (upd H5 p o) st ((stepsOf us dn).map V.int) := fun st H5 s5 hst => by
          have s35 := (sx.trans sm).trans s5
          have hp5 := s35 _ _ hp3
          exact ⟨hp5, fun o => ⟨b3.trans ((Same.but s35).trans (But.upd _ _ _)), (But.upd _ _ _).sqt hp5 rfl (same_sqt s35 ht3), (But.upd _ _ _).sqt hp5 rfl hst⟩⟩
        refine .inl ⟨D, _, rfl, SqL.of hD, fun r nr => ?_⟩
        have sr := same_upd nr (o := .tup (((us.drop 1).map fun u => u.2 / 10 ^ dn).map V.int))
        refine ⟨x, r, [.int 1], ((us.drop 1).map fun u => u.2 / 10 ^ dn).map V.int, rfl, rfl, SqT.of (sr _ _ hx4), SqT.of upd_same, Nat.le_trans (Nat.add_le_add_left (lenr _) 1) (by decide), (fun z => nomatch z), fun _ z => ?_, fun _ z y ny => ?_⟩
        · obtain ⟨f1, f2⟩ := fin x _ sr (SqT.of (by
            have e : (stepsOf us dn).map V.int = [.int 1] := by unfold stepsOf; rw [List.map_cons, z]
            rw [e]
            exact sr _ _ hx4))
          obtain ⟨f3, f4, f5⟩ := f2 (.ins L.C dx (putF "steps" (.ref x) (putF "told" (.ref t) (fs5 ua dn rs cy lt))))
          exact ⟨_, rfl, p, L.C, dx, _, rfl, f1, cl, L.nSteps, Nat.lt_of_le_of_lt lt6 (by decide), x, rfl, f3, upd_same, f4, f5⟩
        · obtain ⟨f1, f2⟩ := fin y _ (sr.trans (same_upd ny)) (SqT.of upd_same)
          obtain ⟨f3, f4, f5⟩ := f2 (.ins L.C dx (putF "steps" (.ref y) (putF "told" (.ref t) (fs5 ua dn rs cy lt))))
          exact ⟨_, rfl, p, L.C, dx, _, rfl, f1, cl, L.nSteps, Nat.lt_of_le_of_lt lt6 (by decide), y, rfl, f3, upd_same, f4, f5⟩
    rintro σ' H6 ⟨st, rfl, b6, hp6, ht6, hs6⟩
    -- the thresholds
    refine ⟨(by show 1 ≤ sizeLine; decide), fun x nx => ?_⟩
    have sx := same_upd nx (o := .tup [.int 0])
    obtain ⟨ps, ha, hu⟩ := (hU.but hp nt b6).same sx
    have el := UP.len hu
    refine comp_units (paired_drop 1 hu) hl6 (fun Qt hq => rest_of (te := tVar 1) ha (by rw [List.length_map, el]; exact g.u.lo) (fun Qt h => ⟨_, rfl, h⟩) (fun c H1 s1 h => hq c H1 s1 (by rw [List.map_drop]; exact h))) (fn := fun u => u.2 * lt) ?_ (fun y => rfl) ?_
    · intro pu u H4 Qe hm sm hs q4
      obtain ⟨k1, k2⟩ := each u hm
      exact ⟨.ref pu, rfl, pu, _, 1, .int u.2, rfl, rfl, hs, rfl, .int lt, rfl, u.2, lt, rfl, rfl, .inl ⟨by omega, by omega⟩, q4⟩
    · intro D H4 sm nD hD
      have hx4 : H4 x = some (.tup [.int 0]) := sm _ _ upd_same
      have fin : ∀ (th : Addr) (H5 : Hp), Same H4 H5 → SqT K H5 th ((thrsOf us lt).map V.int) → H5 p = some (.ins L.C dx (putF "steps" (.ref st) (putF "told" (.ref t) (fs5 ua dn rs cy lt)))) ∧ Q .non (upd H5 p (.ins L.C dx (flds ua dn rs cy lt t st th))) := fun th H5 s5 hth => by
        have s35 := (sx.trans sm).trans s5
        have hp5 := s35 _ _ hp6
        exact ⟨hp5, q _ t st th (b6.trans ((Same.but s35).trans (But.upd _ _ _))) upd_same ((But.upd _ _ _).sqt hp5 rfl (same_sqt s35 ht6)) ((But.upd _ _ _).sqt hp5 rfl (same_sqt s35 hs6)) ((But.upd _ _ _).sqt hp5 rfl hth)⟩
      refine .inl ⟨D, _, rfl, SqL.of hD, fun r nr => ?_⟩
      have sr := same_upd nr (o := .tup (((us.drop 1).map fun u => u.2 * lt).map V.int))
      refine ⟨x, r, [.int 0], ((us.drop 1).map fun u => u.2 * lt).map V.int, rfl, rfl, SqT.of (sr _ _ hx4), SqT.of upd_same, Nat.le_trans (Nat.add_le_add_left (lenr _) 1) (by decide), (fun z => nomatch z), fun _ z => ?_, fun _ z y ny => ?_⟩
      · obtain ⟨f1, f2⟩ := fin x _ sr (SqT.of (by
          have e : (thrsOf us lt).map V.int = [.int 0] := by unfold thrsOf; rw [List.map_cons, z]
          rw [e]
          exact sr _ _ hx4))
        exact ⟨_, rfl, p, L.C, dx, _, rfl, f1, cl, L.nThr, Nat.lt_of_le_of_lt (lt7 _) (by decide), f2⟩
      · obtain ⟨f1, f2⟩ := fin y _ (sr.trans (same_upd ny)) (SqT.of upd_same)
        exact ⟨_, rfl, p, L.C, dx, _, rfl, f1, cl, L.nThr, Nat.lt_of_le_of_lt (lt7 _) (by decide), f2⟩
end
end My

namespace My
open PySem PySem.Spec PyProof.Rows L2
/-! ### the mirror -/
def goesUp (b r st : Int) (s : Str) : Bool :=
  if s = "up" then decide (0 < r) else if s = "near" then decide (st ≤ 2 * r) else if s = "even" then decide (st < 2 * r) || (decide (2 * r = st) && decide (b % 2 = 1)) else false
def rnd (n st : Int) (s : Str) : Int := if goesUp (n / st) (n % st) st s = true then n / st + 1 else n / st
/-- a ladder stands at p -/
def LadAt (K : PySem.W.Frag) (C : Addr) (H : Hp) (p : Addr) (us : List (Str × Int)) (d : Nat) (s : Str) (c : Bool) (l : Int) : Prop :=
  ∃ dx ua t st th, H p = some (.ins C dx (flds ua d s c l t st th)) ∧ UA K H ua us ∧ SqT K H t [.ref ua, .int (d : Int), .str s, .bl c, .int l] ∧ SqT K H st ((stepsOf us d).map V.int) ∧ SqT K H th ((thrsOf us l).map V.int)
theorem LadAt.same {K : PySem.W.Frag} {C : Addr} {H H' : Hp} {p : Addr} {us : List (Str × Int)} {d : Nat} {s : Str} {c : Bool} {l : Int} (k : Same H H') (h : LadAt K C H p us d s c l) : LadAt K C H' p us d s c l := by
  obtain ⟨dx, ua, t, st, th, h1, h2, h3, h4, h5⟩ := h
  exact ⟨dx, ua, t, st, th, k _ _ h1, h2.same k, same_sqt k h3, same_sqt k h4, same_sqt k h5⟩
theorem len_steps (us : List (Str × Int)) (d : Nat) (h : 1 ≤ us.length) : (stepsOf us d).length = us.length := by
  unfold stepsOf
  rw [List.length_cons, List.length_map, List.length_drop]
  omega
theorem len_thrs (us : List (Str × Int)) (l : Int) (h : 1 ≤ us.length) : (thrsOf us l).length = us.length := by
  unfold thrsOf
  rw [List.length_cons, List.length_map, List.length_drop]
  omega
def spGoes : Sp := fun vs H Q _ => ∃ (b r st : Int) (s : Str), vs = [.int b, .int r, .int st, .str s] ∧ Q (.bl (goesUp b r st s)) H
def spRounded : Sp := fun vs H Q _ => ∃ (n st : Int) (s : Str), vs = [.int n, .int st, .str s] ∧ 0 < st ∧ st.natAbs < 2 ^ 64 ∧ ∀ H', Same H H' → Q (.int (rnd n st s)) H'
def isCar (us : List (Str × Int)) (d : Nat) (c : Bool) (l : Int) (p : Nat) (m : Int) : Bool := c && (decide (p + 1 < us.length) && decide ((thrsOf us l).getD (p + 1) 0 ≤ m * (stepsOf us d).getD p 0))
def spCar (K : PySem.W.Frag) (C : Addr) : Sp := fun vs H Q _ => ∃ (a : Addr) (us : List (Str × Int)) (d : Nat) (s : Str) (c : Bool) (l : Int) (p : Nat) (m : Int), vs = [.ref a, .int (p : Int), .int m] ∧ LadAt K C H a us d s c l ∧ Good us d s l ∧ p < us.length ∧ Q (.bl (isCar us d c l p m)) H
def spCLad (K : PySem.W.Frag) (C : Addr) : Sp := fun vs H Q _ => ∃ (a : Addr) (us : List (Str × Int)) (d : Nat) (s : Str) (c : Bool) (l : Int), vs = [.ref a] ∧ LadAt K C H a us d s c l ∧ Q .non H
def spCNum : Sp := fun vs H Q _ => ∃ n : Int, vs = [.int n] ∧ 0 ≤ n ∧ n ≤ 1000000000000000000 ∧ Q .non H
/-- what isinstance asks of the class -/
structure LadI (K : PySem.W.Frag) (C : Addr) : Prop where
  i1 : PySem.W.findIn K (.ref C) "__class__" = some (some (.builtin "object.__class__"))
  i2 : PySem.W.specialIn K (.builtin "object.__class__") "__get__" = some (some (.builtin "getset_descriptor.__get__"))
  i3 : PySem.W.takesIn K (.builtin "object.__class__") = some true
  i4 : PySem.W.mroIn K C (.type "object") = some true
  i5 : PySem.W.kitOne K (.ref C) (.ref C) = some true
theorem steps_ok {us : List (Str × Int)} {d : Nat} {s : Str} {l : Int} (g : Good us d s l) {p : Nat} (hp : p < us.length) : (stepsOf us d)[p]? = some ((stepsOf us d).getD p 0) ∧ 0 < (stepsOf us d).getD p 0 ∧ (stepsOf us d).getD p 0 ≤ 1000000000000000000 := by
  have e := len_steps us d g.u.lo
  have h1 : (stepsOf us d)[p]? = some (stepsOf us d)[p] := List.getElem?_eq_getElem (by omega)
  have h2 : (stepsOf us d).getD p 0 = (stepsOf us d)[p] := by rw [List.getD_eq_getElem?_getD, h1]; rfl
  rw [h2]
  refine ⟨h1, ?_⟩
  have hm : (stepsOf us d)[p] ∈ stepsOf us d := List.getElem_mem _
  unfold stepsOf at hm
  rcases List.mem_cons.mp hm with z | z
  · have e2 : (stepsOf us d)[p] = 1 := z
    rw [e2]
    exact ⟨by decide, by decide⟩
  · obtain ⟨u, hu, e2⟩ := List.mem_map.mp z
    have e3 : u.2 / 10 ^ d = (stepsOf us d)[p] := e2
    rw [← e3]
    obtain ⟨j, hj⟩ := List.getElem?_of_mem (List.mem_of_mem_drop hu)
    obtain ⟨_, k1, k2, _⟩ := g.u.each j u hj
    have hz := g.div u hu
    have hp := pow_lo d
    have hq : (2 * 10 ^ d : Int) ∣ u.2 := Int.dvd_of_emod_eq_zero hz
    obtain ⟨q, hq⟩ := hq
    have e4 : u.2 / 10 ^ d = 2 * q := by
      rw [hq, show (2 * 10 ^ d * q : Int) = 2 * q * 10 ^ d by rw [Int.mul_assoc, Int.mul_assoc, Int.mul_comm (10 ^ d) q]]
      exact Int.mul_ediv_cancel _ (by omega)
    have hqpos : 0 < q := by
      rcases Int.lt_or_le 0 q with z | z
      · exact z
      · exfalso
        have : 2 * 10 ^ d * q ≤ 0 := Int.mul_nonpos_of_nonneg_of_nonpos (by omega) z
        omega
    constructor
    · omega
    · have : u.2 / 10 ^ d ≤ u.2 := Int.ediv_le_self _ (by omega)
      omega
section
variable {P : Program} {w : World} {K : PySem.W.Frag} {mg : Str → Option Value} {base : Heap}
end
end My

namespace My
open PySem PySem.Spec PyProof.Rows L2
/-! ### texts as lists of signs -/
theorem str_ext {x y : Str} (h : x.cps.toList = y.cps.toList) : x = y := by
  cases x
  cases y
  exact congrArg Str.mk (Array.toList_inj.mp h)
theorem str_app (x y : Str) : (x ++ y).cps.toList = x.cps.toList ++ y.cps.toList := Array.toList_append
theorem str_len (x : Str) : x.length = x.cps.toList.length := by show x.cps.size = _; simp
/-- the signs of a number -/
def dg (m : Int) : List Nat := (Str.ofString (toString m)).cps.toList
theorem dg_digits {m : Int} (h : 0 ≤ m) : ∀ c ∈ dg m, 48 ≤ c ∧ c ≤ 57 := by
  obtain ⟨k, rfl⟩ := Int.eq_ofNat_of_zero_le h
  intro c hc
  unfold dg at hc
  rw [PySem.W.KIN.signs_num] at hc
  obtain ⟨ch, hch, e⟩ := List.mem_map.mp hc
  have r := PyProof.Rows.digit_range (Nat.isDigit_of_mem_toDigits (by decide) (by decide) hch)
  rw [← e]
  exact r
theorem dg_pos {m : Int} (h : 0 ≤ m) : 1 ≤ (dg m).length := by
  obtain ⟨k, rfl⟩ := Int.eq_ofNat_of_zero_le h
  unfold dg
  rw [PySem.W.KIN.signs_num, List.length_map]
  exact toDigits_len_ge 10 k
theorem dg_small {m : Int} (h2 : m.natAbs < 10 ^ 40) : (dg m).length ≤ 41 := by
  unfold dg
  rw [← str_len]
  have e := PySem.int_text_length_le10 (a := m) (k := 40) (by decide) h2
  rw [PySem.ofString_length]
  exact e
/-- a number filled with zeros -/
def zf (d : Nat) (m : Int) : List Nat := List.replicate (d + 1 - (dg m).length) 48 ++ dg m
theorem zf_len (d : Nat) (m : Int) : (zf d m).length = max (d + 1) (dg m).length := by
  unfold zf
  rw [List.length_append, List.length_replicate]
  omega
def body (d : Nat) (m : Int) : List Nat := (zf d m).take ((zf d m).length - d) ++ 46 :: (zf d m).drop ((zf d m).length - d)
/-- the figure of a place and a mark -/
def writ (us : List (Str × Int)) (d p : Nat) (m : Int) : Str := if p = 0 ∨ d = 0 then Str.ofString (toString m) ++ (us.getD p ("", 0)).1 else ⟨(body d m).toArray⟩ ++ (us.getD p ("", 0)).1
theorem zfill_zf {d : Nat} {m : Int} (h : 0 ≤ m) : (Txt.zfill (Str.ofString (toString m)) ((d : Int) + 1)).cps.toList = zf d m := by
  have hl : (Str.ofString (toString m)).length = (dg m).length := str_len _
  unfold Txt.zfill
  rw [hl]
  by_cases c : ((d : Int) + 1) ≤ ((dg m).length : Int)
  · rw [if_pos c]
    unfold zf
    rw [show d + 1 - (dg m).length = 0 by omega]
    rfl
  · rw [if_neg c]
    have e1 : ((d : Int) + 1).toNat - (dg m).length = d + 1 - (dg m).length := by omega
    rw [e1]
    have hp := dg_pos h
    obtain ⟨c0, r, e2⟩ : ∃ c0 r, dg m = c0 :: r := by
      cases e : dg m with
      | nil => rw [e] at hp; exact absurd hp (by decide)
      | cons a l => exact ⟨a, l, rfl⟩
    have hc0 := dg_digits h c0 (by rw [e2]; exact List.mem_cons_self ..)
    have e3 : (Str.ofString (toString m)).cps[0]? = some c0 := by
      rw [← Array.getElem?_toList]
      show (dg m)[0]? = some c0
      rw [e2]
      rfl
    unfold zfilled
    rw [e3]
    split
    · rename_i q; have := Option.some.inj q; omega
    · rename_i q; have := Option.some.inj q; omega
    · unfold Builtin.Str.padded zf dg
      simp
theorem cut_to {z : Str} {d : Nat} (h1 : 1 ≤ d) : (cutS z none (some (-(d : Int)))).cps.toList = z.cps.toList.take (z.cps.toList.length - d) := by
  unfold cutS
  have e : HT.sIx z.length z.length (some (-(d : Int))) = z.length - d := by
    show (if (-(d : Int)) < 0 then ((-(d : Int)) + (z.length : Int)).toNat else min (-(d : Int)).toNat z.length) = _
    rw [if_pos (by omega)]
    omega
  rw [HT.sIx_none, e, str_len]
  simp
theorem cut_from {z : Str} {d : Nat} (h1 : 1 ≤ d) : (cutS z (some (-(d : Int))) none).cps.toList = z.cps.toList.drop (z.cps.toList.length - d) := by
  unfold cutS
  have e : HT.sIx z.length 0 (some (-(d : Int))) = z.length - d := by
    show (if (-(d : Int)) < 0 then ((-(d : Int)) + (z.length : Int)).toNat else min (-(d : Int)).toNat z.length) = _
    rw [if_pos (by omega)]
    omega
  rw [HT.sIx_none, e, str_len]
  simp only [List.toList_toArray]
  refine List.take_of_length_le ?_
  rw [List.length_drop]
  exact Nat.le_refl _
theorem cut_ton {z : Str} {k : Nat} (h1 : k ≤ z.cps.toList.length) : (cutS z none (some (k : Int))).cps.toList = z.cps.toList.take k := by
  unfold cutS
  rw [HT.sIx_none, HT.sIx_nat, str_len, Nat.min_eq_left h1]
  simp
theorem cut_fromn {z : Str} {k : Nat} (h1 : k ≤ z.cps.toList.length) : (cutS z (some (k : Int)) none).cps.toList = z.cps.toList.drop k := by
  unfold cutS
  rw [HT.sIx_none, HT.sIx_nat, str_len, Nat.min_eq_left h1]
  simp only [List.toList_toArray]
  refine List.take_of_length_le ?_
  rw [List.length_drop]
  exact Nat.le_refl _
theorem fold_app (n : Nat) : ∀ a : Array Nat, ((List.replicate n (#[48] : Array Nat)).foldl (· ++ ·) a).toList = a.toList ++ List.replicate n 48 := by
  induction n with
  | zero => intro a; simp
  | succ n ih =>
    intro a
    rw [List.replicate_succ, List.foldl_cons, ih]
    simp [List.replicate_succ]
theorem mul_zero (k : Int) : (Txt.mul ("0" : Str) k).cps.toList = List.replicate k.toNat 48 := by
  unfold Txt.mul
  by_cases h : k < 1
  · rw [if_pos h, show k.toNat = 0 by omega]
    rfl
  · rw [if_neg h]
    by_cases h1 : k = 1
    · subst h1
      rfl
    · have e : (k == 1 || ("0" : Str).length == 0) = false := by
        have e1 : (k == 1) = false := by simpa using h1
        rw [e1]
        rfl
      rw [e, if_neg Bool.false_ne_true]
      have e2 : ("0" : Str).cps = #[48] := rfl
      show ((List.replicate k.toNat ("0" : Str).cps).foldl (· ++ ·) #[]).toList = _
      rw [e2, fold_app]
      rfl
end My

namespace My
open PySem PySem.Spec PyProof.Rows L2
def cntOf (us : List (Str × Int)) (l n : Int) : Nat := ((thrsOf us l).filter fun t => decide (t ≤ n)).length
def placeOf (us : List (Str × Int)) (l n : Int) : Nat := cntOf us l n - 1
theorem cnt_pos {us : List (Str × Int)} {l n : Int} (h : 0 ≤ n) : 1 ≤ cntOf us l n := by
  unfold cntOf thrsOf
  rw [List.filter_cons, if_pos (decide_eq_true h), List.length_cons]
  omega
theorem cnt_le {us : List (Str × Int)} {l n : Int} (h : 1 ≤ us.length) : cntOf us l n ≤ us.length := by
  unfold cntOf
  rw [← len_thrs us l h]
  exact List.length_filter_le _ _
/-- the place and the mark by which a number is shown -/
def placedM (us : List (Str × Int)) (d : Nat) (s : Str) (c : Bool) (l n : Int) : Nat × Int :=
  if isCar us d c l (placeOf us l n) (rnd n ((stepsOf us d).getD (placeOf us l n) 0) s) = true
  then (placeOf us l n + 1, rnd n ((stepsOf us d).getD (placeOf us l n + 1) 0) s)
  else (placeOf us l n, rnd n ((stepsOf us d).getD (placeOf us l n) 0) s)
def spPlaced (K : PySem.W.Frag) (C : Addr) : Sp := fun vs H Q _ => ∃ (a : Addr) (us : List (Str × Int)) (d : Nat) (s : Str) (c : Bool) (l n : Int), vs = [.ref a, .int n] ∧ LadAt K C H a us d s c l ∧ Good us d s l ∧ 0 ≤ n ∧
  ∀ (r : Addr) (H' : Hp), Same H H' → SqT K H' r [.int ((placedM us d s c l n).1 : Int), .int (placedM us d s c l n).2] → Q (.ref r) H'
def spWritten (K : PySem.W.Frag) (C : Addr) : Sp := fun vs H Q _ => ∃ (a : Addr) (us : List (Str × Int)) (d : Nat) (s : Str) (c : Bool) (l : Int) (p : Nat) (m : Int), vs = [.ref a, .int (p : Int), .int m] ∧ LadAt K C H a us d s c l ∧ Good us d s l ∧ p < us.length ∧ 0 ≤ m ∧ m < 10 ^ 40 ∧ Q (.str (writ us d p m)) H
theorem isCar_lt {us : List (Str × Int)} {d : Nat} {c : Bool} {l : Int} {p : Nat} {m : Int} (h : isCar us d c l p m = true) : p + 1 < us.length := by
  unfold isCar at h
  rw [Bool.and_eq_true, Bool.and_eq_true] at h
  exact of_decide_eq_true h.2.1
theorem name_small {us : List (Str × Int)} (g : GoodUs us) (p : Nat) : (us.getD p ("", 0)).1.length ≤ 3 := by
  rw [List.getD_eq_getElem?_getD]
  cases e : us[p]? with
  | none => decide
  | some u => exact (g.each p u e).1.1
section
variable {P : Program} {w : World} {K : PySem.W.Frag} {mg : Str → Option Value} {base : Heap}
end
end My

namespace My
open PySem PySem.Spec PyProof.Rows L2
theorem pad_ok {d : Nat} (h : d ≤ 3) : PadOk ((d : Int) + 1) = true := by
  match d, h with
  | 0, _ => decide +kernel
  | 1, _ => decide +kernel
  | 2, _ => decide +kernel
  | 3, _ => decide +kernel
  | n + 4, h => omega
theorem small41 {n k : Nat} (h : n ≤ 41) (hk : k ≤ 50) : n + k ≤ sizeLine := Nat.le_trans (Nat.add_le_add h hk) (by decide)
theorem rnd_lo {n st : Int} {s : Str} (h0 : 0 ≤ n) (h1 : 0 < st) : 0 ≤ rnd n st s ∧ rnd n st s ≤ n + 1 := by
  unfold rnd
  have a := Int.ediv_nonneg h0 (Int.le_of_lt h1)
  have b := Int.ediv_le_self st h0
  split <;> omega
theorem placedM_ok {us : List (Str × Int)} {d : Nat} {s : Str} {c : Bool} {l n : Int} (g : Good us d s l) (h0 : 0 ≤ n) : (placedM us d s c l n).1 < us.length ∧ 0 ≤ (placedM us d s c l n).2 ∧ (placedM us d s c l n).2 ≤ n + 1 := by
  have hc1 := cnt_pos (us := us) (l := l) h0
  have hc2 := cnt_le (l := l) (n := n) g.u.lo
  have hpl : placeOf us l n < us.length := by unfold placeOf; omega
  unfold placedM
  split
  · rename_i e
    have hp1 := isCar_lt e
    obtain ⟨k1, k2, k3⟩ := steps_ok g hp1
    exact ⟨hp1, rnd_lo h0 k2⟩
  · obtain ⟨k1, k2, k3⟩ := steps_ok g hpl
    exact ⟨hpl, rnd_lo h0 k2⟩
/-- the figure of a number -/
def shown (us : List (Str × Int)) (d : Nat) (s : Str) (c : Bool) (l n : Int) : Str := writ us d (placedM us d s c l n).1 (placedM us d s c l n).2
def spShow (K : PySem.W.Frag) (C : Addr) : Sp := fun vs H Q _ => ∃ (a : Addr) (us : List (Str × Int)) (d : Nat) (s : Str) (c : Bool) (l n : Int), vs = [.ref a, .int n] ∧ LadAt K C H a us d s c l ∧ Good us d s l ∧ 0 ≤ n ∧ n ≤ 1000000000000000000 ∧
  ∀ H', Same H H' → Q (.str (shown us d s c l n)) H'
def spFig (K : PySem.W.Frag) (C : Addr) : Sp := fun vs H Q _ => ∃ (a : Addr) (us : List (Str × Int)) (d : Nat) (s : Str) (c : Bool) (l n : Int), vs = [.ref a, .int n] ∧ LadAt K C H a us d s c l ∧ Good us d s l ∧ 0 ≤ n ∧ n ≤ 1000000000000000000000000000000 ∧
  ∀ H', Same H H' → Q (.str (shown us d s c l n)) H'
section
variable {P : Program} {w : World} {K : PySem.W.Frag} {mg : Str → Option Value} {base : Heap}
end
end My

namespace My
open PySem PySem.Spec PyProof.Rows L2
def nms : List Str := ["", "K", "M", "g", "Tx", "abc"]
def nm6 (j : Nat) : Str := nms.getD (j % 6) ""
theorem nm6_good (j : Nat) : GoodN (nm6 j) := by
  have h : ∀ k, k < 6 → GoodN (nms.getD k "") := by
    intro k hk
    match k, hk with
    | 0, _ => exact ⟨by decide +kernel, by decide +kernel, by decide +kernel, by decide +kernel⟩
    | 1, _ => exact ⟨by decide +kernel, by decide +kernel, by decide +kernel, by decide +kernel⟩
    | 2, _ => exact ⟨by decide +kernel, by decide +kernel, by decide +kernel, by decide +kernel⟩
    | 3, _ => exact ⟨by decide +kernel, by decide +kernel, by decide +kernel, by decide +kernel⟩
    | 4, _ => exact ⟨by decide +kernel, by decide +kernel, by decide +kernel, by decide +kernel⟩
    | 5, _ => exact ⟨by decide +kernel, by decide +kernel, by decide +kernel, by decide +kernel⟩
    | n + 6, h => omega
  exact h _ (Nat.mod_lt _ (by decide))
theorem nms_inj : ∀ x, x < 6 → ∀ y, y < 6 → nms.getD x "" = nms.getD y "" → x = y := by decide +kernel
theorem nm6_inj {a b : Nat} (h : nm6 a = nm6 b) : a % 6 = b % 6 := nms_inj _ (Nat.mod_lt _ (by decide)) _ (Nat.mod_lt _ (by decide)) h
/-- good units, or none -/
structure GU (us : List (Str × Int)) : Prop where
  hi : us.length ≤ 6
  each : ∀ i u, us[i]? = some u → GoodN u.1 ∧ 1 ≤ u.2 ∧ u.2 ≤ 1000000000000000000 ∧ Fit (us.take i) u
theorem GU.good {us : List (Str × Int)} (g : GU us) (h : 1 ≤ us.length) : GoodUs us := ⟨h, g.hi, g.each⟩
theorem GU.nil : GU [] := ⟨by decide, fun i u h => by simp at h⟩
theorem GU.snoc {us : List (Str × Int)} {u : Str × Int} (g : GU us) (hl : us.length < 6) (h1 : GoodN u.1) (h2 : 1 ≤ u.2) (h3 : u.2 ≤ 1000000000000000000) (h4 : Fit us u) : GU (us ++ [u]) := by
  refine ⟨by rw [List.length_append]; show us.length + 1 ≤ 6; omega, fun i v hv => ?_⟩
  rcases Nat.lt_or_ge i us.length with hi | hi
  · rw [List.getElem?_append_left hi] at hv
    rw [List.take_append_of_le_length (Nat.le_of_lt hi)]
    exact g.each i v hv
  · rw [List.getElem?_append_right hi] at hv
    have e : i - us.length = 0 := by
      have := (List.getElem?_eq_some_iff.mp hv).1
      simp at this
      omega
    rw [e] at hv
    have ev : u = v := Option.some.inj hv
    subst ev
    have ei : i = us.length := by omega
    subst ei
    rw [List.take_left]
    exact ⟨h1, h2, h3, h4⟩
theorem GU.take {us : List (Str × Int)} (g : GU us) (k : Nat) : GU (us.take k) := by
  refine ⟨Nat.le_trans (by rw [List.length_take]; omega) g.hi, fun i u hu => ?_⟩
  rw [List.getElem?_take] at hu
  split at hu
  · rename_i hik
    rw [List.take_take, Nat.min_eq_left (Nat.le_of_lt hik)]
    exact g.each i u hu
  · cases hu
/-- what the next size may be -/
def Next (us : List (Str × Int)) (z : Int) : Prop := (us = [] ∧ z = 1) ∨ ∃ l, us[us.length - 1]? = some l ∧ us ≠ [] ∧ 0 < l.2 ∧ l.2 < z ∧ z % l.2 = 0 ∧ z % 2 = 0 ∧ z ≤ 120000 * 21 ^ (us.length - 1)
theorem pow21 {n : Nat} (h : n ≤ 5) : (120000 * 21 ^ n : Int) ≤ 490092120000 := by
  match n, h with
  | 0, _ => decide
  | 1, _ => decide
  | 2, _ => decide
  | 3, _ => decide
  | 4, _ => decide
  | 5, _ => decide
  | n + 6, h => omega
theorem Next.fit {us : List (Str × Int)} {z : Int} {n : Str} (h : Next us z) (hn : ∀ v ∈ us, v.1 ≠ n) : Fit us (n, z) := by
  rcases h with ⟨h1, h2⟩ | ⟨l, h1, h2, h3, h4, h5, _⟩
  · exact .inl ⟨h1, h2⟩
  · exact .inr ⟨l, h1, h2, h3, h4, h5, hn⟩
theorem Next.size {us : List (Str × Int)} {z : Int} (h : Next us z) (hl : us.length ≤ 6) : 1 ≤ z ∧ z ≤ 490092120000 := by
  rcases h with ⟨h1, h2⟩ | ⟨l, h1, h2, h3, h4, h5, _, h6⟩
  · omega
  · have := pow21 (n := us.length - 1) (by omega)
    omega
theorem last_snoc {us : List (Str × Int)} {u : Str × Int} : (us ++ [u])[(us ++ [u]).length - 1]? = some u := by
  rw [List.length_append]
  show (us ++ [u])[us.length + 1 - 1]? = _
  rw [Nat.add_sub_cancel, List.getElem?_append_right (Nat.le_refl _), Nat.sub_self]
  rfl
theorem Next.first {part r : Int} {n : Str} (hp : 2 ≤ part) (hp2 : part ≤ 2000) (he : part % 2 = 0) (h0 : 0 ≤ r) (h1 : r < 60) : Next [(n, 1)] (part * (1 + r)) := by
  have a1 : part * 1 ≤ part * (1 + r) := Int.mul_le_mul_of_nonneg_left (by omega) (by omega)
  have a2 : part * (1 + r) ≤ 2000 * (1 + r) := Int.mul_le_mul_of_nonneg_right hp2 (by omega)
  refine .inr ⟨(n, 1), rfl, by simp, (by show (0 : Int) < 1; decide), ?_, Int.emod_one _, ?_, ?_⟩
  · show (1 : Int) < part * (1 + r)
    omega
  · rw [Int.mul_emod, he, Int.zero_mul]
    rfl
  · show part * (1 + r) ≤ 120000 * 21 ^ 0
    omega
theorem Next.more {us : List (Str × Int)} {z r : Int} {n : Str} (h : Next us z) (hne : us ≠ []) (h0 : 0 ≤ r) (h1 : r < 20) : Next (us ++ [(n, z)]) (z * (2 + r)) := by
  rcases h with ⟨h2, _⟩ | ⟨l, _, _, h3, h4, h5, h6, h7⟩
  · exact absurd h2 hne
  · have hz : 0 < z := by omega
    have a1 : z * 2 ≤ z * (2 + r) := Int.mul_le_mul_of_nonneg_left (by omega) (by omega)
    have a2 : z * (2 + r) ≤ z * 21 := Int.mul_le_mul_of_nonneg_left (by omega) (by omega)
    refine .inr ⟨(n, z), last_snoc, by simp, hz, ?_, Int.mul_emod_right _ _, ?_, ?_⟩
    · show z < z * (2 + r)
      omega
    · rw [Int.mul_emod, h6, Int.zero_mul]
      rfl
    · have hl : 1 ≤ us.length := List.length_pos_iff.mpr hne
      have e : (us ++ [(n, z)]).length - 1 = (us.length - 1) + 1 := by rw [List.length_append]; show us.length + 1 - 1 = _; omega
      rw [e, Int.pow_succ]
      have a3 : z * 21 ≤ (120000 * 21 ^ (us.length - 1)) * 21 := Int.mul_le_mul_of_nonneg_right h7 (by decide)
      rw [Int.mul_assoc] at a3
      omega
/-- thousands -/
def thou : List (Str × Int) := [("", 1), ("K", 1000), ("M", 1000000), ("G", 1000000000), ("T", 1000000000000)]
theorem gn_of {z : Str} (h1 : z.length ≤ 3) (h2 : Txt.stripChars z letters = "" ∧ PyData.strOk z = true ∧ z.cps.toList.all (letters.cps.contains ·) = true) : GoodN z := ⟨h1, h2⟩
theorem thou_gu : GU thou := by
  have g1 : GU [("", 1)] := GU.nil.snoc (u := ("", 1)) (by decide) (gn_of (by decide +kernel) (by decide +kernel)) (by decide) (by decide) (.inl ⟨rfl, rfl⟩)
  have g2 : GU [("", 1), ("K", 1000)] := g1.snoc (u := ("K", 1000)) (by decide) (gn_of (by decide +kernel) (by decide +kernel)) (by decide) (by decide) (.inr ⟨("", 1), rfl, by simp, by decide, by decide, by decide, by decide +kernel⟩)
  have g3 : GU [("", 1), ("K", 1000), ("M", 1000000)] := g2.snoc (u := ("M", 1000000)) (by decide) (gn_of (by decide +kernel) (by decide +kernel)) (by decide) (by decide) (.inr ⟨("K", 1000), rfl, by simp, by decide, by decide, by decide, by decide +kernel⟩)
  have g4 : GU [("", 1), ("K", 1000), ("M", 1000000), ("G", 1000000000)] := g3.snoc (u := ("G", 1000000000)) (by decide) (gn_of (by decide +kernel) (by decide +kernel)) (by decide) (by decide) (.inr ⟨("M", 1000000), rfl, by simp, by decide, by decide, by decide, by decide +kernel⟩)
  exact g4.snoc (u := ("T", 1000000000000)) (by decide) (gn_of (by decide +kernel) (by decide +kernel)) (by decide) (by decide) (.inr ⟨("G", 1000000000), rfl, by simp, by decide, by decide, by decide, by decide +kernel⟩)
theorem thou_even (k : Nat) : ∀ u ∈ (thou.take k).drop 1, u.2 % 2 = 0 := by
  intro u hu
  have h1 : u ∈ thou.drop 1 := by
    rw [List.drop_take] at hu
    exact List.mem_of_mem_take hu
  unfold thou at h1
  simp only [List.drop_succ_cons, List.drop_zero, List.mem_cons, List.not_mem_nil, or_false] at h1
  rcases h1 with rfl | rfl | rfl | rfl <;> decide
def nms8 : List Str := ["", "K", "M", "g", "Tx", "abc", "G", "T"]
/-- no name is "one" (each is one of a few), and no size is great -/
def NoOne (us : List (Str × Int)) : Prop := ∀ u ∈ us, (u.1 ≠ "one" ∧ u.1 ∈ nms8) ∧ u.2 ≤ 1000000000000
theorem nm6_noone (j : Nat) : nm6 j ≠ "one" ∧ nm6 j ∈ nms8 := by
  have h : ∀ k, k < 6 → nms.getD k "" ≠ "one" ∧ nms.getD k "" ∈ nms8 := by decide +kernel
  exact h _ (Nat.mod_lt _ (by decide))
theorem thou_noone : NoOne thou := by
  intro u hu
  unfold thou at hu
  simp only [List.mem_cons, List.not_mem_nil, or_false] at hu
  rcases hu with rfl | rfl | rfl | rfl | rfl <;> decide +kernel
theorem thou_noone' (k : Nat) : NoOne (thou.take k) := fun u hu => thou_noone u (List.mem_of_mem_take hu)
end My

namespace My
open PySem PySem.Spec PyProof.Rows L2
abbrev sUnits : Stmt := top 31
abbrev nUnits : List Str := ["_law_spring_here", "_law_part", "_law_small", "_law_names", "_law_found", "_law_size_here", "_law_shift", "_law_k", "_law_first", "_law_unit"]
theorem scUnits : FnScope nUnits ["_law_spring_here", "_law_part", "_law_small"] (defScope sUnits) := ⟨rfl, rfl, rfl, by decide +kernel, rfl, by decide +kernel, by decide +kernel⟩
def spUnits (K : PySem.W.Frag) : Sp := fun vs H Q _ => ∃ (a : Addr) (part : Int) (small : Bool), vs = [.ref a, .int part, .bl small] ∧ Spr H a ∧ 2 ≤ part ∧ part ≤ 2000 ∧ part % 2 = 0 ∧
  ∀ (r : Addr) (us : List (Str × Int)) (H' : Hp), But a H H' → Spr H' a → UA K H' r us → GoodUs us → (∀ u ∈ us.drop 1, u.2 % 2 = 0) → NoOne us → Q (.ref r) H'
theorem Spr.nt {H : Hp} {a : Addr} (h : Spr H a) : ∃ o, H a = some o ∧ notTup o = true := by
  obtain ⟨x, y, z, e⟩ := h
  exact ⟨_, e, rfl⟩
theorem But.sqtS {K : PySem.W.Frag} {a t : Addr} {xs : List V} {H H' : Hp} (hp : Spr H a) (b : But a H H') (h : SqT K H t xs) : SqT K H' t xs := by
  obtain ⟨o, e, n⟩ := hp.nt
  exact b.sqt e n h
theorem UA.butS {K : PySem.W.Frag} {a t : Addr} {us : List (Str × Int)} {H H' : Hp} (hp : Spr H a) (b : But a H H') (h : UA K H t us) : UA K H' t us := by
  obtain ⟨o, e, n⟩ := hp.nt
  exact h.but e n b
theorem UP.butS {K : PySem.W.Frag} {a : Addr} {ps : List Addr} {us : List (Str × Int)} {H H' : Hp} (hp : Spr H a) (b : But a H H') (h : UP K H ps us) : UP K H' ps us := paired_imp (fun _ _ => b.sqtS hp) h
theorem PE.imp {X : Cx} {e : Expr} {t t' : TE} (h : PE X e t) (i : ∀ σ H Q, t' σ H Q → t σ H Q) : PE X e t' := ⟨fun pins s σ H Q I q => h.1 pins s σ H Q I (i σ H Q q)⟩
/-- x if c else y, two written numbers: one of them -/
def tEither (ta : TE) (x y : Int) : TE := fun σ H Q => ta σ H fun v H1 => (∃ b, v = .bl b) ∧ ∀ m, m = x ∨ m = y → Q (.int m) H1
def mono (t : TE) : Prop := ∀ σ H (Q Q' : VK), (∀ v H1, Q v H1 → Q' v H1) → t σ H Q → t σ H Q'
theorem mono_var (i : Nat) : mono (tVar i) := fun σ H Q Q' h ⟨v, e, q⟩ => ⟨v, e, h _ _ q⟩
theorem pe_either {X : Cx} {c : Expr} {ta : TE} {x y : Int} {j1 j2 : Nat} {p1 p2 pos : Pos} (hc : PT X c (tB ta)) (m : mono ta) : PE X (.IfExp c (.Constant (.int x) j1 p1) (.Constant (.int y) j2 p2) pos) (tEither ta x y) := by
  refine PE.imp (pe_ifExp hc pe_int pe_int) fun σ H Q h => ?_
  refine m σ H _ _ (fun v H1 h1 => ?_) h
  obtain ⟨⟨b, rfl⟩, h2⟩ := h1
  refine ⟨b, rfl, ?_⟩
  cases b with
  | true => exact h2 x (.inl rfl)
  | false => exact h2 y (.inr rfl)
section
variable {P : Program} {w : World} {K : PySem.W.Frag} {mg : Str → Option Value} {base : Heap}
theorem ok_units (d : Dd K mg "_law_units" sUnits ["_law_spring_here", "_law_part", "_law_small"]) (dG : Dd K mg "_law_gulp" sGulp ["_law_spring_here", "_law_many"]) (B : Bt mg) : FnOk P w K mg base CX0 3 d.f d.fd ["_law_spring_here", "_law_part", "_law_small"] (spUnits K) := by
  have G : FnOk P w K mg base CX0 2 dG.f dG.fd ["_law_spring_here", "_law_many"] spGulp := ok_gulp dG.F B
  refine d.F.ok scUnits (fun vs H Q E h => ?_) (fun cdv A outer s H vs Q E hr h => ?_)
  · obtain ⟨_, _, _, rfl, _⟩ := h
    rfl
  · obtain ⟨a, part, small, rfl, hS, hp1, hp2, hp3, q⟩ := h
    have nd := scUnits.nd
    refine ⟨_, Evl.pss_cut (ps_if (PW.pt (pw_and (pt_not (pt_val (pv 2))) (pw_and1 (pt_cmpR op_eq (pe_call G hr (by rfl) dG.g dG.F.kp dG.b .nil pass0 (pa_cons (pv 0) (pa_cons pe_int pa_nil))) pe_int (nomark _)))))
        (pss_one (ps_ret (pe_slice sl_tupA (pe_tup (pa_cons (pe_tup (pa_cons pe_str (pa_cons pe_int pa_nil))) (pa_cons (pe_tup (pa_cons pe_str (pa_cons pe_int pa_nil))) (pa_cons (pe_tup (pa_cons pe_str (pa_cons (pe_op op_pow pe_int pe_int) pa_nil)))
          (pa_cons (pe_tup (pa_cons pe_str (pa_cons (pe_op op_pow pe_int pe_int) pa_nil))) (pa_cons (pe_tup (pa_cons pe_str (pa_cons (pe_op op_pow pe_int pe_int) pa_nil))) pa_nil))))))
          po_none (po_some (pe_op op_add pe_int (pe_call G hr (by rfl) dG.g dG.F.kp dG.b .nil pass0 (pa_cons (pv 0) (pa_cons pe_int pa_nil)))))))) pss_nil)
      (pss_cons (ps_par3 (i := 3) (j := 4) (l := 5) rfl nd rfl rfl rfl (by decide) (by decide) (by decide) rfl rfl rfl
          (pa_cons (pe_lst (pa_cons pe_str (pa_cons pe_str (pa_cons pe_str (pa_cons pe_str (pa_cons pe_str (pa_cons pe_str pa_nil))))))) (pa_cons (pe_lst pa_nil) (pa_cons pe_int pa_nil))) rfl)
      (pss_cons (ps_set (i := 6) nd rfl (.inl rfl) (pe_call G hr (by rfl) dG.g dG.F.kp dG.b .nil pass0 (pa_cons (pv 0) (pa_cons pe_int pa_nil))))
      (pss_cons (ps_for PassesOwn.never rfl (pi_range1 rfl B.range (pa_cons (pe_op op_add pe_int (pe_call G hr (by rfl) dG.g dG.F.kp dG.b .nil pass0 (pa_cons (pv 0) (pa_cons (pe_either (pt_val (pv 2)) (mono_var 2)) pa_nil)))) pa_nil)) (pg_name (i := 7) nd rfl (.inl rfl))
          (pss_cons (ps_expr (pe_bm PySem.F.plainAttrs_list PySem.F.slot_list_append PySem.F.type_list_append mt_append (pv 4) (pa_cons (pe_tup (pa_cons (pe_ix ix_list (pv 3) (pe_op op_mod (pe_callTy call_int1 (by rfl) B.int (by decide +kernel) (pa_cons (pe_op op_add (pv 7) (pv 6)) pa_nil)) pe_int) (fun _ _ => rfl)) (pa_cons (pv 5) pa_nil))) pa_nil)))
          (pss_cons (ps_set (i := 8) nd rfl (.inl rfl) (pe_op op_mul (pv 1) (pe_op op_add pe_int (pe_call G hr (by rfl) dG.g dG.F.kp dG.b .nil pass0 (pa_cons (pv 0) (pa_cons (pe_either (pt_val (pv 2)) (mono_var 2)) pa_nil))))))
          (pss_one (ps_set (i := 5) nd rfl (.inl rfl) (pe_ifExp (pt_cmpR op_eq (pv 7) pe_int (nomark _)) (pv 8) (pe_op op_mul (pv 5) (pe_op op_add pe_int (pe_call G hr (by rfl) dG.g dG.F.kp dG.b .nil pass0 (pa_cons (pv 0) (pa_cons (pe_either (pt_val (pv 2)) (mono_var 2)) pa_nil)))))))))))
      (pss_one (ps_ret (pe_tupleOf (by rfl) B.tuple
        (pe_lc (own := [("_law_unit", 9)]) (g := gName 9) rfl nd (pi_list (pv 4)) (blkOk_by (own := [("_law_unit", 9)]) (N := nUnits) (sc := defScope sUnits) (by decide +kernel)) (fun _ _ _ _ _ => pg_name (i := 9) nd rfl (Or.inl rfl))
          (fun _ _ _ _ _ => pts_one (pt_cmpR op_le (pe_ix (r := rIxT K) ix_tup (pv 9) pe_int (fun _ _ => rfl)) (pe_op op_pow pe_int pe_int) (nomark _))) (fun _ _ _ _ _ => pv 9)))))))), ?_⟩
    refine ⟨fun σ' H' => σ' = L2.start nUnits [.ref a, .int part, .bl small] ∧ But a H H' ∧ Spr H' a, ?_, ?_⟩
    · refine ⟨_, rfl, small, rfl, ?_⟩
      cases small with
      | true => exact iteF ⟨rfl, But.refl _ _, hS⟩
      | false =>
        refine iteT ?_
        refine ⟨_, rfl, a, 2, rfl, hS, by decide, by decide, fun r H1 h0 h1 s1 b1 => ⟨rfl, _, rfl, ite2 (fun _ => ?_) (fun _ => ⟨rfl, b1, s1⟩)⟩⟩
        refine ⟨(by show 2 ≤ sizeLine; decide), fun p1 n1 => ⟨(by show 2 ≤ sizeLine; decide), fun p2 n2 => ⟨10, 6, rfl, rfl, ⟨by decide, by decide, by decide⟩, (by show 2 ≤ sizeLine; decide), fun p3 n3 => ⟨10, 9, rfl, rfl, ⟨by decide, by decide, by decide⟩, (by show 2 ≤ sizeLine; decide), fun p4 n4 =>
          ⟨10, 12, rfl, rfl, ⟨by decide, by decide, by decide⟩, (by show 2 ≤ sizeLine; decide), fun p5 n5 => ⟨(by show 5 ≤ sizeLine; decide), fun p0 n0 => ?_⟩⟩⟩⟩⟩⟩
        have m1 := same_upd n1 (o := .tup [.str "", .int 1])
        have m2 := same_upd n2 (o := .tup [.str "K", .int 1000])
        have m3 := same_upd n3 (o := .tup [.str "M", .int 1000000])
        have m4 := same_upd n4 (o := .tup [.str "G", .int 1000000000])
        have m5 := same_upd n5 (o := .tup [.str "T", .int 1000000000000])
        have m0 := same_upd n0 (o := .tup [.ref p1, .ref p2, .ref p3, .ref p4, .ref p5])
        have m50 := m5.trans m0
        have m40 := m4.trans m50
        have m30 := m3.trans m40
        have m20 := m2.trans m30
        have m10 := m1.trans m20
        have hU : UP K _ [p1, p2, p3, p4, p5] thou := .cons (SqT.of (m20 _ _ upd_same)) (.cons (SqT.of (m30 _ _ upd_same)) (.cons (SqT.of (m40 _ _ upd_same)) (.cons (SqT.of (m50 _ _ upd_same)) (.cons (SqT.of (m0 _ _ upd_same)) .nil))))
        have h0' : SqT K _ p0 ([p1, p2, p3, p4, p5].map V.ref) := SqT.of (upd_same (H := upd (upd (upd (upd (upd H1 p1 (.tup [.str "", .int 1])) p2 (.tup [.str "K", .int 1000])) p3 (.tup [.str "M", .int 1000000])) p4 (.tup [.str "G", .int 1000000000])) p5 (.tup [.str "T", .int 1000000000000])))
        have sf := s1.same m10
        refine ⟨_, rfl, a, 5, rfl, sf, by decide, by decide, fun r2 H2 k0 k1 s2 b2 => ⟨1, r2, rfl, rfl, _, rfl, ?_⟩⟩
        have bb := (b1.trans (Same.but m10)).trans b2
        have hU2 := UP.butS sf b2 hU
        have h02 := b2.sqtS sf h0'
        refine ⟨p0, _, rfl, h02, fun _ => ?_, fun _ c nc => ?_⟩
        · exact q p0 thou H2 bb s2 ⟨_, h02, hU2⟩ (thou_gu.good (by decide)) (thou_even 5) thou_noone
        · obtain ⟨k, rfl⟩ : ∃ k : Nat, r2 = (k : Int) := ⟨r2.toNat, by omega⟩
          have sc := same_upd nc (o := .tup (cutV ([p1, p2, p3, p4, p5].map V.ref) none (some (1 + (k : Int)))))
          refine q c (thou.take (k + 1)) _ (bb.trans (Same.but sc)) (s2.same sc) ⟨[p1, p2, p3, p4, p5].take (k + 1), ?_, paired_take (k + 1) (paired_imp (fun _ _ => same_sqt sc) hU2)⟩ ((thou_gu.take (k + 1)).good (by rw [List.length_take]; show 1 ≤ min (k + 1) 5; omega)) (thou_even (k + 1)) (thou_noone' (k + 1))
          rw [List.map_take, ← cut_take (k + 1) (by show k + 1 ≤ 5; omega)]
          have e : (1 + (k : Int)) = ((k + 1 : Nat) : Int) := by omega
          rw [← e]
          exact SqT.of upd_same
    · rintro σ' H1 ⟨rfl, b1, s1⟩
      -- names, found, size
      refine ⟨(by show 6 ≤ sizeLine; decide), fun nl nnl => ⟨Nat.zero_le _, fun f nf => ⟨_, _, _, rfl, ?_⟩⟩⟩
      have t1 := same_upd nnl (o := .lst [.str "", .str "K", .str "M", .str "g", .str "Tx", .str "abc"])
      have t2 := same_upd nf (o := .lst [])
      have t12 := t1.trans t2
      have nla : nl ≠ a := by
        obtain ⟨x, y, z, e⟩ := s1
        exact (ne_of_none e nnl).symm
      have nfa : f ≠ a := by
        obtain ⟨x, y, z, e⟩ := s1.same t1
        exact (ne_of_none e nf).symm
      have nfl : nl ≠ f := ne_of_none upd_same nf
      refine ⟨_, rfl, a, 6, rfl, s1.same t12, by decide, by decide, fun sh H2 sh0 sh1 s2 b2 => ?_⟩
      obtain ⟨sn, rfl⟩ : ∃ k : Nat, sh = (k : Int) := ⟨sh.toNat, by omega⟩
      have hnl2 : H2 nl = some (.lst (nms.map V.str)) := b2 _ _ (t2 _ _ upd_same) nla
      have hf2 : H2 f = some (.lst []) := b2 _ _ upd_same nfa
      have b12 : But a H H2 := (b1.trans (Same.but t12)).trans b2
      have hnotf : ∀ b o, H b = some o → b ≠ a → b ≠ f ∧ b ≠ nl := fun b o e n => ⟨ne_of_none (t1 _ _ (b1 _ _ e n)) nf, ne_of_none (b1 _ _ e n) nnl⟩
      refine ⟨_, rfl, _, rfl, ⟨small, rfl⟩, fun m hm => ?_⟩
      refine ⟨a, m, rfl, s2, by omega, by omega, fun r H3 r0 r1 s3 b3 => ?_⟩
      obtain ⟨rn, rfl⟩ : ∃ k : Nat, r = (k : Int) := ⟨r.toNat, by omega⟩
      have hrn : rn < 6 := by omega
      refine ⟨1, (rn : Int), rfl, rfl, _, rfl, by omega, by omega, ?_⟩
      rw [show ((1 : Int) + (rn : Int)).toNat = rn + 1 by omega]
      refine for_range (lo := 0) (n := rn + 1) (fun i σ H' => ∃ (us : List (Str × Int)) (ps : List Addr) (sz : Int) (v7 v8 : Option V), σ = [some (.ref a), some (.int part), some (.bl small), some (.ref nl), some (.ref f), some (.int sz), some (.int (sn : Int)), v7, v8, none] ∧
          But a H H' ∧ Spr H' a ∧ H' nl = some (.lst (nms.map V.str)) ∧ H' f = some (.lst (ps.map V.ref)) ∧ UP K H' ps us ∧ us.length = i ∧ GU us ∧ Next us sz ∧ (∀ u ∈ us.drop 1, u.2 % 2 = 0) ∧ ∀ v ∈ us, ∃ j, j < i ∧ v.1 = nm6 (j + sn) ∧ v.2 ≤ 1000000000000) ?_ ?_ ?_
      · exact ⟨[], [], 1, none, none, rfl, b12.trans b3, s3, b3 _ _ hnl2 nla, b3 _ _ hf2 nfa, .nil, rfl, GU.nil, .inl ⟨rfl, rfl⟩, (fun u hu => by simp at hu), (fun v hv => by simp at hv)⟩
      · rintro i σ H4 hi ⟨us, ps, sz, v7, v8, rfl, b4, s4, hnl, hf, hU, hlen, gu, nx, ev, hnm⟩
        have el := UP.len hU
        -- found.append((names[..], size))
        have hat : atI (nms.map V.str) (((0 : Int) + (i : Int) + (sn : Int)) % 6) = some (.str (nm6 (i + sn))) := by
          have e1 : ((0 : Int) + (i : Int) + (sn : Int)) % 6 = (((i + sn) % 6 : Nat) : Int) := by omega
          rw [e1]
          refine atI_nat ?_
          have h6 : (i + sn) % 6 < nms.length := Nat.mod_lt _ (by decide)
          rw [List.getElem?_map, List.getElem?_eq_getElem h6]
          unfold nm6
          rw [List.getD_eq_getElem?_getD, List.getElem?_eq_getElem h6]
          rfl
        refine ⟨_, rfl, .inl ⟨rfl, _, SqL.of hf⟩, _, rfl, _, rfl, _, rfl, _, _, rfl, rfl, .inl ⟨_, rfl, _, 6, rfl, rfl, (by show (0 : Int) < 6; decide), nl, _, _, .str (nm6 (i + sn)), rfl, rfl, SqL.of hnl, hat, _, rfl, (by show 2 ≤ sizeLine; decide), fun t nt => ?_⟩⟩
        have st := same_upd nt (o := .tup [.str (nm6 (i + sn)), .int sz])
        have nft : f ≠ t := ne_of_none hf nt
        have nat' : t ≠ a := by
          obtain ⟨x, y, z, e⟩ := s4
          exact (ne_of_none e nt).symm
        refine ⟨f, _, _, rfl, rfl, st _ _ hf, ?_, ?_⟩
        · rw [List.length_map, el, hlen]
          exact Nat.lt_of_lt_of_le (show i < 7 by omega) (by decide)
        have hU5 : UP K (upd (upd H4 t (.tup [.str (nm6 (i + sn)), .int sz])) f (.lst (ps.map V.ref ++ [.ref t]))) (ps ++ [t]) (us ++ [(nm6 (i + sn), sz)]) := by
          have hf' := st _ _ hf
          refine PySem.Paired.snoc (paired_imp (fun _ _ => (But.upd f _ _).sqt hf' rfl) (paired_imp (fun _ _ => same_sqt st) hU)) ?_
          exact (But.upd f _ _).sqt hf' rfl (SqT.of upd_same)
        have b5 : But a H (upd (upd H4 t (.tup [.str (nm6 (i + sn)), .int sz])) f (.lst (ps.map V.ref ++ [.ref t]))) := fun b o e n => by
          rw [upd_ne (hnotf b o e n).1]
          exact st _ _ (b4 b o e n)
        have s5 : Spr (upd (upd H4 t (.tup [.str (nm6 (i + sn)), .int sz])) f (.lst (ps.map V.ref ++ [.ref t]))) a := by
          obtain ⟨x, y, z, e⟩ := s4.same st
          exact ⟨x, y, z, by rw [upd_ne nfa.symm]; exact e⟩
        have hnl5 : (upd (upd H4 t (.tup [.str (nm6 (i + sn)), .int sz])) f (.lst (ps.map V.ref ++ [.ref t]))) nl = some (.lst (nms.map V.str)) := by
          rw [upd_ne nfl]
          exact st _ _ hnl
        have hf5 : (upd (upd H4 t (.tup [.str (nm6 (i + sn)), .int sz])) f (.lst (ps.map V.ref ++ [.ref t]))) f = some (.lst ((ps ++ [t]).map V.ref)) := by
          rw [upd_same, List.map_append]
          rfl
        have zb := nx.size gu.hi
        have hnew : ∀ v ∈ us, v.1 ≠ nm6 (i + sn) := fun v hv e => by
          obtain ⟨j, hj, ej, _⟩ := hnm v hv
          have := nm6_inj (ej.symm.trans e)
          omega
        have gu' : GU (us ++ [(nm6 (i + sn), sz)]) := gu.snoc (u := (nm6 (i + sn), sz)) (by omega) (nm6_good _) zb.1 (by show sz ≤ 1000000000000000000; omega) (nx.fit hnew)
        have ev' : ∀ u ∈ (us ++ [(nm6 (i + sn), sz)]).drop 1, u.2 % 2 = 0 := fun u hu => by
          cases us with
          | nil => simp at hu
          | cons u0 r0 =>
            rw [List.cons_append, List.drop_succ_cons, List.drop_zero] at hu
            rcases List.mem_append.mp hu with z | z
            · exact ev u (by rw [List.drop_succ_cons, List.drop_zero]; exact z)
            · have e : u = (nm6 (i + sn), sz) := by simpa using z
              subst e
              rcases nx with ⟨h1, _⟩ | ⟨l, _, _, _, _, _, h6, _⟩
              · exact absurd h1 (by simp)
              · exact h6
        have hnm' : ∀ v ∈ us ++ [(nm6 (i + sn), sz)], ∃ j, j < i + 1 ∧ v.1 = nm6 (j + sn) ∧ v.2 ≤ 1000000000000 := fun v hv => by
          rcases List.mem_append.mp hv with z | z
          · obtain ⟨j, h1, h2⟩ := hnm v z
            exact ⟨j, by omega, h2⟩
          · have e : v = (nm6 (i + sn), sz) := by simpa using z
            subst e
            exact ⟨i, by omega, rfl, by show sz ≤ _; omega⟩
        have hlen' : (us ++ [(nm6 (i + sn), sz)]).length = i + 1 := by rw [List.length_append, hlen]; rfl
        generalize upd (upd H4 t (.tup [.str (nm6 (i + sn)), .int sz])) f (.lst (ps.map V.ref ++ [.ref t])) = H5 at hU5 b5 s5 hnl5 hf5
        -- first = part * (1 + ..)
        refine ⟨_, rfl, _, rfl, _, rfl, ⟨small, rfl⟩, fun m1 hm1 => ⟨a, m1, rfl, s5, by omega, by omega, fun q1 H6 q10 q11 s6 b6 => ⟨1, q1, rfl, rfl, part, _, rfl, rfl, .inl ⟨by omega, by omega⟩, ?_⟩⟩⟩
        have hU6 := UP.butS s5 b6 hU5
        have b06 := b5.trans b6
        have hnl6 := b6 _ _ hnl5 nla
        have hf6 := b6 _ _ hf5 nfa
        refine ⟨_, rfl, rfl, _, rfl, ite2 (fun e => ?_) (fun e => ?_)⟩
        · have i0 : i = 0 := by have := V.int.inj (of_decide_eq_true e); omega
          have u0 : us = [] := List.length_eq_zero_iff.mp (by omega)
          have nx' : Next (us ++ [(nm6 (i + sn), sz)]) (part * (1 + q1)) := by
            rcases nx with ⟨_, h2⟩ | ⟨_, _, h2, _⟩
            · subst u0
              subst h2
              exact Next.first hp1 hp2 hp3 q10 (by omega)
            · exact absurd u0 h2
          exact ⟨_, rfl, _, ps ++ [t], _, _, _, rfl, b06, s6, hnl6, hf6, hU6, hlen', gu', nx', ev', hnm'⟩
        · have i0 : i ≠ 0 := fun z => e (decide_eq_true (by subst z; rfl))
          have u0 : us ≠ [] := fun z => i0 (by rw [← hlen, z]; rfl)
          refine ⟨_, rfl, _, rfl, _, rfl, ⟨small, rfl⟩, fun m2 hm2 => ⟨a, m2, rfl, s6, by omega, by omega, fun q2 H7 q20 q21 s7 b7 => ⟨2, q2, rfl, rfl, sz, _, rfl, rfl, .inl ⟨by omega, by omega⟩, ?_⟩⟩⟩
          exact ⟨_, ps ++ [t], _, _, _, rfl, b06.trans b7, s7, b7 _ _ hnl6 nla, b7 _ _ hf6 nfa, UP.butS s6 b7 hU6, hlen', gu', nx.more u0 q20 (by omega), ev', hnm'⟩
      · rintro σ H4 ⟨us, ps, sz, v7, v8, rfl, b4, s4, hnl, hf, hU, hlen, gu, nx, ev, hnm⟩
        have el := UP.len hU
        refine ⟨_, rfl, f, rfl, ⟨_, SqL.of hf⟩, fun D nD => ?_⟩
        have nfD : f ≠ D := ne_of_none hf nD
        refine lc_list (K := K) (a := f) (xs := ps.map V.ref) (fun i H5 => Same H4 H5 ∧ H5 D = some (.lst ((ps.take i).map V.ref))) ⟨same_upd nD, upd_same⟩ (fun i H5 _ h => SqL.of (h.1 _ _ hf)) ?_ ?_
        · rintro i x H5 hi ⟨sm, hD⟩
          obtain ⟨pu, hpu, rfl⟩ := of_get_ref hi
          obtain ⟨u, hu2, hs⟩ := paired_fst hU hpu
          obtain ⟨_, _, k3, _⟩ := gu.each i u hu2
          refine ⟨rfl, .ref pu, rfl, pu, _, 1, .int u.2, rfl, rfl, same_sqt sm hs, rfl, 10, 18, rfl, rfl, ⟨by decide, by decide, by decide⟩, u.2, _, rfl, rfl, _, rfl, ?_⟩
          have e : decide (u.2 ≤ (10 : Int) ^ (18 : Int).toNat) = true := decide_eq_true k3
          rw [e]
          refine iteT ?_
          refine ⟨.ref pu, rfl, _, hD, ?_, fun b o eb => ?_, ?_⟩
          · rw [List.length_map, List.length_take]
            have := gu.hi
            exact Nat.lt_of_lt_of_le (show min i ps.length < 7 by omega) (by decide)
          · rw [upd_ne (ne_of_none eb nD)]
            exact sm _ _ eb
          · rw [upd_same, List.take_add_one, hpu, List.map_append]
            rfl
        · rintro H5 ⟨sm, hD⟩
          rw [List.length_map, List.take_of_length_le (Nat.le_refl _)] at hD
          refine .inl ⟨D, _, rfl, SqL.of hD, fun c nc => ?_⟩
          have sc := same_upd nc (o := .tup (ps.map V.ref))
          exact q c us _ ((b4.trans (Same.but sm)).trans (Same.but sc)) ((s4.same sm).same sc) ⟨ps, SqT.of upd_same, paired_imp (fun _ _ => same_sqt (sm.trans sc)) hU⟩ (gu.good (by omega)) ev (fun v hv => by
            obtain ⟨j, _, e, h⟩ := hnm v hv
            exact ⟨by rw [e]; exact nm6_noone _, h⟩)
end
end My

namespace My
open PySem PySem.Spec PyProof.Rows L2
abbrev sTold : Stmt := top 32
abbrev nTold : List Str := ["_law_spring_here", "_law_small", "_law_power", "_law_part", "_law_units_here", "_law_sort", "_law_name", "_law_size_here"]
theorem scTold : FnScope nTold ["_law_spring_here", "_law_small"] (defScope sTold) := ⟨rfl, rfl, rfl, by decide +kernel, rfl, by decide +kernel, by decide +kernel⟩
/-- what a ladder is made of stands at r -/
def ToldAt (K : PySem.W.Frag) (H : Hp) (r : Addr) (us : List (Str × Int)) (d : Nat) (s : Str) (c : Bool) (l : Int) : Prop := ∃ ua, SqT K H r [.ref ua, .int (d : Int), .str s, .bl c, .int l] ∧ UA K H ua us
theorem ToldAt.same {K : PySem.W.Frag} {H H' : Hp} {r : Addr} {us : List (Str × Int)} {d : Nat} {s : Str} {c : Bool} {l : Int} (k : Same H H') (h : ToldAt K H r us d s c l) : ToldAt K H' r us d s c l := by
  obtain ⟨ua, h1, h2⟩ := h
  exact ⟨ua, same_sqt k h1, h2.same k⟩
theorem ToldAt.but {K : PySem.W.Frag} {H H' : Hp} {a r : Addr} {us : List (Str × Int)} {d : Nat} {s : Str} {c : Bool} {l : Int} (hp : Spr H a) (k : But a H H') (h : ToldAt K H r us d s c l) : ToldAt K H' r us d s c l := by
  obtain ⟨ua, h1, h2⟩ := h
  exact ⟨ua, k.sqtS hp h1, UA.butS hp k h2⟩
def spTold (K : PySem.W.Frag) : Sp := fun vs H Q _ => ∃ (a : Addr) (small : Bool), vs = [.ref a, .bl small] ∧ Spr H a ∧
  ∀ (r : Addr) (us : List (Str × Int)) (d : Nat) (s : Str) (c : Bool) (l : Int) (H' : Hp), But a H H' → Spr H' a → ToldAt K H' r us d s c l → Good us d s l → NoOne us → l ≤ 100 → Q (.ref r) H'
def spMade (K : PySem.W.Frag) (C : Addr) : Sp := fun vs H Q _ => ∃ (r : Addr) (us : List (Str × Int)) (d : Nat) (s : Str) (c : Bool) (l : Int), vs = [.ref r] ∧ ToldAt K H r us d s c l ∧ Good us d s l ∧
  ∀ (p : Addr) (H' : Hp), Same H H' → LadAt K C H' p us d s c l → Q (.ref p) H'
/-- Ladder(.., carry = .., least = ..) -/
theorem kb_linit {K : PySem.W.Frag} {mg : Str → Option Value} (L : LadC K mg) : KBn K L.fd ["self", "units", "decimals", "rounding", "carry", "least"] 4 ["carry", "least"] (fun us ws => us ++ ws) (fun us ws => us ++ ws) := by
  obtain ⟨oc, od, kV, doc, pm, an, cdv, ct, osl, e, _⟩ := L.F.ex
  rw [e]
  refine ⟨fun s us ws _ h1 h2 => ?_, fun h1 h2 => h1.append h2⟩
  match us, ws, h1, h2 with
  | [_, _, _, _], [_, _], _, _ => exact .of_eq rfl
section
variable {P : Program} {w : World} {K : PySem.W.Frag} {mg : Str → Option Value} {base : Heap}
theorem ok_told (d : Dd K mg "_law_told" sTold ["_law_spring_here", "_law_small"]) (dU : Dd K mg "_law_units" sUnits ["_law_spring_here", "_law_part", "_law_small"]) (dS : Dd K mg "_law_some_of" sSome ["_law_spring_here", "_law_things"]) (dG : Dd K mg "_law_gulp" sGulp ["_law_spring_here", "_law_many"]) (B : Bt mg) :
    FnOk P w K mg base CX0 4 d.f d.fd ["_law_spring_here", "_law_small"] (spTold K) := by
  have G : FnOk P w K mg base CX0 2 dG.f dG.fd ["_law_spring_here", "_law_many"] spGulp := ok_gulp dG.F B
  have GS : FnOk P w K mg base CX0 3 dS.f dS.fd ["_law_spring_here", "_law_things"] (spSome K) := ok_some dS.F dG.F dG.b dG.g B
  have GU' : FnOk P w K mg base CX0 3 dU.f dU.fd ["_law_spring_here", "_law_part", "_law_small"] (spUnits K) := ok_units dU dG B
  refine d.F.ok scTold (fun vs H Q E h => ?_) (fun cdv A outer s H vs Q E hr h => ?_)
  · obtain ⟨_, _, rfl, _⟩ := h
    rfl
  · obtain ⟨a, small, rfl, hS, q⟩ := h
    have nd := scTold.nd
    have hr1 : Room 2 _ := hr.mono (by decide)
    refine ⟨_, Evl.pss_cut (ps_set (i := 2) nd rfl (.inl rfl) (pe_call GS hr (by rfl) dS.g dS.F.kp dS.b .nil pass0 (pa_cons (pv 0) (pa_cons (pe_ifExp (pt_val (pv 1)) (pe_lst (pa_cons pe_int (pa_cons pe_int (pa_cons pe_int pa_nil)))) (pe_lst (pa_cons pe_int (pa_cons pe_int (pa_cons pe_int (pa_cons pe_int (pa_cons pe_int pa_nil))))))) pa_nil))))
      (pss_cons (ps_set (i := 3) nd rfl (.inr rfl) (pe_op op_mul pe_int (pe_ix ix_list (pe_lst (pa_cons pe_int (pa_cons pe_int (pa_cons pe_int (pa_cons pe_int pa_nil))))) (pv 2) (fun _ _ => rfl))))
      (pss_cons (ps_set (i := 4) nd rfl (.inl rfl) (pe_call GU' hr (by rfl) dU.g dU.F.kp dU.b .nil pass0 (pa_cons (pv 0) (pa_cons (pv 3) (pa_cons (pv 1) pa_nil)))))
      (Evl.pss_cut (ps_if (pt_not (pt_val (pe_callB (cr_all rfl) (by rfl) B.all (by decide +kernel) (pa_cons
          (pe_lc (own := [("_law_name", 6), ("_law_size_here", 7)]) (g := gTup K 2 (gCons (gName 6) (gCons (gName 7) gNil))) (tt := tYes) rfl nd (pi_tup (pe_slice sl_tupA (pv 4) (po_some pe_int) po_none))
            (blkOk_by (own := [("_law_name", 6), ("_law_size_here", 7)]) (N := nTold) (sc := defScope sTold) (by decide +kernel)) (fun _ _ _ _ _ => pg_tup rfl (pgs_cons (pg_name (i := 6) nd rfl (Or.inl rfl)) (pgs_cons (pg_name (i := 7) nd rfl (Or.inl rfl)) pgs_nil))) (fun _ _ _ _ _ => pts_nil)
            (fun _ _ _ _ _ => pe_cmpR op_eq (pe_op op_mul (pe_op op_fdiv (pv 7) (pv 3)) (pv 3)) (pv 7) (nomark _))) pa_nil)))) (pss_one (ps_set (i := 2) nd rfl (.inl rfl) pe_int)) pss_nil)
      (pss_cons (ps_set (i := 5) nd rfl (.inl rfl) (pe_call GS hr (by rfl) dS.g dS.F.kp dS.b .nil pass0 (pa_cons (pv 0) (pa_cons (pe_lst (pa_cons pe_str (pa_cons pe_str (pa_cons pe_str (pa_cons pe_str pa_nil))))) pa_nil))))
      (pss_one (ps_ret (pe_tup (pa_cons (pv 4) (pa_cons (pv 2) (pa_cons (pv 5) (pa_cons (pe_cmpR op_eq (pe_call G hr1 (by rfl) dG.g dG.F.kp dG.b .nil pass0 (pa_cons (pv 0) (pa_cons pe_int pa_nil))) pe_int (nomark _))
        (pa_cons (pe_call GS hr (by rfl) dS.g dS.F.kp dS.b .nil pass0 (pa_cons (pv 0) (pa_cons (pe_lst (pa_cons pe_int (pa_cons pe_int (pa_cons pe_int (pa_cons pe_int (pa_cons (pe_either (pt_val (pv 1)) (mono_var 1)) pa_nil)))))) pa_nil))) pa_nil)))))))))))), ?_⟩
    have nal : ∀ {H1 : Hp} {p : Addr}, Spr H1 a → H1 p = none → p ≠ a := fun ⟨_, _, _, e⟩ n => (ne_of_none e n).symm
    refine ⟨fun σ' H' => ∃ pw : Nat, pw ≤ 3 ∧ σ' = [some (.ref a), some (.bl small), some (.int (pw : Int)), none, none, none, none, none] ∧ But a H H' ∧ Spr H' a, ?_, ?_⟩
    · refine ⟨_, rfl, _, rfl, small, rfl, ite2 (fun _ => ?_) (fun _ => ?_)⟩
      · refine ⟨(by show 3 ≤ sizeLine; decide), fun p np => ⟨a, p, _, rfl, hS.same (same_upd np), .inl (SqL.of upd_same), nal hS np, by simp, (by show 3 < 1000; decide), fun v H1 hv s1 b1 => ?_⟩⟩
        have hv' : v = .int 0 ∨ v = .int 1 := by simp at hv; omega
        rcases hv' with rfl | rfl
        · exact ⟨0, by decide, rfl, (Same.but (same_upd np)).trans b1, s1⟩
        · exact ⟨1, by decide, rfl, (Same.but (same_upd np)).trans b1, s1⟩
      · refine ⟨(by show 5 ≤ sizeLine; decide), fun p np => ⟨a, p, _, rfl, hS.same (same_upd np), .inl (SqL.of upd_same), nal hS np, by simp, (by show 5 < 1000; decide), fun v H1 hv s1 b1 => ?_⟩⟩
        have hv' : v = .int 0 ∨ v = .int 1 ∨ v = .int 2 ∨ v = .int 3 := by simp at hv; omega
        rcases hv' with rfl | rfl | rfl | rfl
        · exact ⟨0, by decide, rfl, (Same.but (same_upd np)).trans b1, s1⟩
        · exact ⟨1, by decide, rfl, (Same.but (same_upd np)).trans b1, s1⟩
        · exact ⟨2, by decide, rfl, (Same.but (same_upd np)).trans b1, s1⟩
        · exact ⟨3, by decide, rfl, (Same.but (same_upd np)).trans b1, s1⟩
    rintro σ' H1 ⟨pw, hpw, rfl, b1, s1⟩
    -- part
    have plo := pow_lo pw
    have phi := pow_hi hpw
    refine ⟨(by show 4 ≤ sizeLine; decide), fun p np => ⟨_, rfl, p, _, pw, _, rfl, rfl, SqL.of upd_same, parts_at hpw, 2, _, rfl, rfl, .inl ⟨by decide, by decide⟩, ?_⟩⟩
    have sp := same_upd np (o := .lst [.int 1, .int 10, .int 100, .int 1000])
    refine ⟨_, rfl, _, rfl, _, rfl, a, _, small, rfl, s1.same sp, by omega, by omega, by omega, fun ua us H2 b2 s2 hU gus hev hone => ?_⟩
    have b02 := (b1.trans (Same.but sp)).trans b2
    obtain ⟨ps, hua, hu⟩ := id hU
    have el := UP.len hu
    refine ⟨fun σ' H' => ∃ d : Nat, d ≤ 3 ∧ (∀ u ∈ us.drop 1, u.2 % (2 * 10 ^ d) = 0) ∧ σ' = [some (.ref a), some (.bl small), some (.int (d : Int)), some (.int (2 * 10 ^ pw)), some (.ref ua), none, none, none] ∧ But a H H' ∧ Spr H' a ∧ UA K H' ua us, ?_, ?_⟩
    · refine rest_of (te := tVar 4) hua (by rw [List.length_map, el]; exact gus.lo) (fun Qt h => ⟨_, rfl, h⟩) fun c H3 s3 hc => ?_
      refine ⟨c, rfl, ⟨_, hc⟩, fun D nD => ?_⟩
      have hu3 := paired_drop 1 (paired_imp (fun _ _ => same_sqt s3) hu)
      have el3 := UP.len hu3
      rw [← List.map_drop] at hc
      refine lc_tup (K := K) (a := c) (xs := (ps.drop 1).map V.ref) (fun i H4 => Same H3 H4 ∧ H4 D = some (.lst ((((us.drop 1).take i).map fun u => decide (u.2 / (2 * 10 ^ pw) * (2 * 10 ^ pw) = u.2)).map V.bl))) ⟨same_upd nD, upd_same⟩ (fun i H4 _ h => same_sqt h.1 hc) ?_ ?_
      · rintro i x H4 hi ⟨sm, hD⟩
        obtain ⟨pu, hpu, rfl⟩ := of_get_ref hi
        obtain ⟨u, hu2, hs⟩ := paired_fst hu3 hpu
        have hm := List.mem_of_getElem? hu2
        refine ⟨pu, _, rfl, same_sqt sm hs, rfl, .str u.1, [.int u.2], rfl, .int u.2, [], rfl, rfl, ?_⟩
        refine ⟨rfl, _, rfl, _, rfl, u.2, _, rfl, rfl, ⟨by omega, by omega⟩, _, rfl, _, _, rfl, rfl, .inr ⟨by omega, by omega⟩, _, rfl, rfl, _, hD, ?_, fun b o eb => ?_, ?_⟩
        · rw [List.length_map, List.length_map, List.length_take, List.length_drop]
          have := gus.hi
          exact Nat.lt_of_lt_of_le (show min i (us.length - 1) < 7 by omega) (by decide)
        · rw [upd_ne (ne_of_none eb nD)]
          exact sm _ _ eb
        · rw [upd_same, List.take_add_one, hu2, List.map_append, List.map_append]
          have e : decide (V.int (u.2 / (2 * 10 ^ pw) * (2 * 10 ^ pw)) = V.int u.2) = decide (u.2 / (2 * 10 ^ pw) * (2 * 10 ^ pw) = u.2) := by simp
          show some (HO.lst (_ ++ [V.bl (decide (V.int (u.2 / (2 * 10 ^ pw) * (2 * 10 ^ pw)) = V.int u.2))])) = _
          rw [e]
          rfl
      · rintro H4 ⟨sm, hD⟩
        rw [List.length_map, el3, List.take_of_length_le (Nat.le_refl _)] at hD
        have s24 := s3.trans sm
        refine ⟨D, _, rfl, SqL.of hD, _, rfl, ?_⟩
        cases ea : ((us.drop 1).map fun u => decide (u.2 / (2 * 10 ^ pw) * (2 * 10 ^ pw) = u.2)).all id with
        | false =>
          refine iteT ?_
          refine ⟨0, by decide, fun u hm => ?_, rfl, b02.trans (Same.but s24), s2.same s24, hU.same s24⟩
          have := hev u hm
          show u.2 % (2 * 1) = 0
          exact this
        | true =>
          refine iteF ?_
          refine ⟨pw, hpw, fun u hm => ?_, rfl, b02.trans (Same.but s24), s2.same s24, hU.same s24⟩
          rw [List.all_eq_true] at ea
          have h1 := ea _ (List.mem_map.mpr ⟨u, hm, rfl⟩)
          have h2 : u.2 / (2 * 10 ^ pw) * (2 * 10 ^ pw) = u.2 := of_decide_eq_true h1
          have h3 := Int.mul_ediv_add_emod u.2 (2 * 10 ^ pw)
          rw [show (2 * 10 ^ pw : Int) * (u.2 / (2 * 10 ^ pw)) = u.2 / (2 * 10 ^ pw) * (2 * 10 ^ pw) from Int.mul_comm _ _, h2] at h3
          omega
    rintro σ' H3 ⟨dn, hd, hdiv, rfl, b3, s3, hU3⟩
    -- sort
    refine ⟨_, rfl, (by show 4 ≤ sizeLine; decide), fun p2 np2 => ⟨a, p2, _, rfl, s3.same (same_upd np2), .inl (SqL.of upd_same), nal s3 np2, by simp, (by show 4 < 1000; decide), fun v H4 hv s4 b4 => ?_⟩⟩
    obtain ⟨z, hz, rfl⟩ : ∃ z, z ∈ sorts ∧ v = .str z := by
      have hv' : v = .str "down" ∨ v = .str "up" ∨ v = .str "near" ∨ v = .str "even" := by simpa using hv
      unfold sorts
      rcases hv' with rfl | rfl | rfl | rfl <;> exact ⟨_, by simp, rfl⟩
    have sp2 := same_upd np2 (o := .lst [.str "down", .str "up", .str "near", .str "even"])
    have b04 := (b3.trans (Same.but sp2)).trans b4
    have hU4 := UA.butS (s3.same sp2) b4 (hU3.same sp2)
    refine ⟨_, rfl, _, rfl, _, rfl, _, rfl, a, 2, rfl, s4, by decide, by decide, fun r H5 r0 r1 s5 b5 => ⟨rfl, ?_⟩⟩
    have hU5 := UA.butS s4 b5 hU4
    refine ⟨_, rfl, _, rfl, ⟨small, rfl⟩, fun m hm => ⟨(by show 5 ≤ sizeLine; decide), fun p3 np3 => ⟨a, p3, _, rfl, s5.same (same_upd np3), .inl (SqL.of upd_same), nal s5 np3, by simp, (by show 5 < 1000; decide), fun v6 H6 hv6 s6 b6 => ?_⟩⟩⟩
    have sp3 := same_upd np3 (o := .lst [.int 1, .int 1, .int 1, .int 2, .int m])
    obtain ⟨l, hl1, hl2, rfl⟩ : ∃ l : Int, 1 ≤ l ∧ l ≤ 100 ∧ v6 = .int l := by
      have hv' : v6 = .int 1 ∨ v6 = .int 2 ∨ v6 = .int m := by simpa using hv6
      rcases hv' with rfl | rfl | rfl
      · exact ⟨1, by decide, by decide, rfl⟩
      · exact ⟨2, by decide, by decide, rfl⟩
      · exact ⟨m, by omega, by omega, rfl⟩
    have hU6 := UA.butS (s5.same sp3) b6 (hU5.same sp3)
    refine ⟨(by show 5 ≤ sizeLine; decide), fun r6 nr6 => ?_⟩
    have s66 := same_upd nr6 (o := .tup [.ref ua, .int (dn : Int), .str z, .bl (decide (V.int r = V.int 0)), .int l])
    exact q r6 us dn z (decide (V.int r = V.int 0)) l _ ((((b04.trans b5).trans (Same.but sp3)).trans b6).trans (Same.but s66)) (s6.same s66) ⟨ua, SqT.of upd_same, hU6.same s66⟩ ⟨gus, hd, hdiv, hz, hl1, by omega⟩ hone hl2
end
end My

namespace My
open PySem PySem.Spec PyProof.Rows L2
abbrev sMade : Stmt := top 33
abbrev nMade : List Str := ["_law_told_here", "_law_a", "_law_b", "_law_c", "_law_d", "_law_e"]
theorem scMade : FnScope nMade ["_law_told_here"] (defScope sMade) := ⟨rfl, rfl, rfl, by decide +kernel, rfl, by decide +kernel, by decide +kernel⟩
section
variable {P : Program} {w : World} {K : PySem.W.Frag} {mg : Str → Option Value} {base : Heap}
theorem ok_made (d : Dd K mg "_law_made" sMade ["_law_told_here"]) (L : LadC K mg)
    (GI : FnOk P w K mg base CX0 5 L.f L.fd ["self", "units", "decimals", "rounding", "carry", "least"] (spLInit K L.C)) : FnOk P w K mg base CX0 7 d.f d.fd ["_law_told_here"] (spMade K L.C) := by
  refine d.F.ok scMade (fun vs H Q E h => ?_) (fun cdv A outer s H vs Q E hr h => ?_)
  · obtain ⟨_, _, _, _, _, _, rfl, _⟩ := h
    rfl
  · obtain ⟨r, us, dn, z, c, l, rfl, ⟨ua, hr0, hU⟩, g, q⟩ := h
    have nd := scMade.nd
    refine ⟨_, pss_cons (ps_asg (pv 0) (pg_tup rfl (pgs_cons (pg_name (i := 1) nd rfl (.inl rfl)) (pgs_cons (pg_name (i := 2) nd rfl (.inl rfl)) (pgs_cons (pg_name (i := 3) nd rfl (.inl rfl)) (pgs_cons (pg_name (i := 4) nd rfl (.inl rfl)) (pgs_cons (pg_name (i := 5) nd rfl (.inl rfl)) pgs_nil)))))))
      (pss_one (ps_ret (pe_makeK L.M GI hr (by rfl) L.g (kb_linit L) pass0 (pa_cons (pv 1) (pa_cons (pv 2) (pa_cons (pv 3) pa_nil))) (pk_cons (pv 4) (pk_cons (pv 5) pk_nil))))), ?_⟩
    refine ⟨_, rfl, r, _, rfl, hr0, rfl, _, _, rfl, _, _, rfl, _, _, rfl, _, _, rfl, _, _, rfl, rfl, ?_⟩
    refine ⟨_, rfl, _, rfl, _, rfl, _, rfl, _, rfl, rfl, rfl, fun x dx nx ndx nex => ?_⟩
    have hx : (upd (upd H dx (.own x)) x (.ins L.C dx [])) x = some (.ins L.C dx []) := upd_same
    have s0 : Same H (upd (upd H dx (.own x)) x (.ins L.C dx [])) := fun b o e => by
      rw [upd_ne (ne_of_none e nx), upd_ne (ne_of_none e ndx)]
      exact e
    refine ⟨x, dx, ua, us, dn, z, c, l, rfl, hx, hU.same s0, g, fun H' t st th b1 h1 h2 h3 h4 => ⟨rfl, ?_⟩⟩
    have s1 : Same H H' := fun b o e => b1 b o (s0 b o e) (ne_of_none e nx)
    exact q x H' s1 ⟨dx, ua, t, st, th, h1, hU.same s1, h2, h3, h4⟩
end
end My

namespace My
open PySem PySem.Spec PyProof.Rows L2
/-! ### thresholds ascend -/
def szOf (us : List (Str × Int)) (i : Nat) : Int := (us.getD i ("", 0)).2
theorem szOf_at {us : List (Str × Int)} {i : Nat} {u : Str × Int} (h : us[i]? = some u) : szOf us i = u.2 := by
  unfold szOf
  rw [List.getD_eq_getElem?_getD, h]
  rfl
theorem sz_up {us : List (Str × Int)} (g : GoodUs us) {i : Nat} (h : i + 1 < us.length) : szOf us i < szOf us (i + 1) := by
  have h1 : us[i + 1]? = some us[i + 1] := List.getElem?_eq_getElem h
  have h0 : us[i]? = some us[i] := List.getElem?_eq_getElem (by omega)
  obtain ⟨_, _, _, hf⟩ := g.each (i + 1) _ h1
  rw [szOf_at h1, szOf_at h0]
  have el : (us.take (i + 1)).length = i + 1 := by rw [List.length_take]; omega
  rcases hf with ⟨e, _⟩ | ⟨l, hl, _, _, h3, _⟩
  · rw [e] at el
    cases el
  · rw [el, Nat.add_sub_cancel, List.getElem?_take] at hl
    rw [if_pos (Nat.lt_succ_self i), h0] at hl
    rw [Option.some.inj hl]
    exact h3
theorem thr_at {us : List (Str × Int)} {l : Int} {k : Nat} (h1 : 1 ≤ k) (h2 : k < us.length) : (thrsOf us l)[k]? = some (szOf us k * l) := by
  obtain ⟨j, rfl⟩ : ∃ j, k = j + 1 := ⟨k - 1, by omega⟩
  have h : us[j + 1]? = some us[j + 1] := List.getElem?_eq_getElem h2
  unfold thrsOf
  rw [List.getElem?_cons_succ, List.getElem?_map, List.getElem?_drop, Nat.add_comm 1 j, h, szOf_at h]
  rfl
theorem step_at {us : List (Str × Int)} {d k : Nat} (h1 : 1 ≤ k) (h2 : k < us.length) : (stepsOf us d).getD k 0 = szOf us k / 10 ^ d := by
  obtain ⟨j, rfl⟩ : ∃ j, k = j + 1 := ⟨k - 1, by omega⟩
  have h : us[j + 1]? = some us[j + 1] := List.getElem?_eq_getElem h2
  unfold stepsOf
  rw [List.getD_eq_getElem?_getD, List.getElem?_cons_succ, List.getElem?_map, List.getElem?_drop, Nat.add_comm 1 j, h, szOf_at h]
  rfl
theorem sz_mono {us : List (Str × Int)} (g : GoodUs us) : ∀ {j i : Nat}, i ≤ j → j < us.length → szOf us i ≤ szOf us j := by
  intro j
  induction j with
  | zero => intro i h _; rw [show i = 0 by omega]; exact Int.le_refl _
  | succ j ih =>
    intro i h hj
    rcases Nat.lt_or_ge i (j + 1) with z | z
    · have := ih (i := i) (by omega) (by omega)
      have := sz_up g hj
      omega
    · rw [show i = j + 1 by omega]
      exact Int.le_refl _
theorem thr_sorted {us : List (Str × Int)} {l : Int} (g : GoodUs us) (hl : 1 ≤ l) : (thrsOf us l).Pairwise (· ≤ ·) := by
  rw [List.pairwise_iff_getElem]
  intro i j hi hj hij
  have elen := len_thrs us l g.lo
  have hj' : (thrsOf us l)[j]? = some (szOf us j * l) := thr_at (by omega) (by omega)
  have ej : (thrsOf us l)[j] = szOf us j * l := by
    have := List.getElem?_eq_getElem hj
    rw [hj'] at this
    exact (Option.some.inj this).symm
  have pj : 1 ≤ szOf us j := by
    have h : us[j]? = some us[j] := List.getElem?_eq_getElem (by omega)
    rw [szOf_at h]
    exact (g.each j _ h).2.1
  show (thrsOf us l)[i] ≤ (thrsOf us l)[j]
  rw [ej]
  cases i with
  | zero =>
    show (0 : Int) ≤ szOf us j * l
    exact Int.mul_nonneg (by omega) (by omega)
  | succ i =>
    have hi' : (thrsOf us l)[i + 1]? = some (szOf us (i + 1) * l) := thr_at (by omega) (by omega)
    have ei : (thrsOf us l)[i + 1] = szOf us (i + 1) * l := by
      have := List.getElem?_eq_getElem hi
      rw [hi'] at this
      exact (Option.some.inj this).symm
    rw [ei]
    exact Int.mul_le_mul_of_nonneg_right (sz_mono g (by omega) (by omega)) (by omega)
theorem asc_cnt {n : Int} : ∀ {T : List Int}, T.Pairwise (· ≤ ·) → ∀ {k : Nat} {t : Int}, T[k]? = some t → (t ≤ n ↔ k < (T.filter fun x => decide (x ≤ n)).length)
  | [], _, k, t, h => by simp at h
  | x :: r, hp, k, t, h => by
    rw [List.pairwise_cons] at hp
    by_cases hx : x ≤ n
    · rw [List.filter_cons, if_pos (decide_eq_true hx), List.length_cons]
      cases k with
      | zero =>
        have e : x = t := Option.some.inj h
        subst e
        exact ⟨fun _ => Nat.succ_pos _, fun _ => hx⟩
      | succ k =>
        have ih := asc_cnt (n := n) hp.2 (k := k) (t := t) h
        rw [ih]
        omega
    · rw [List.filter_cons, if_neg (fun z => hx (of_decide_eq_true z))]
      have hall : ∀ y ∈ r, ¬ y ≤ n := fun y hy z => hx (Int.le_trans (hp.1 y hy) z)
      have e0 : (r.filter fun x => decide (x ≤ n)) = [] := List.filter_eq_nil_iff.mpr fun y hy z => hall y hy (of_decide_eq_true z)
      rw [e0]
      refine ⟨fun z => ?_, fun z => absurd z (Nat.not_lt_zero _)⟩
      cases k with
      | zero =>
        have e : x = t := Option.some.inj h
        subst e
        exact absurd z hx
      | succ k => exact absurd z (hall t (List.mem_of_getElem? h))
/-- a place is reached exactly up to the last one -/
theorem reached {us : List (Str × Int)} {l n : Int} (g : GoodUs us) (hl : 1 ≤ l) (h0 : 0 ≤ n) {k : Nat} (hk : k < us.length) : (k = 0 ∨ szOf us k * l ≤ n) ↔ k ≤ placeOf us l n := by
  have hc := cnt_pos (us := us) (l := l) h0
  unfold placeOf
  rcases Nat.eq_zero_or_pos k with z | z
  · subst z
    exact ⟨fun _ => Nat.zero_le _, fun _ => .inl rfl⟩
  · have h := asc_cnt (n := n) (thr_sorted (l := l) g hl) (thr_at (l := l) z hk)
    show _ ↔ k ≤ cntOf us l n - 1
    have e : (k < ((thrsOf us l).filter fun x => decide (x ≤ n)).length) = (k < cntOf us l n) := rfl
    rw [e] at h
    constructor
    · intro y
      rcases y with y | y
      · omega
      · have := h.mp y
        omega
    · intro y
      exact .inr (h.mpr (by omega))
theorem rnd_one (n : Int) (s : Str) : rnd n 1 s = n := by
  unfold rnd goesUp
  have e1 : n / 1 = n := Int.ediv_one n
  have e2 : n % 1 = 0 := Int.emod_one n
  rw [e1, e2]
  have e : (if s = "up" then decide ((0 : Int) < 0) else if s = "near" then decide ((1 : Int) ≤ 2 * 0) else if s = "even" then decide ((1 : Int) < 2 * 0) || (decide ((2 : Int) * 0 = 1) && decide (n % 2 = 1)) else false) = false := by
    split
    · rfl
    · split
      · rfl
      · split
        · rfl
        · rfl
  rw [e]
  rfl
theorem placed_zero {us : List (Str × Int)} {d : Nat} {s : Str} {c : Bool} {l n : Int} (g : Good us d s l) (h0 : 0 ≤ n) (h : placeOf us l n = 0) : placedM us d s c l n = (0, n) := by
  unfold placedM
  rw [h]
  have e1 : (stepsOf us d).getD 0 0 = 1 := rfl
  rw [e1, rnd_one]
  have e2 : isCar us d c l 0 n = false := by
    unfold isCar
    rcases Nat.lt_or_ge 1 us.length with z | z
    · have t1 := thr_at (l := l) (Nat.le_refl 1) z
      have e3 : (thrsOf us l).getD (0 + 1) 0 = szOf us 1 * l := by rw [List.getD_eq_getElem?_getD, t1]; rfl
      have hr := reached (n := n) g.u g.l1 h0 z
      have hn : ¬ szOf us 1 * l ≤ n := fun y => by
        have := hr.mp (.inr y)
        omega
      rw [e3, e1, Int.mul_one, decide_eq_false hn, Bool.and_false, Bool.and_false]
    · rw [decide_eq_false (show ¬ 0 + 1 < us.length by omega), Bool.false_and, Bool.and_false]
  rw [e2, if_neg Bool.false_ne_true]
end My

namespace My
open PySem PySem.Spec PyProof.Rows L2
theorem op_mul_str {X : Cx} : OpR X (binaryOp .Mult) (fun x y H Q => ∃ z n, x = .str z ∧ y = .int n ∧ MulOk z n ∧ Q (.str (Txt.mul z n)) H) := by
  intro pins s σ H x y v u Q I rx ry h
  obtain ⟨z, n, rfl, rfl, ok, q⟩ := h
  obtain ⟨t, rfl⟩ := rx
  obtain ⟨t', rfl⟩ := ry
  exact SB.mul ok (fun t' tk => ⟨.str (Txt.mul z n), H, I.tok _, ⟨_, rfl⟩, q⟩)
theorem mul_ok {n : Int} (h1 : -1000 ≤ n) (h2 : n ≤ 4) : MulOk ("0" : Str) n := by
  refine ⟨?_, fun h3 h4 => ?_, fun h3 h4 => ?_⟩
  · rw [decide_eq_false (by omega), decide_eq_false (by omega)]
    rfl
  · have : n = 1 ∨ n = 2 ∨ n = 3 ∨ n = 4 := by omega
    rcases this with rfl | rfl | rfl | rfl <;> decide
  · have : n = 1 ∨ n = 2 ∨ n = 3 ∨ n = 4 := by omega
    rcases this with rfl | rfl | rfl | rfl <;> decide +kernel
abbrev nLRnd : List Str := ["_law_sort", "_law_top_here", "_law_step", "_law_mark", "_law_left"]
abbrev nLParts : List Str := ["_law_told_here", "_law_top_here", "_law_units_here", "_law_power", "_law_sort", "_law_goes_over", "_law_much", "_law_tens", "_law_at", "_law_mark", "_law_k"]
def spLRnd : Sp := fun vs H Q _ => ∃ (n st : Int) (s : Str), vs = [.str s, .int n, .int st] ∧ 0 < st ∧ st.natAbs < 2 ^ 64 ∧ ∀ H', Same H H' → Q (.int (rnd n st s)) H'
def spLParts (K : PySem.W.Frag) : Sp := fun vs H Q _ => ∃ (r : Addr) (us : List (Str × Int)) (d : Nat) (s : Str) (c : Bool) (l n : Int), vs = [.ref r, .int n] ∧ ToldAt K H r us d s c l ∧ Good us d s l ∧ 0 ≤ n ∧ n ≤ 1000000000000000000000000000000 ∧
  ∀ (t : Addr) (H' : Hp), Same H H' → SqT K H' t [.int ((placedM us d s c l n).1 : Int), .int (placedM us d s c l n).2] → Q (.ref t) H'
def spLWrit (K : PySem.W.Frag) : Sp := fun vs H Q _ => ∃ (r : Addr) (us : List (Str × Int)) (d : Nat) (s : Str) (c : Bool) (l : Int) (p : Nat) (m : Int), vs = [.ref r, .int (p : Int), .int m] ∧ ToldAt K H r us d s c l ∧ Good us d s l ∧ p < us.length ∧ 0 ≤ m ∧ m < 10 ^ 40 ∧ Q (.str (writ us d p m)) H
def spLSeen (K : PySem.W.Frag) : Sp := fun vs H Q _ => ∃ (r : Addr) (us : List (Str × Int)) (d : Nat) (s : Str) (c : Bool) (l n : Int), vs = [.ref r, .int n] ∧ ToldAt K H r us d s c l ∧ Good us d s l ∧ 0 ≤ n ∧ n ≤ 1000000000000000000000000000000 ∧
  ∀ H', Same H H' → Q (.str (shown us d s c l n)) H'
section
variable {P : Program} {w : World} {K : PySem.W.Frag} {mg : Str → Option Value} {base : Heap}
end
end My

namespace My
open PySem PySem.Spec PyProof.Rows L2
theorem int_lt64 {z : Int} (h1 : 0 < z) (h2 : z ≤ 1000000000000000000) : z.natAbs < 2 ^ 64 := by omega
theorem div_step {us : List (Str × Int)} {d : Nat} {s : Str} {l : Int} (g : Good us d s l) {p : Nat} (h1 : 1 ≤ p) (hp : p < us.length) : 0 < szOf us p / 10 ^ d ∧ szOf us p / 10 ^ d ≤ 1000000000000000000 := by
  obtain ⟨_, k2, k3⟩ := steps_ok g hp
  rw [step_at h1 hp] at k2 k3
  exact ⟨k2, k3⟩
theorem filt_snoc (f : Nat → Bool) (i : Nat) : (List.range (i + 1)).filter f = (List.range i).filter f ++ (if f i = true then [i] else []) := by
  rw [List.range_succ, List.filter_append]
  congr 1
  rw [List.filter_cons]
  rfl
section
variable {P : Program} {w : World} {K : PySem.W.Frag} {mg : Str → Option Value} {base : Heap}
end
end My

namespace My
open PySem PySem.Spec PyProof.Rows L2
abbrev nLWrit : List Str := ["_law_told_here", "_law_at", "_law_mark", "_law_line", "_law_power"]
abbrev nLSeen : List Str := ["_law_told_here", "_law_top_here", "_law_at", "_law_mark"]
section
variable {P : Program} {w : World} {K : PySem.W.Frag} {mg : Str → Option Value} {base : Heap}
end
end My

namespace My
open PySem PySem.Spec PyProof.Rows L2
section
variable {X : Cx} {CX : CXT} {k : Nat} {f : Addr} {fd : FuncData} {ps ks : List Str} {sp : Sp} {E : XK} {x : Str} {p pos : Pos} {kws : List Keyword} {tk : TA} {g : List Value → List Value → List Value} {gV : List V → List V → List V}
/-- f(k = v, ..) -/
theorem pe_callN0 (F : FnOk X.prog X.w X.K X.mg X.base CX k f fd ps sp) (hr : Room k X.A) (hg : Gl X x) (hm : X.mg x = some (.ref f)) (hk : PySem.W.keepIn X.K (.ref f) = true) (hb : KBn X.K fd ps 0 ks g gV) (hx : Passes CX X E)
    (hkw : PK X kws tk) (hall : (backToKw pos (keywordEach kws X.env)).all (·.1.isSome) = true := by rfl) (hks : (backToKw pos (keywordEach kws X.env)).filterMap (·.1) = ks := by rfl) (hdb : (x == ("__debug__" : Str)) = false := by decide)
    (hpl : ((backTo pos (starEach [] X.env)).any (·.1) || (backToKw pos (keywordEach kws X.env)).any (·.1.isNone)) = false := by rfl) : PE X (.Call (.Name x p) [] kws pos) (tCallN 0 ks.length sp gV E tNil tk) := by
  constructor
  intro pins s σ H Q I h
  refine wpAny_Call_Name_kw (ld_glob I hg hm (PySem.W.callWith_KW0 (h₀ := X.base) I.ok.mod.kin hk hall (thn (hkw.run pos pins s σ H _ I h) ?_) hpl) hdb)
  rintro ws s2 ⟨zs, H2, I2, rz, l1, l2, q2⟩
  refine ⟨I2.kIn, ?_⟩
  subst hks
  exact run_fnN (us := []) (vs := []) F hr hb hx I2 .nil rz l1 l2 q2
end
abbrev nTop : List Str := ["_law_spring_here", "_law_told_here", "_law_way", "_law_unit_here", "_law_step", "_law_near_here", "_law_half"]
def spTop (K : PySem.W.Frag) : Sp := fun vs H Q _ => ∃ (a r : Addr) (us : List (Str × Int)) (d : Nat) (s : Str) (c : Bool) (l : Int), vs = [.ref a, .ref r] ∧ Spr H a ∧ ToldAt K H r us d s c l ∧ Good us d s l ∧
  ∀ (n : Int) (H' : Hp), 0 ≤ n → n ≤ 1000000000000000000 → But a H H' → Spr H' a → Q (.int n) H'
def spSomeT (K : PySem.W.Frag) : Sp := fun vs H Q _ => ∃ (a t : Addr) (xs : List V), vs = [.ref a, .ref t] ∧ Spr H a ∧ SqT K H t xs ∧ xs ≠ [] ∧ xs.length < 1000 ∧
  ∀ (v : V) (H' : Hp), v ∈ xs → Spr H' a → But a H H' → Q v H'
theorem clamp (v : Int) : 0 ≤ (if (if v < 1000000000000000000 then v else 1000000000000000000) > 0 then (if v < 1000000000000000000 then v else 1000000000000000000) else 0) ∧ (if (if v < 1000000000000000000 then v else 1000000000000000000) > 0 then (if v < 1000000000000000000 then v else 1000000000000000000) else 0) ≤ (1000000000000000000 : Int) := by
  split <;> split at * <;> omega
section
variable {P : Program} {w : World} {K : PySem.W.Frag} {mg : Str → Option Value} {base : Heap}
theorem ok_someT (d : Dd K mg "_law_some_of" sSome ["_law_spring_here", "_law_things"]) (dG : Dd K mg "_law_gulp" sGulp ["_law_spring_here", "_law_many"]) (B : Bt mg) : FnOk P w K mg base CX0 3 d.f d.fd ["_law_spring_here", "_law_things"] (spSomeT K) := by
  have G : FnOk P w K mg base CX0 2 dG.f dG.fd ["_law_spring_here", "_law_many"] spGulp := ok_gulp dG.F B
  refine d.F.ok scSome (fun vs H Q E h => ?_) (fun cdv A outer s H vs Q E hr h => ?_)
  · obtain ⟨_, _, _, rfl, _⟩ := h
    rfl
  · obtain ⟨a, t, xs, rfl, ha, ht, hne, hlen, k⟩ := h
    refine ⟨_, pss_one (ps_ret (pe_ix ix_tup (pv 1) (pe_call G hr (by rfl) dG.g dG.F.kp dG.b .nil pass0 (pa_cons (pv 0) (pa_cons (pe_callB call_len_seq (by rfl) B.len PySem.boot_len (pa_cons (pv 1) pa_nil)) pa_nil))) (fun _ _ => rfl))), ?_⟩
    have hpos : 0 < xs.length := List.length_pos_iff.mpr hne
    refine ⟨_, rfl, _, rfl, _, rfl, t, xs, rfl, .inr ht, a, _, rfl, ha, by omega, by omega, fun r H' h0 h1 s' b' => ?_⟩
    obtain ⟨i, rfl⟩ : ∃ i : Nat, r = (i : Int) := ⟨r.toNat, by omega⟩
    have hi : i < xs.length := by omega
    exact ⟨t, xs, i, xs[i], rfl, rfl, b'.sqtS ha ht, atI_nat (List.getElem?_eq_getElem hi), k _ _ (List.getElem_mem hi) s' b'⟩
end
end My

namespace My
open PySem PySem.Spec PyProof.Rows L2
/-! ### a figure is read back -/
theorem digit_noletter {c : Nat} (h : 48 ≤ c ∧ c ≤ 57) : letters.cps.contains c = false := by
  have h1 : ∀ k, k < 10 → letters.cps.contains (48 + k) = false := by decide +kernel
  have h2 := h1 (c - 48) (by omega)
  rw [show 48 + (c - 48) = c by omega] at h2
  exact h2
theorem take_rev {goes : Nat → Bool} : ∀ {N D : List Nat}, (∀ c ∈ N, goes c = true) → (∀ c, D.head? = some c → goes c = false) → (N ++ D).takeWhile goes = N
  | [], D, _, hd => by
    rw [List.nil_append]
    cases D with
    | nil => rfl
    | cons c r =>
      have := hd c rfl
      rw [List.takeWhile_cons, this]
      rfl
  | c :: N, D, hn, hd => by
    rw [List.cons_append, List.takeWhile_cons, hn c (List.mem_cons_self ..), if_pos rfl, take_rev (fun x hx => hn x (List.mem_cons_of_mem _ hx)) hd]
/-- t.rstrip(LETTERS): what stands ahead of the name -/
theorem rstrip_name {t : Str} {D N : List Nat} (ht : t.cps.toList = D ++ N) (hN : ∀ c ∈ N, letters.cps.contains c = true) (hD : ∀ c, D.getLast? = some c → 48 ≤ c ∧ c ≤ 57) : (Txt.rstripChars t letters).cps.toList = D := by
  unfold Txt.rstripChars
  rw [stripBy_eq]
  have e1 : stripLo (letters.cps.contains ·) false t = 0 := rfl
  have e2 : stripHi (letters.cps.contains ·) true t 0 = D.length := by
    show t.length - ((t.cps.toList.drop 0).reverse.takeWhile (letters.cps.contains ·)).length = _
    rw [List.drop_zero, ht, List.reverse_append, take_rev (fun c hc => hN c (List.mem_reverse.mp hc)) (fun c hc => ?_), List.length_reverse, str_len, ht, List.length_append]
    · omega
    · rw [List.head?_reverse] at hc
      exact digit_noletter (hD c hc)
  show (Builtin.Str.strSub t (stripLo (letters.cps.contains ·) false t) (stripHi (letters.cps.contains ·) true t (stripLo (letters.cps.contains ·) false t))).cps.toList = D
  rw [e1, e2]
  unfold Builtin.Str.strSub
  rw [Array.toList_extract, List.extract_eq_drop_take, ht]
  simp
theorem repl_filter : ∀ l : List Nat, PySem.StrLaws.replL [46] [] l = l.filter (fun c => c != 46)
  | [] => by rw [PySem.StrLaws.replL_nil]; rfl
  | c :: r => by
    by_cases h : c = 46
    · subst h
      rw [PySem.StrLaws.replL_hit (by simp) rfl, List.filter_cons]
      show [] ++ PySem.StrLaws.replL [46] [] r = _
      rw [repl_filter r]
      rfl
    · rw [PySem.StrLaws.replL_miss (by simp [h]), repl_filter r, List.filter_cons, if_pos (by simpa using h)]
theorem replace_point {t : Str} : (Txt.replace t "." "").cps.toList = t.cps.toList.filter (fun c => c != 46) := by
  rw [PySem.StrLaws.replace_list (by decide)]
  exact repl_filter _
theorem zf_digits {d : Nat} {m : Int} (h : 0 ≤ m) : ∀ c ∈ zf d m, 48 ≤ c ∧ c ≤ 57 := by
  intro c hc
  unfold zf at hc
  rcases List.mem_append.mp hc with y | y
  · rw [(List.mem_replicate.mp y).2]
    decide
  · exact dg_digits h c y
theorem filter_digits {l : List Nat} (h : ∀ c ∈ l, 48 ≤ c ∧ c ≤ 57) : l.filter (fun c => c != 46) = l := by
  refine List.filter_eq_self.mpr fun c hc => ?_
  have := h c hc
  simp
  omega
theorem filter_body {d : Nat} {m : Int} (h : 0 ≤ m) : (body d m).filter (fun c => c != 46) = zf d m := by
  unfold body
  have hz := zf_digits (d := d) h
  rw [List.filter_append, List.filter_cons]
  simp only [bne_self_eq_false, Bool.false_eq_true, if_false]
  rw [filter_digits (fun c hc => hz c (List.mem_of_mem_take hc)), filter_digits (fun c hc => hz c (List.mem_of_mem_drop hc)), List.take_append_drop]
theorem last_body {d : Nat} {m : Int} (h : 0 ≤ m) (hd : 1 ≤ d) : ∀ c, (body d m).getLast? = some c → 48 ≤ c ∧ c ≤ 57 := by
  intro c hc
  unfold body at hc
  have hlen : 1 ≤ ((zf d m).drop ((zf d m).length - d)).length := by
    rw [List.length_drop, zf_len]
    omega
  cases e : (zf d m).drop ((zf d m).length - d) with
  | nil => rw [e] at hlen; simp at hlen
  | cons a r =>
    rw [e, List.getLast?_append, List.getLast?_cons_cons] at hc
    have hm : c ∈ a :: r := by
      cases e2 : (a :: r).getLast? with
      | none => simp at e2
      | some y =>
        rw [e2] at hc
        have : y = c := by simpa using hc
        rw [← this]
        exact List.mem_of_getLast? e2
    rw [← e] at hm
    exact zf_digits h c (List.mem_of_mem_drop hm)
theorem last_dg {m : Int} (h : 0 ≤ m) : ∀ c, (dg m).getLast? = some c → 48 ≤ c ∧ c ≤ 57 := fun c hc => dg_digits h c (List.mem_of_getLast? hc)
theorem digits_ok {t : Str} (h : ∀ c ∈ t.cps.toList, 48 ≤ c ∧ c ≤ 57) (hl : 1 ≤ t.cps.toList.length) : Txt.isascii t = true ∧ Txt.isdigit t = true := by
  have hu : ∀ k, k < 10 → Unicode.isDigit (48 + k) = true := by decide +kernel
  constructor
  · unfold Txt.isascii
    rw [← Array.all_toList, List.all_eq_true]
    intro c hc
    have := h c hc
    exact decide_eq_true (by omega)
  · unfold Txt.isdigit
    rw [Bool.and_eq_true]
    refine ⟨decide_eq_true (by rw [str_len]; omega), ?_⟩
    rw [← Array.all_toList, List.all_eq_true]
    intro c hc
    have h1 := h c hc
    have h2 := hu (c - 48) (by omega)
    rw [show 48 + (c - 48) = c by omega] at h2
    exact h2
theorem val_zeros (n : Nat) (l : List Nat) : NumText.digitsVal (List.replicate n 48 ++ l) = NumText.digitsVal l := by
  induction n with
  | zero => rfl
  | succ n ih => rw [List.replicate_succ, List.cons_append, NumText.digitsVal_zero, ih]
/-- int of a mark's signs, zeros ahead or not -/
theorem int_back {t : Str} {n : Nat} {m : Int} (hm : 0 ≤ m) (ht : t.cps.toList = List.replicate n 48 ++ dg m) (hl : t.length ≤ 4300) : PySem.intText? t = some m := by
  obtain ⟨k, rfl⟩ := Int.eq_ofNat_of_zero_le hm
  have hd := dg_digits hm
  have hp := dg_pos hm
  have h1 : NumText.AllDigits t.cps.toList := by
    rw [ht]
    intro c hc
    rcases List.mem_append.mp hc with y | y
    · rw [(List.mem_replicate.mp y).2]
      decide
    · exact hd c y
  have h2 : t.cps.toList ≠ [] := by
    rw [ht]
    intro e
    have e2 : (dg (k : Int)).length = 0 := by rw [(List.append_eq_nil_iff.mp e).2]; rfl
    have hp' : 1 ≤ (dg (k : Int)).length := hp
    omega
  rw [PySem.intText_digits h1 h2 hl, ht, val_zeros]
  unfold dg
  rw [PySem.W.KIN.signs_num, PySem.W.KIN.val_back]
end My

namespace My
open PySem PySem.Spec PyProof.Rows L2
def spIsMark : Sp := fun vs H Q _ => ∃ z : Str, vs = [.str z] ∧ (∀ c ∈ z.cps.toList, 48 ≤ c ∧ c ≤ 57) ∧ 1 ≤ z.length ∧ z.length ≤ 24 ∧ Q (.bl true) H
def spPlaceU (K : PySem.W.Frag) (C : Addr) : Sp := fun vs H Q _ => ∃ (a : Addr) (us : List (Str × Int)) (d : Nat) (s : Str) (c : Bool) (l : Int) (p : Nat) (u : Str × Int), vs = [.ref a, .str u.1] ∧ LadAt K C H a us d s c l ∧ Good us d s l ∧ us[p]? = some u ∧
  ∀ H', Same H H' → Q (.int (p : Int)) H'
theorem names_apart {us : List (Str × Int)} (g : GoodUs us) {i j : Nat} {u v : Str × Int} (hij : i < j) (hi : us[i]? = some u) (hj : us[j]? = some v) : u.1 ≠ v.1 := by
  obtain ⟨_, _, _, hf⟩ := g.each j v hj
  have hm : u ∈ us.take j := List.mem_of_getElem? (i := i) (by rw [List.getElem?_take, if_pos hij]; exact hi)
  rcases hf with ⟨e, _⟩ | ⟨_, _, _, _, _, _, h⟩
  · rw [e] at hm
    cases hm
  · exact h u hm
section
variable {P : Program} {w : World} {K : PySem.W.Frag} {mg : Str → Option Value} {base : Heap}
end
end My

namespace My
open PySem PySem.Spec PyProof.Rows L2
/-- x = e where e gives out tokens -/
theorem pst_set {X : Cx} {i : Nat} {x : Str} {e : Expr} {te : TE} {pos pos' : Pos} (hN : X.N.Nodup) (hi : X.N[i]? = some x) (hx : Loc X.env.scope x) (he : PET X e te) (hs : swapsWith e (some (.Name x pos')) pos.line X.env = pure false := by rfl)
    (hf : X.fn x = true ∨ X.env.scope.names.lookup x = some .local := by first | exact .inl rfl | exact .inr rfl | assumption) : PST X (.Assign [.Name x pos'] e pos) (tAsg te (gName i)) := by
  intro pins s σ H D h0 I h
  refine wpAny_Assign_Name (thn (he pins s σ H _ h0 I h) ?_) hs
  rintro v s1 ⟨y, H1, I1, r1, q1⟩
  exact store_ok I1 hN hi hx r1 (fun s2 I2 => ⟨_, H1, I2, q1⟩) hf
/-- what stands ahead of a figure's name -/
def ahead (d p : Nat) (m : Int) : List Nat := if p = 0 ∨ d = 0 then dg m else body d m
theorem writ_codes {us : List (Str × Int)} {d p : Nat} {m : Int} : (writ us d p m).cps.toList = ahead d p m ++ (us.getD p ("", 0)).1.cps.toList := by
  unfold writ ahead
  split
  · rw [str_app]
    rfl
  · rw [str_app]
theorem ahead_last {d p : Nat} {m : Int} (hm : 0 ≤ m) : ∀ c, (ahead d p m).getLast? = some c → 48 ≤ c ∧ c ≤ 57 := by
  unfold ahead
  split
  · exact last_dg hm
  · rename_i h
    exact last_body hm (by
      rcases Nat.eq_zero_or_pos d with z | z
      · exact absurd (.inr z) h
      · exact z)
theorem ahead_filter {d p : Nat} {m : Int} (hm : 0 ≤ m) : ∃ n, (ahead d p m).filter (fun c => c != 46) = List.replicate n 48 ++ dg m ∧ n + (dg m).length ≤ max (d + 1) (dg m).length := by
  unfold ahead
  split
  · refine ⟨0, ?_, by omega⟩
    rw [filter_digits (dg_digits hm)]
    rfl
  · refine ⟨d + 1 - (dg m).length, ?_, by omega⟩
    rw [filter_body hm]
    rfl
theorem ahead_len {d p : Nat} {m : Int} : (ahead d p m).length ≤ max (d + 1) (dg m).length + 1 := by
  unfold ahead
  split
  · omega
  · unfold body
    rw [List.length_append, List.length_take, List.length_cons, List.length_drop, zf_len]
    omega
theorem dg_24 {m : Int} (h0 : 0 ≤ m) (h : m < 10 ^ 24) : (dg m).length ≤ 24 := by
  obtain ⟨k, rfl⟩ := Int.eq_ofNat_of_zero_le h0
  have hk : k < 10 ^ 24 := by omega
  unfold dg
  rw [PySem.W.KIN.signs_num, List.length_map, ← Nat.toList_repr]
  exact (Nat.length_repr_le_iff (by decide)).mpr hk
def spPartsOf (K : PySem.W.Frag) (C : Addr) : Sp := fun vs H Q _ => ∃ (a : Addr) (us : List (Str × Int)) (d : Nat) (s : Str) (c : Bool) (l : Int) (p : Nat) (m : Int), vs = [.ref a, .str (writ us d p m)] ∧ LadAt K C H a us d s c l ∧ Good us d s l ∧ p < us.length ∧ 0 ≤ m ∧ m < 10 ^ 24 ∧
  ∀ (r : Addr) (H' : Hp), Same H H' → SqT K H' r [.int (p : Int), .int m] → Q (.ref r) H'
def spWorth (K : PySem.W.Frag) (C : Addr) : Sp := fun vs H Q _ => ∃ (a : Addr) (us : List (Str × Int)) (d : Nat) (s : Str) (c : Bool) (l : Int) (p : Nat) (m : Int), vs = [.ref a, .str (writ us d p m)] ∧ LadAt K C H a us d s c l ∧ Good us d s l ∧ p < us.length ∧ 0 ≤ m ∧ m < 10 ^ 24 ∧
  ∀ H', Same H H' → Q (.int (m * (stepsOf us d).getD p 0)) H'
section
variable {P : Program} {w : World} {K : PySem.W.Frag} {mg : Str → Option Value} {base : Heap}
end
end My

namespace My
open PySem PySem.Spec PyProof.Rows L2
section
variable {P : Program} {w : World} {K : PySem.W.Frag} {mg : Str → Option Value} {base : Heap}
end
end My

namespace MyZ
open PySem PySem.Spec PyProof.Rows L2
/-- three lists of one length walked together, the items in new triples -/
def Itz3 (K : PySem.W.Frag) (a b c : Addr) : It :=
  ⟨fun i H => ∃ (xs ys zs : List V) (x y z : V), SqL K H a xs ∧ SqL K H b ys ∧ SqL K H c zs ∧ xs[i]? = some x ∧ ys[i]? = some y ∧ zs[i]? = some z,
   fun i H v H' => ∃ T x y z, v = .ref T ∧ H T = none ∧ H' = upd H T (.tup [x, y, z]) ∧ (∀ xs, SqL K H a xs → xs[i]? = some x) ∧ (∀ ys, SqL K H b ys → ys[i]? = some y) ∧ ∀ zs, SqL K H c zs → zs[i]? = some z,
   fun i H => ∃ xs ys zs : List V, SqL K H a xs ∧ SqL K H b ys ∧ SqL K H c zs ∧ xs.length = i ∧ ys.length = i ∧ zs.length = i⟩
theorem turn_zip3 {P : Program} {w : World} {K : PySem.W.Frag} {elts : List Expr} {kk : Nat} {tpos : Pos} {a b c z TI TO i1 i2 i3 : Addr} (D : ZipSep3 z TI TO i1 i2 i3 [i1, a] [i2, b] [i3, c]) (n1 : a ≠ i1) (n2 : b ≠ i2) (n3 : c ≠ i3) :
    Turn P w K (.Tuple elts kk tpos) (Itz3 K a b c) [z, TI, TO, i1, i2, i3] z (fun i h => IsZip h z TI TO .none ∧ IsTupOf3 h TI (.ref i1) (.ref i2) (.ref i3) ∧ (∃ x y u, IsTupOf3 h TO x y u) ∧ h.IsListIter i1 a i ∧ h.IsListIter i2 b i ∧ h.IsListIter i3 c i) where
  mem := by simp
  obj := fun i h st q hq => by
    obtain ⟨hz, hTI, ⟨x, y, u, hTO⟩, ⟨o1, e1, _, d1⟩, ⟨o2, e2, _, d2⟩, ⟨o3, e3, _, d3⟩⟩ := st
    have e' : q = z ∨ q = TI ∨ q = TO ∨ q = i1 ∨ q = i2 ∨ q = i3 := by simpa using hq
    rcases e' with e | e | e | e | e | e <;> rw [e]
    · exact ⟨_, hz, fun v q => nomatch q⟩
    · exact ⟨_, hTI, fun v q => nomatch q⟩
    · exact ⟨_, hTO, fun v q => nomatch q⟩
    · exact ⟨o1, e1, fun v q => by rw [d1] at q; cases q⟩
    · exact ⟨o2, e2, fun v q => by rw [d2] at q; cases q⟩
    · exact ⟨o3, e3, fun v q => by rw [d3] at q; cases q⟩
  keep := fun i h h' st k => by
    obtain ⟨hz, hTI, ⟨x, y, u, hTO⟩, h1, h2, h3⟩ := st
    exact ⟨k z (by simp) _ hz, k TI (by simp) _ hTI, ⟨x, y, u, k TO (by simp) _ hTO⟩, h1.at fun o q => k i1 (by simp) o q, h2.at fun o q => k i2 (by simp) o q, h3.at fun o q => k i3 (by simp) o q⟩
  item := by
    intro X hP hw hK hc i pins s σ H E I hf st hg
    subst hP hw hK
    obtain ⟨hz, hTI, ⟨x0, y0, u0, hTO⟩, h1, h2, h3⟩ := st
    obtain ⟨xs, ys, zs, x, y, v, hqx, hqy, hqz, hx, hy, hv⟩ := hg
    obtain ⟨its, rv, p, _⟩ := I.list hqx
    obtain ⟨its2, rv2, p2, _⟩ := I.list hqy
    obtain ⟨its3, rv3, p3, _⟩ := I.list hqz
    obtain ⟨u, hu, ru⟩ := rv.get hx
    obtain ⟨u2, hu2, ru2⟩ := rv2.get hy
    obtain ⟨u3, hu3, ru3⟩ := rv3.get hv
    have hzl : z < s.heap.objs.size := Heap.lt_size hz
    have lt1 : i < its.toArray.size := by have := (List.getElem?_eq_some_iff.mp hu).1; simpa using this
    have lt2 : i < its2.toArray.size := by have := (List.getElem?_eq_some_iff.mp hu2).1; simpa using this
    have lt3 : i < its3.toArray.size := by have := (List.getElem?_eq_some_iff.mp hu3).1; simpa using this
    have D1 := Draws.list (prog := X.prog) (w := X.w) (A := X.A.in1) (I.ok.hd hc) i1 a n1 its.toArray
    have D2 := Draws.list (prog := X.prog) (w := X.w) (A := X.A.in1) (I.ok.hd hc) i2 b n2 its2.toArray
    have D3 := Draws.list (prog := X.prog) (w := X.w) (A := X.A.in1) (I.ok.hd hc) i3 c n3 its3.toArray
    refine wpAny_pyNext_zipD3_item D D1 D2 D3 hz hTI hTO ⟨h1, p.isList⟩ ⟨h2, p2.isList⟩ ⟨h3, p3.isList⟩ lt1 lt2 lt3 fun w1 w2 w3 h' tk f1 f2 f3 z' TO' h1' h2' h3' hT hsz hk => ?_
    have e1 : w1 = u := by
      have q : its.toArray[i]? = some u := by simpa using hu
      exact Option.some.inj (f1.symm.trans q)
    have e2 : w2 = u2 := by
      have q : its2.toArray[i]? = some u2 := by simpa using hu2
      exact Option.some.inj (f2.symm.trans q)
    have e3 : w3 = u3 := by
      have q : its3.toArray[i]? = some u3 := by simpa using hu3
      exact Option.some.inj (f3.symm.trans q)
    subst e1 e2 e3
    refine ⟨_, rfl, wpAny_letOwnedTupleGo_zip (s := { s with heap := h', toks := tk }) z' fun h'' z'' sb => ?_⟩
    have hT2 := (sb.2 _ (Nat.ne_of_gt hzl)).trans hT
    have new : ObjOk X.prog X.w (upd H s.heap.objs.size (.tup [x, y, v])) h'' s.heap.objs.size (.tup [x, y, v]) :=
      ⟨(by show 3 ≤ sizeLine; decide), [w1, w2, w3], .cons ru (.cons ru2 (.cons ru3 .nil)), ⟨_, hT2, rfl, _, rfl⟩⟩
    have stay : ∀ q o, q ∉ [z, TI, TO, i1, i2, i3] → s.heap.get? q = some o → h''.get? q = some o := fun q o hq e => by
      have m : ∀ k, k ∈ [z, TI, TO, i1, i2, i3] → q ≠ k := fun k hk e => hq (e ▸ hk)
      exact (sb.2 q (m z (by simp))).trans (hk q o (m z (by simp)) (m TO (by simp)) (m i1 (by simp)) (m i2 (by simp)) (m i3 (by simp)) e)
    have I1 : Inv X pins σ (upd H s.heap.objs.size (.tup [x, y, v])) { s with heap := h'', toks := tk } := I.turnedNew (ch := [z, TI, TO, i1, i2, i3]) stay hf (Nat.le_refl _) new
    refine ⟨.ref s.heap.objs.size, _, I1, rfl, ⟨_, x, y, v, rfl, I.hok.fresh (Nat.le_refl _), rfl, fun l hl => (I.list_inj hl hqx) ▸ hx, fun l hl => (I.list_inj hl hqy) ▸ hy, fun l hl => (I.list_inj hl hqz) ▸ hv⟩, ⟨z'', ?_, ⟨w1, w2, w3, ?_⟩, ?_, ?_, ?_⟩, fun q hq => ?_⟩
    · exact (sb.2 _ D.TIz).trans (hk _ _ D.TIz D.TITO D.TIi1 D.TIi2 D.TIi3 hTI)
    · exact (sb.2 _ D.TOz).trans TO'
    · exact h1'.1.at fun o q => (sb.2 _ (fun e => D.zf1 (by rw [← e]; simp))).trans q
    · exact h2'.1.at fun o q => (sb.2 _ (fun e => D.zf2 (by rw [← e]; simp))).trans q
    · exact h3'.1.at fun o q => (sb.2 _ (fun e => D.zf3 (by rw [← e]; simp))).trans q
    · have hlt : q < s.heap.objs.size := by
        have e' : q = z ∨ q = TI ∨ q = TO ∨ q = i1 ∨ q = i2 ∨ q = i3 := by simpa using hq
        rcases e' with e | e | e | e | e | e <;> rw [e]
        · exact hzl
        · exact Heap.lt_size hTI
        · exact Heap.lt_size hTO
        · obtain ⟨_, e1, _⟩ := h1; exact Heap.lt_size e1
        · obtain ⟨_, e2, _⟩ := h2; exact Heap.lt_size e2
        · obtain ⟨_, e3, _⟩ := h3; exact Heap.lt_size e3
      rw [upd_ne (Nat.ne_of_lt hlt)]
      exact (hf q hq).1
  done := by
    intro X hP hw hK hc i pins s σ H E I hf st hg
    subst hP hw hK
    obtain ⟨hz, hTI, ⟨x0, y0, u0, hTO⟩, h1, h2, h3⟩ := st
    obtain ⟨xs, ys, zs, hqx, hqy, hqz, lx, ly, lz⟩ := hg
    obtain ⟨its, rv, p, _⟩ := I.list hqx
    obtain ⟨its2, rv2, p2, _⟩ := I.list hqy
    obtain ⟨its3, rv3, p3, _⟩ := I.list hqz
    have l1 : its.toArray.size = i := by have := rv.length; simp; omega
    have l2 : its2.toArray.size = i := by have := rv2.length; simp; omega
    have l3 : its3.toArray.size = i := by have := rv3.length; simp; omega
    have D1 := Draws.list (prog := X.prog) (w := X.w) (A := X.A.in1) (I.ok.hd hc) i1 a n1 its.toArray
    have D2 := Draws.list (prog := X.prog) (w := X.w) (A := X.A.in1) (I.ok.hd hc) i2 b n2 its2.toArray
    have D3 := Draws.list (prog := X.prog) (w := X.w) (A := X.A.in1) (I.ok.hd hc) i3 c n3 its3.toArray
    refine wpAny_pyNext_zipD3_end D D1 D2 D3 hz hTI hTO ⟨h1, p.isList⟩ ⟨h2, p2.isList⟩ ⟨h3, p3.isList⟩ (by omega) (by omega) (by omega) (.inl l1.symm) fun h' tk hk => ⟨rfl, ?_⟩
    refine I.turnedL (ch := [z, TI, TO, i1, i2, i3]) (fun q o hq e => ?_) hf
    have m : ∀ k, k ∈ [z, TI, TO, i1, i2, i3] → q ≠ k := fun k hk e => hq (e ▸ hk)
    exact hk q o (m z (by simp)) (m TO (by simp)) (m i1 (by simp)) (m i2 (by simp)) (m i3 (by simp)) e
  self := fun A i s Q E st h => wpAny_pyIter_zip st.1 h
def iZip3 (K : PySem.W.Frag) (ta : TA) : TI := fun σ H R => ta σ H fun vs H1 => ∃ a b c xs ys zs, vs = [.ref a, .ref b, .ref c] ∧ SqL K H1 a xs ∧ SqL K H1 b ys ∧ SqL K H1 c zs ∧ R (Itz3 K a b c) H1
theorem pi_zip3 {X : Cx} {e e2 e3 : Expr} {ta : TA} {p pos tpos : Pos} {elts : List Expr} {kk : Nat} (hg : Gl X "zip") (hm : X.mg "zip" = none) (ha : PA X [e, e2, e3] ta)
    (hs : starEach [e, e2, e3] X.env = (false, eval e X.env) :: starEach [e2, e3] X.env := by rfl) (hpl : (backTo pos (starEach [e2, e3] X.env)).any (·.1) = false := by rfl) :
    PI X (.Tuple elts kk tpos) (.Call (.Name "zip" p) [e, e2, e3] [] pos) (iZip3 X.K ta) := by
  constructor
  intro pins s σ H R I h
  refine Call_ (ld_blt I hg hm PyProof.Rows.boot_zip (PyProof.Rows.callWith_type1 (thn (ha.run pos pins s σ H _ I h) ?_) hs hpl))
  rintro us s1 ⟨vs, H1, I1, r1, a, b, c, xs, ys, zs, rfl, hqx, hqy, hqz, q⟩
  match us, r1 with
  | [_, _, _], .cons r1 (.cons r2 (.cons r3 .nil)) =>
    cases r1
    cases r2
    cases r3
    obtain ⟨its, rv, p1, _⟩ := I1.list hqx
    obtain ⟨its2, rv2, p2, _⟩ := I1.list hqy
    obtain ⟨its3, rv3, p3, _⟩ := I1.list hqz
    have la : a < s1.heap.objs.size := p1.lt
    have lb : b < s1.heap.objs.size := p2.lt
    have lc : c < s1.heap.objs.size := p3.lt
    refine zip_begins3 (begins_list a its.toArray) (begins_list b its2.toArray) (begins_list c its3.toArray) p1.isList p2.isList p3.isList fun h' hz hTI hTO h1 h2 h3 hsz hk => wpAny_pyIter_zip hz ?_
    have I2 : Inv X pins σ H1 { s1 with heap := h' } := I1.kept (t' := s1.toks) hk
    have one : ∀ {x n : Addr}, x < n → ∀ q ∈ [x], q < n := fun hx q hq => by
      have e : q = _ := List.mem_singleton.mp hq
      rw [e]
      exact hx
    have sep := zip_sep3 (N := s1.heap.objs.size) (one la) (one lb) (one lc)
    refine ⟨s1.heap.objs.size + 5, [s1.heap.objs.size + 5, s1.heap.objs.size + 3, s1.heap.objs.size + 4, s1.heap.objs.size, s1.heap.objs.size + 1, s1.heap.objs.size + 2], _, _, H1, rfl, I2,
      turn_zip3 sep (Nat.ne_of_lt la) (Nat.ne_of_lt (Nat.lt_succ_of_lt lb)) (Nat.ne_of_lt (Nat.lt_succ_of_lt (Nat.lt_succ_of_lt lc))), ⟨hz, hTI, ⟨_, _, _, hTO⟩, ⟨_, h1, rfl, rfl⟩, ⟨_, h2, rfl, rfl⟩, ⟨_, h3, rfl, rfl⟩⟩, fun q hq => ?_, ‹_›⟩
    have e' : q = s1.heap.objs.size + 5 ∨ q = s1.heap.objs.size + 3 ∨ q = s1.heap.objs.size + 4 ∨ q = s1.heap.objs.size ∨ q = s1.heap.objs.size + 1 ∨ q = s1.heap.objs.size + 2 := by simpa using hq
    have hle : s1.heap.objs.size ≤ q := by
      rcases e' with e | e | e | e | e | e <;> rw [e] <;> first | exact Nat.le_add_right _ _ | exact Nat.le_refl _
    exact I1.fpOk hle (I1.hok.fresh hle)
/-- for x, y, z in zip(a, b, c) -/
theorem for_zip3 {K : PySem.W.Frag} {a b c : Addr} {xs ys zs : List V} {g : TG} {tb : TS} {D : Ends} {σ : L2.St} {H : Hp} (hy : ys.length = xs.length) (hz : zs.length = xs.length) (Pv : Nat → L2.St → Hp → Prop) (h0 : Pv 0 σ H)
    (hl : ∀ i σ H, Pv i σ H → SqL K H a xs ∧ SqL K H b ys ∧ SqL K H c zs)
    (ht : ∀ (i : Nat) (x y z : V) (σ : L2.St) (H : Hp) (T : Addr), xs[i]? = some x → ys[i]? = some y → zs[i]? = some z → Pv i σ H → H T = none → g (.ref T) σ (upd H T (.tup [x, y, z])) fun σ2 H2 => tb { nx := Pv (i + 1), rt := D.rt, bk := D.nx, ct := Pv (i + 1) } σ2 H2)
    (he : ∀ σ H, Pv xs.length σ H → D.nx σ H) :
    ∃ W : Nat → Nat → L2.St → Hp → Prop, (∃ m, W 0 m σ H) ∧ ∀ i m σ H, W i m σ H → ((Itz3 K a b c).stop i H ∧ D.nx σ H) ∨
      ((Itz3 K a b c).go i H ∧ ∃ N : L2.St → Hp → Prop, (∀ σ' H', N σ' H' → ∃ m', m' < m ∧ W (i + 1) m' σ' H') ∧
        ∀ x H', (Itz3 K a b c).yld i H x H' → g x σ H' fun σ2 H2 => tb { nx := N, rt := D.rt, bk := D.nx, ct := N } σ2 H2) := by
  refine ⟨fun i m σ H => Pv i σ H ∧ i + m = xs.length, ⟨xs.length, h0, by omega⟩, fun i m σ H hW => ?_⟩
  obtain ⟨hp, hm⟩ := hW
  obtain ⟨q1, q2, q3⟩ := hl i σ H hp
  by_cases hi : i < xs.length
  · refine .inr ⟨⟨xs, ys, zs, xs[i], ys[i], zs[i], q1, q2, q3, List.getElem?_eq_getElem hi, List.getElem?_eq_getElem (by omega), List.getElem?_eq_getElem (by omega)⟩, Pv (i + 1), fun σ' H' hN => ⟨m - 1, by omega, hN, by omega⟩, ?_⟩
    rintro v H' ⟨T, x, y, z, rfl, hT, rfl, f1, f2, f3⟩
    exact ht i x y z σ H T (f1 xs q1) (f2 ys q2) (f3 zs q3) hp hT
  · have e : i = xs.length := by omega
    subst e
    exact .inl ⟨⟨xs, ys, zs, q1, q2, q3, rfl, hy, hz⟩, he σ H hp⟩
/-- [.. for x, y in zip(a, b)] -/
theorem lc_zip {K : PySem.W.Frag} {a b : Addr} {xs ys : List V} {g : TG} {tt : TT} {te : TE} {vs : List Nat} {σ : L2.St} {H1 : Hp} {D : Addr} {Qd : Hp → Prop} (hy : ys.length = xs.length) (Pv : Nat → Hp → Prop) (h0 : Pv 0 (upd H1 D (.lst [])))
    (hl : ∀ i H, Pv i H → SqL K H a xs ∧ SqL K H b ys)
    (ht : ∀ (i : Nat) (x y : V) (H : Hp) (T : Addr), xs[i]? = some x → ys[i]? = some y → Pv i H → H T = none → g (.ref T) (wipe σ vs) (upd H T (.tup [x, y])) fun σ2 H2 => wipe σ2 vs = wipe σ vs ∧ tt σ2 H2 fun b H3 =>
      if b = true then te σ2 H3 fun y H4 => ∃ acc, H4 D = some (.lst acc) ∧ acc.length < sizeLine ∧ Pv (i + 1) (upd H4 D (.lst (acc ++ [y]))) else Pv (i + 1) H3)
    (he : ∀ H, Pv xs.length H → Qd H) :
    ∃ W : Nat → Nat → Hp → Prop, (∃ m, W 0 m (upd H1 D (.lst []))) ∧ ∀ i m H, W i m H → ((Itz K a b).stop i H ∧ Qd H) ∨
      ((Itz K a b).go i H ∧ ∃ Nx : Hp → Prop, (∀ H', Nx H' → ∃ m', m' < m ∧ W (i + 1) m' H') ∧
        ∀ x H', (Itz K a b).yld i H x H' → g x (wipe σ vs) H' fun σ2 H2 => wipe σ2 vs = wipe σ vs ∧ tt σ2 H2 fun b H3 =>
          if b = true then te σ2 H3 fun y H4 => ∃ acc, H4 D = some (.lst acc) ∧ acc.length < sizeLine ∧ Nx (upd H4 D (.lst (acc ++ [y]))) else Nx H3) := by
  refine ⟨fun i m H => Pv i H ∧ i + m = xs.length, ⟨xs.length, h0, by omega⟩, fun i m H hW => ?_⟩
  obtain ⟨hp, hm⟩ := hW
  obtain ⟨q1, q2⟩ := hl i H hp
  by_cases hi : i < xs.length
  · refine .inr ⟨⟨xs, ys, xs[i], ys[i], q1, q2, List.getElem?_eq_getElem hi, List.getElem?_eq_getElem (by omega)⟩, Pv (i + 1), fun H' hN => ⟨m - 1, by omega, hN, by omega⟩, ?_⟩
    rintro v H' ⟨T, x, y, rfl, hT, rfl, f1, f2⟩
    exact ht i x y H T (f1 xs q1) (f2 ys q2) hp hT
  · have e : i = xs.length := by omega
    subst e
    exact .inl ⟨⟨xs, ys, q1, q2, .inl (Nat.le_refl _)⟩, he H hp⟩
end MyZ

namespace My
open PySem PySem.Spec PyProof.Rows L2
/-! ### roundings compared -/
def stOf (us : List (Str × Int)) (d : Nat) (l n : Int) : Int := (stepsOf us d).getD (placeOf us l n) 0
def worthM (us : List (Str × Int)) (d : Nat) (s : Str) (c : Bool) (l n : Int) : Int := (placedM us d s c l n).2 * (stepsOf us d).getD (placedM us d s c l n).1 0
theorem place_lt {us : List (Str × Int)} {d : Nat} {s : Str} {l n : Int} (g : Good us d s l) (h0 : 0 ≤ n) : placeOf us l n < us.length := by
  have hc1 := cnt_pos (us := us) (l := l) h0
  have hc2 := cnt_le (l := l) (n := n) g.u.lo
  unfold placeOf
  omega
theorem st_pos {us : List (Str × Int)} {d : Nat} {s : Str} {l n : Int} (g : Good us d s l) (h0 : 0 ≤ n) : 0 < stOf us d l n ∧ stOf us d l n ≤ 1000000000000000000 := by
  obtain ⟨_, k2, k3⟩ := steps_ok g (place_lt g h0)
  exact ⟨k2, k3⟩
/-- sizes are so many steps -/
theorem sz_step {us : List (Str × Int)} {d : Nat} {s : Str} {l : Int} (g : Good us d s l) {k : Nat} (h1 : 1 ≤ k) (h2 : k < us.length) : szOf us k = (stepsOf us d).getD k 0 * 10 ^ d := by
  rw [step_at h1 h2]
  obtain ⟨j, rfl⟩ : ∃ j, k = j + 1 := ⟨k - 1, by omega⟩
  have hu : us[j + 1]? = some us[j + 1] := List.getElem?_eq_getElem h2
  have hm : us[j + 1] ∈ us.drop 1 := List.mem_of_getElem? (i := j) (by rw [List.getElem?_drop, Nat.add_comm 1 j]; exact hu)
  have hz := g.div _ hm
  rw [szOf_at hu]
  have hp := pow_lo d
  have hd : (10 ^ d : Int) ∣ us[j + 1].2 := Int.dvd_trans ⟨2, Int.mul_comm _ _⟩ (Int.dvd_of_emod_eq_zero hz)
  exact (Int.ediv_mul_cancel hd).symm
theorem sz_dvd {us : List (Str × Int)} (g : GoodUs us) {i : Nat} (h : i + 1 < us.length) : ∃ q : Int, szOf us (i + 1) = szOf us i * q := by
  have h1 : us[i + 1]? = some us[i + 1] := List.getElem?_eq_getElem h
  have h0 : us[i]? = some us[i] := List.getElem?_eq_getElem (by omega)
  obtain ⟨_, _, _, hf⟩ := g.each (i + 1) _ h1
  rw [szOf_at h1, szOf_at h0]
  have el : (us.take (i + 1)).length = i + 1 := by rw [List.length_take]; omega
  rcases hf with ⟨e, _⟩ | ⟨l, hl, _, _, _, h4, _⟩
  · rw [e] at el
    cases el
  · rw [el, Nat.add_sub_cancel, List.getElem?_take, if_pos (Nat.lt_succ_self i), h0] at hl
    rw [Option.some.inj hl]
    exact Int.dvd_of_emod_eq_zero h4
theorem next_thr {us : List (Str × Int)} {d : Nat} {s : Str} {l n : Int} (g : Good us d s l) (h0 : 0 ≤ n) (hp : placeOf us l n + 1 < us.length) : n < (thrsOf us l).getD (placeOf us l n + 1) 0 := by
  have hr := reached (n := n) g.u g.l1 h0 hp
  have e : (thrsOf us l).getD (placeOf us l n + 1) 0 = szOf us (placeOf us l n + 1) * l := by rw [List.getD_eq_getElem?_getD, thr_at (by omega) hp]; rfl
  rw [e]
  rcases Int.lt_or_le n (szOf us (placeOf us l n + 1) * l) with z | z
  · exact z
  · have := hr.mp (.inr z)
    omega
theorem down_not {us : List (Str × Int)} {d : Nat} {s : Str} {c : Bool} {l n m : Int} (g : Good us d s l) (h0 : 0 ≤ n) (hm : m * stOf us d l n ≤ n) : isCar us d c l (placeOf us l n) m = false := by
  unfold isCar
  by_cases hp : placeOf us l n + 1 < us.length
  · have h1 := next_thr g h0 hp
    have h2 : ¬ (thrsOf us l).getD (placeOf us l n + 1) 0 ≤ m * (stepsOf us d).getD (placeOf us l n) 0 := fun y => by
      have h3 : m * (stepsOf us d).getD (placeOf us l n) 0 ≤ n := hm
      omega
    rw [decide_eq_false h2, Bool.and_false, Bool.and_false]
  · rw [decide_eq_false hp, Bool.false_and, Bool.and_false]
theorem rnd_of {n st b r : Int} {s : Str} (h0 : 0 ≤ r) (h1 : r < st) (e : n = b * st + r) : rnd n st s = if goesUp b r st s = true then b + 1 else b := by
  have e1 : n / st = b := by
    rw [e, Int.add_comm, Int.add_mul_ediv_right _ _ (by omega), Int.ediv_eq_zero_of_lt h0 h1, Int.zero_add]
  have e2 : n % st = r := by
    rw [e, Int.add_comm, Int.add_mul_emod_self_right, Int.emod_eq_of_lt h0 h1]
  unfold rnd
  rw [e1, e2]
theorem goes_cases (b r st : Int) (s : Str) : (s = "up" ∧ goesUp b r st s = decide (0 < r)) ∨ (s = "near" ∧ goesUp b r st s = decide (st ≤ 2 * r)) ∨ (s = "even" ∧ goesUp b r st s = (decide (st < 2 * r) || (decide (2 * r = st) && decide (b % 2 = 1)))) ∨ (s ≠ "up" ∧ s ≠ "near" ∧ s ≠ "even" ∧ goesUp b r st s = false) := by
  unfold goesUp
  by_cases h1 : s = "up"
  · exact .inl ⟨h1, by rw [if_pos h1]⟩
  · by_cases h2 : s = "near"
    · exact .inr (.inl ⟨h2, by rw [if_neg h1, if_pos h2]⟩)
    · by_cases h3 : s = "even"
      · exact .inr (.inr (.inl ⟨h3, by rw [if_neg h1, if_neg h2, if_pos h3]⟩))
      · exact .inr (.inr (.inr ⟨h1, h2, h3, by rw [if_neg h1, if_neg h2, if_neg h3]⟩))
/-- the worth of a number's figure, whether it is carried or not -/
theorem worth_core {us : List (Str × Int)} {d : Nat} {s : Str} {c : Bool} {l n : Int} (g : Good us d s l) (h0 : 0 ≤ n) : worthM us d s c l n = rnd n (stOf us d l n) s * stOf us d l n := by
  have hpl := place_lt g h0
  obtain ⟨sp, sp2⟩ := st_pos g h0
  unfold worthM placedM
  cases ec : isCar us d c l (placeOf us l n) (rnd n ((stepsOf us d).getD (placeOf us l n) 0) s) with
  | false =>
    rw [if_neg Bool.false_ne_true]
    rfl
  | true =>
    rw [if_pos rfl]
    show rnd n ((stepsOf us d).getD (placeOf us l n + 1) 0) s * (stepsOf us d).getD (placeOf us l n + 1) 0 = _
    have hp1 := isCar_lt ec
    have hlt := next_thr g h0 hp1
    have hT : (thrsOf us l).getD (placeOf us l n + 1) 0 ≤ rnd n (stOf us d l n) s * stOf us d l n := by
      unfold isCar at ec
      rw [Bool.and_eq_true, Bool.and_eq_true] at ec
      exact of_decide_eq_true ec.2.2
    have eT : (thrsOf us l).getD (placeOf us l n + 1) 0 = szOf us (placeOf us l n + 1) * l := by rw [List.getD_eq_getElem?_getD, thr_at (by omega) hp1]; rfl
    have hz1 := sz_step g (k := placeOf us l n + 1) (by omega) hp1
    have hst' := (steps_ok g hp1).2
    have hmod0 := Int.emod_nonneg n (b := stOf us d l n) (by omega)
    have hmod1 := Int.emod_lt_of_pos n sp
    have hdm := Int.mul_ediv_add_emod n (stOf us d l n)
    -- so many steps are the threshold
    have hdiv : ∃ q : Int, szOf us (placeOf us l n + 1) = stOf us d l n * q ∧ (1 ≤ placeOf us l n → stOf us d l n < (stepsOf us d).getD (placeOf us l n + 1) 0) ∧ (placeOf us l n = 0 → stOf us d l n = 1) := by
      rcases Nat.eq_zero_or_pos (placeOf us l n) with z | z
      · refine ⟨szOf us (placeOf us l n + 1), ?_, fun y => by omega, fun _ => ?_⟩
        · have : stOf us d l n = 1 := by unfold stOf; rw [z]; rfl
          rw [this, Int.one_mul]
        · unfold stOf
          rw [z]
          rfl
      · obtain ⟨q, hq⟩ := sz_dvd g.u hp1
        have hz0 := sz_step g (k := placeOf us l n) z hpl
        have hup := sz_up g.u hp1
        refine ⟨10 ^ d * q, ?_, fun _ => ?_, fun y => by omega⟩
        · rw [hq, hz0, Int.mul_assoc]
          rfl
        · have hp := pow_lo d
          rw [hz0, hz1] at hup
          exact Int.lt_of_mul_lt_mul_right hup (Int.le_of_lt hp)
    obtain ⟨q, hq, hbig, hone⟩ := hdiv
    have eT2 : szOf us (placeOf us l n + 1) * l = (q * l) * stOf us d l n := by rw [hq, Int.mul_assoc, Int.mul_comm]
    have eT3 : szOf us (placeOf us l n + 1) * l = (10 ^ d * l) * (stepsOf us d).getD (placeOf us l n + 1) 0 := by rw [hz1, Int.mul_assoc, Int.mul_comm]
    rw [eT, eT2] at hlt hT
    generalize (stepsOf us d).getD (placeOf us l n + 1) 0 = st' at hst' hbig eT3 ⊢
    rw [eT2] at eT3
    generalize q * l = Q at hlt hT eT3
    generalize (10 ^ d * l : Int) = Q' at eT3
    generalize stOf us d l n = st at *
    have hr := rnd_of (n := n) (st := st) (b := n / st) (r := n % st) (s := s) hmod0 hmod1 (by rw [Int.mul_comm (n / st) st]; omega)
    generalize n / st = b at *
    generalize n % st = r at *
    have hbQ : b < Q := by
      rcases Int.lt_or_le b Q with z | z
      · exact z
      · exfalso
        have h1 : Q * st ≤ b * st := Int.mul_le_mul_of_nonneg_right z (by omega)
        rw [Int.mul_comm b st] at h1
        omega
    cases eg : goesUp b r st s with
    | false =>
      rw [eg, if_neg Bool.false_ne_true] at hr
      rw [hr] at hT
      exfalso
      rw [Int.mul_comm b st] at hT
      omega
    | true =>
      rw [eg, if_pos rfl] at hr
      rw [hr] at hT ⊢
      have hQb : b + 1 = Q := by
        have h1 : Q ≤ b + 1 := by
          rcases Int.lt_or_le (b + 1) Q with z | z
          · exfalso
            have h1 : (b + 1 + 1) * st ≤ Q * st := Int.mul_le_mul_of_nonneg_right (by omega) (by omega)
            have h2 : (b + 1 + 1) * st = (b + 1) * st + st := by rw [Int.add_mul, Int.one_mul]
            omega
          · exact z
        omega
      rw [hQb, eT3]
      -- the rest to the threshold
      have hk : Q * st = st * b + st := by rw [← hQb, Int.add_mul, Int.one_mul, Int.mul_comm b st]
      have e' : n = (Q' - 1) * st' + (st' - (st - r)) := by
        rw [Int.sub_mul, Int.one_mul, ← eT3, hk]
        omega
      have hr0 : 0 < r := by
        rcases goes_cases b r st s with ⟨_, h⟩ | ⟨_, h⟩ | ⟨_, h⟩ | ⟨_, _, _, h⟩ <;> rw [h] at eg
        · exact of_decide_eq_true eg
        · have := of_decide_eq_true eg
          omega
        · rw [Bool.or_eq_true, Bool.and_eq_true] at eg
          rcases eg with y | y
          · have := of_decide_eq_true y
            omega
          · have := of_decide_eq_true y.1
            omega
        · cases eg
      have hb1 : 1 ≤ placeOf us l n := by
        rcases Nat.eq_zero_or_pos (placeOf us l n) with z | z
        · have := hone z
          omega
        · exact z
      have hlt' := hbig hb1
      have hr2 := rnd_of (n := n) (st := st') (b := Q' - 1) (r := st' - (st - r)) (s := s) (by omega) (by omega) e'
      have eg' : goesUp (Q' - 1) (st' - (st - r)) st' s = true := by
        rcases goes_cases b r st s with ⟨hs, h⟩ | ⟨hs, h⟩ | ⟨hs, h⟩ | ⟨_, _, _, h⟩ <;> rw [h] at eg
        · rcases goes_cases (Q' - 1) (st' - (st - r)) st' s with ⟨_, h'⟩ | ⟨z, _⟩ | ⟨z, _⟩ | ⟨z, _⟩
          · rw [h']; exact decide_eq_true (by omega)
          · rw [hs] at z; exact absurd z (by decide +kernel)
          · rw [hs] at z; exact absurd z (by decide +kernel)
          · exact absurd hs z
        · have h2 := of_decide_eq_true eg
          rcases goes_cases (Q' - 1) (st' - (st - r)) st' s with ⟨z, _⟩ | ⟨_, h'⟩ | ⟨z, _⟩ | ⟨_, z, _⟩
          · rw [hs] at z; exact absurd z (by decide +kernel)
          · rw [h']; exact decide_eq_true (by omega)
          · rw [hs] at z; exact absurd z (by decide +kernel)
          · exact absurd hs z
        · have h2 : st ≤ 2 * r := by
            rw [Bool.or_eq_true, Bool.and_eq_true] at eg
            rcases eg with y | y
            · have := of_decide_eq_true y
              omega
            · have := of_decide_eq_true y.1
              omega
          rcases goes_cases (Q' - 1) (st' - (st - r)) st' s with ⟨z, _⟩ | ⟨z, _⟩ | ⟨_, h'⟩ | ⟨_, _, z, _⟩
          · rw [hs] at z; exact absurd z (by decide +kernel)
          · rw [hs] at z; exact absurd z (by decide +kernel)
          · rw [h', Bool.or_eq_true]; exact .inl (decide_eq_true (by omega))
          · exact absurd hs z
        · cases eg
      rw [hr2, eg', if_pos rfl, Int.sub_add_cancel]
end My

namespace My
open PySem PySem.Spec PyProof.Rows L2
theorem goes_down (b r st : Int) : goesUp b r st "down" = false := by
  rcases goes_cases b r st "down" with ⟨z, _⟩ | ⟨z, _⟩ | ⟨z, _⟩ | ⟨_, _, _, h⟩
  · exact absurd z (by decide +kernel)
  · exact absurd z (by decide +kernel)
  · exact absurd z (by decide +kernel)
  · exact h
theorem goes_zero {b st : Int} {s : Str} (h : 0 < st) : goesUp b 0 st s = false := by
  rcases goes_cases b 0 st s with ⟨_, e⟩ | ⟨_, e⟩ | ⟨_, e⟩ | ⟨_, _, _, e⟩ <;> rw [e]
  · rfl
  · exact decide_eq_false (by omega)
  · rw [decide_eq_false (show ¬ st < 2 * 0 by omega), decide_eq_false (show ¬ (2 : Int) * 0 = st by omega)]
    rfl
theorem placed_down {us : List (Str × Int)} {d : Nat} {s : Str} {c : Bool} {l n : Int} (g : Good us d s l) (h0 : 0 ≤ n) : placedM us d "down" c l n = (placeOf us l n, n / stOf us d l n) := by
  obtain ⟨sp, _⟩ := st_pos g h0
  have er : rnd n (stOf us d l n) "down" = n / stOf us d l n := by
    unfold rnd
    rw [goes_down, if_neg Bool.false_ne_true]
  unfold placedM
  show (if isCar us d c l (placeOf us l n) (rnd n (stOf us d l n) "down") = true then _ else (placeOf us l n, rnd n (stOf us d l n) "down")) = _
  rw [er, down_not g h0 (Int.ediv_mul_le n (by omega)), if_neg Bool.false_ne_true]
theorem place_back {us : List (Str × Int)} {d : Nat} {s : Str} {l n : Int} (g : Good us d s l) (h0 : 0 ≤ n) : 0 ≤ n / stOf us d l n * stOf us d l n ∧ n / stOf us d l n * stOf us d l n ≤ n ∧ placeOf us l (n / stOf us d l n * stOf us d l n) = placeOf us l n := by
  obtain ⟨sp, _⟩ := st_pos g h0
  have hpl := place_lt g h0
  have h1 : n / stOf us d l n * stOf us d l n ≤ n := Int.ediv_mul_le n (by omega)
  have h2 : 0 ≤ n / stOf us d l n * stOf us d l n := Int.mul_nonneg (Int.ediv_nonneg h0 (by omega)) (by omega)
  refine ⟨h2, h1, ?_⟩
  have hv := place_lt g h2
  have a1 : placeOf us l (n / stOf us d l n * stOf us d l n) ≤ placeOf us l n := by
    refine (reached (n := n) g.u g.l1 h0 hv).mp ?_
    rcases (reached g.u g.l1 h2 hv).mpr (Nat.le_refl _) with y | y
    · exact .inl y
    · exact .inr (Int.le_trans y h1)
  have a2 : placeOf us l n ≤ placeOf us l (n / stOf us d l n * stOf us d l n) := by
    refine (reached g.u g.l1 h2 hpl).mp ?_
    rcases (reached g.u g.l1 h0 hpl).mpr (Nat.le_refl _) with y | y
    · exact .inl y
    · rcases Nat.eq_zero_or_pos (placeOf us l n) with z | z
      · exact .inl z
      · refine .inr ?_
        have e := sz_step g z hpl
        have e2 : szOf us (placeOf us l n) * l = (10 ^ d * l) * stOf us d l n := by
          rw [e, Int.mul_assoc, Int.mul_comm]
          rfl
        rw [e2] at y ⊢
        exact Int.mul_le_mul_of_nonneg_right ((Int.le_ediv_iff_mul_le sp).mpr y) (by omega)
  omega
theorem placed_back {us : List (Str × Int)} {d : Nat} {s : Str} {c : Bool} {l n : Int} (g : Good us d s l) (h0 : 0 ≤ n) : placedM us d s c l (n / stOf us d l n * stOf us d l n) = (placeOf us l n, n / stOf us d l n) := by
  obtain ⟨sp, _⟩ := st_pos g h0
  obtain ⟨v0, v1, ev⟩ := place_back g h0
  have es : stOf us d l (n / stOf us d l n * stOf us d l n) = stOf us d l n := by
    unfold stOf
    unfold stOf at ev
    rw [ev]
  have er : rnd (n / stOf us d l n * stOf us d l n) (stOf us d l n) s = n / stOf us d l n := by
    rw [rnd_of (b := n / stOf us d l n) (r := 0) (Int.le_refl 0) sp (by omega), goes_zero sp, if_neg Bool.false_ne_true]
  have hn := down_not (c := c) g v0 (m := n / stOf us d l n) (by rw [es]; exact Int.le_refl _)
  unfold placedM
  show (if isCar us d c l (placeOf us l (n / stOf us d l n * stOf us d l n)) (rnd _ (stOf us d l (n / stOf us d l n * stOf us d l n)) s) = true then _ else (placeOf us l (n / stOf us d l n * stOf us d l n), rnd _ (stOf us d l (n / stOf us d l n * stOf us d l n)) s)) = _
  rw [es, er, hn, if_neg Bool.false_ne_true, ev]
theorem worth_val {us : List (Str × Int)} {d : Nat} {s : Str} {c : Bool} {l n : Int} (g : Good us d s l) (h0 : 0 ≤ n) :
    worthM us d s c l n = if goesUp (n / stOf us d l n) (n % stOf us d l n) (stOf us d l n) s = true then n / stOf us d l n * stOf us d l n + stOf us d l n else n / stOf us d l n * stOf us d l n := by
  rw [worth_core g h0]
  unfold rnd
  split
  · rw [Int.add_mul, Int.one_mul]
  · rfl
theorem Good.sort {us : List (Str × Int)} {d : Nat} {s t : Str} {l : Int} (g : Good us d s l) (h : t ∈ sorts) : Good us d t l := ⟨g.u, g.d3, g.div, h, g.l1, g.l2⟩
theorem cmp_abs {n st b r B w0 w1 w2 w3 : Int} (sp : 0 < st) (m0 : 0 ≤ r) (m1 : r < st) (hdm : B + r = n) (e0 : w0 = B)
    (e1 : w1 = if st ≤ 2 * r then B + st else B) (e2 : w2 = if st < 2 * r ∨ 2 * r = st ∧ b % 2 = 1 then B + st else B) (e3 : w3 = if 0 < r then B + st else B) :
    (w0 ≤ w1 ∧ w1 ≤ w3) ∧ (w0 ≤ w2 ∧ w2 ≤ w3) ∧ (w3 - w0 = if w0 = n then 0 else st) ∧ (w1 ≠ w2 → 2 * (n - w0) = st ∧ ¬ b % 2 = 1 ∧ w2 = w0) := by
  have f1 : (st ≤ 2 * r ∧ w1 = B + st) ∨ (¬ st ≤ 2 * r ∧ w1 = B) := by
    split at e1
    · exact .inl ⟨‹_›, e1⟩
    · exact .inr ⟨‹_›, e1⟩
  have f2 : ((st < 2 * r ∨ 2 * r = st ∧ b % 2 = 1) ∧ w2 = B + st) ∨ (¬ (st < 2 * r ∨ 2 * r = st ∧ b % 2 = 1) ∧ w2 = B) := by
    split at e2
    · exact .inl ⟨‹_›, e2⟩
    · exact .inr ⟨‹_›, e2⟩
  have f3 : (0 < r ∧ w3 = B + st) ∨ (¬ 0 < r ∧ w3 = B) := by
    split at e3
    · exact .inl ⟨‹_›, e3⟩
    · exact .inr ⟨‹_›, e3⟩
  clear e1 e2 e3
  refine ⟨by omega, by omega, ?_, fun hne => by omega⟩
  split <;> omega
/-- what is asked of the four worths, their base b * st, the rest r -/
structure Cmp (n st : Int) (w0 w1 w2 w3 : Int) : Prop where
  e0 : w0 = n / st * st
  o1 : w0 ≤ w1 ∧ w1 ≤ w3
  o2 : w0 ≤ w2 ∧ w2 ≤ w3
  e3 : w3 - w0 = if w0 = n then 0 else st
  ne : w1 ≠ w2 → 2 * (n - w0) = st ∧ ¬ n / st % 2 = 1 ∧ w2 = w0
theorem cmp_ok {us : List (Str × Int)} {d : Nat} {s : Str} {c : Bool} {l n : Int} (g : Good us d s l) (h0 : 0 ≤ n) : Cmp n (stOf us d l n) (worthM us d "down" c l n) (worthM us d "near" c l n) (worthM us d "even" c l n) (worthM us d "up" c l n) := by
  obtain ⟨sp, _⟩ := st_pos g h0
  have e0 := worth_val (c := c) (g.sort (t := "down") (by simp [sorts])) h0
  have e1 := worth_val (c := c) (g.sort (t := "near") (by simp [sorts])) h0
  have e2 := worth_val (c := c) (g.sort (t := "even") (by simp [sorts])) h0
  have e3 := worth_val (c := c) (g.sort (t := "up") (by simp [sorts])) h0
  have m0 := Int.emod_nonneg n (b := stOf us d l n) (by omega)
  have m1 := Int.emod_lt_of_pos n sp
  have hdm := Int.mul_ediv_add_emod n (stOf us d l n)
  rw [Int.mul_comm] at hdm
  rw [goes_down, if_neg Bool.false_ne_true] at e0
  have u1 : goesUp (n / stOf us d l n) (n % stOf us d l n) (stOf us d l n) "near" = decide (stOf us d l n ≤ 2 * (n % stOf us d l n)) := by
    unfold goesUp
    rw [if_neg (by decide +kernel), if_pos rfl]
  have u2 : goesUp (n / stOf us d l n) (n % stOf us d l n) (stOf us d l n) "even" = (decide (stOf us d l n < 2 * (n % stOf us d l n)) || (decide (2 * (n % stOf us d l n) = stOf us d l n) && decide (n / stOf us d l n % 2 = 1))) := by
    unfold goesUp
    rw [if_neg (by decide +kernel), if_neg (by decide +kernel), if_pos rfl]
  have u3 : goesUp (n / stOf us d l n) (n % stOf us d l n) (stOf us d l n) "up" = decide (0 < n % stOf us d l n) := by
    unfold goesUp
    rw [if_pos rfl]
  rw [u1] at e1
  rw [u2] at e2
  rw [u3] at e3
  simp only [decide_eq_true_eq, Bool.or_eq_true, Bool.and_eq_true] at e1 e2 e3
  obtain ⟨q1, q2, q3, q4⟩ := cmp_abs sp m0 m1 hdm e0 e1 e2 e3
  exact ⟨e0, q1, q2, q3, q4⟩
end My

namespace My
open PySem PySem.Spec PyProof.Rows L2
/-! ### stretches -/
/-- the first number that is rounded to a mark -/
def firstR (m st : Int) (s : Str) : Int :=
  if m = 0 ∨ st = 1 ∨ s = "down" then m * st else if s = "up" then (m - 1) * st + 1 else if s = "even" ∧ m % 2 = 1 then m * st - st / 2 + 1 else m * st - st / 2
/-- the first number that is shown with the unit at p -/
def startM (us : List (Str × Int)) (d : Nat) (s : Str) (c : Bool) (l : Int) (p : Nat) : Int :=
  if p = 0 ∨ c = false then (thrsOf us l).getD p 0 else firstR ((thrsOf us l).getD p 0 / (stepsOf us d).getD (p - 1) 0) ((stepsOf us d).getD (p - 1) 0) s
def max2 (x y : Int) : Int := if y > x then y else x
def min2 (x y : Int) : Int := if y < x then y else x
def lowM (us : List (Str × Int)) (d : Nat) (s : Str) (c : Bool) (l : Int) (p : Nat) (m : Int) : Int := max2 (firstR m ((stepsOf us d).getD p 0) s) (startM us d s c l p)
def highM (us : List (Str × Int)) (d : Nat) (s : Str) (c : Bool) (l : Int) (p : Nat) (m : Int) : Int :=
  if p + 1 < us.length then min2 (firstR (m + 1) ((stepsOf us d).getD p 0) s - 1) (startM us d s c l (p + 1) - 1) else firstR (m + 1) ((stepsOf us d).getD p 0) s - 1
def spFirstR : Sp := fun vs H Q _ => ∃ (m st : Int) (s : Str), vs = [.int m, .int st, .str s] ∧ 0 < st ∧ st ≤ 1000000000000000000 ∧ Q (.int (firstR m st s)) H
def spStartOf (K : PySem.W.Frag) (C : Addr) : Sp := fun vs H Q _ => ∃ (a : Addr) (us : List (Str × Int)) (d : Nat) (s : Str) (c : Bool) (l : Int) (p : Nat), vs = [.ref a, .int (p : Int)] ∧ LadAt K C H a us d s c l ∧ Good us d s l ∧ p < us.length ∧ Q (.int (startM us d s c l p)) H
def spNums (K : PySem.W.Frag) (C : Addr) : Sp := fun vs H Q _ => ∃ (a : Addr) (us : List (Str × Int)) (d : Nat) (s : Str) (c : Bool) (l : Int) (p : Nat) (m : Int), vs = [.ref a, .int (p : Int), .int m] ∧ LadAt K C H a us d s c l ∧ Good us d s l ∧ p < us.length ∧
  (highM us d s c l p m < lowM us d s c l p m → Q .non H) ∧ (lowM us d s c l p m ≤ highM us d s c l p m → ∀ (r : Addr) (H' : Hp), Same H H' → SqT K H' r [.int (lowM us d s c l p m), .int (highM us d s c l p m)] → Q (.ref r) H')
theorem thr_get {us : List (Str × Int)} {d : Nat} {s : Str} {l : Int} (g : Good us d s l) {p : Nat} (hp : p < us.length) : (thrsOf us l)[p]? = some ((thrsOf us l).getD p 0) := by
  have e := len_thrs us l g.u.lo
  have h1 : (thrsOf us l)[p]? = some (thrsOf us l)[p] := List.getElem?_eq_getElem (by omega)
  rw [List.getD_eq_getElem?_getD, h1]
  rfl
theorem divw_small {i j : Int} (h : 0 < j) (hj : j ≤ 1000000000000000000) : CDivW i j := ⟨h, Nat.lt_of_lt_of_le (PySem.Flt.log2_lt_of (k := 64) (by decide) (by omega)) (by decide)⟩
section
variable {P : Program} {w : World} {K : PySem.W.Frag} {mg : Str → Option Value} {base : Heap}
end
end My

namespace My
open PySem PySem.Spec PyProof.Rows L2
def spHidden (K : PySem.W.Frag) (C : Addr) : Sp := fun vs H Q _ => ∃ (a : Addr) (us : List (Str × Int)) (d : Nat) (s : Str) (c : Bool) (l n : Int), vs = [.ref a, .int n] ∧ LadAt K C H a us d s c l ∧ Good us d s l ∧ 0 ≤ n ∧ n ≤ 1000000000000000000 ∧
  lowM us d s c l (placedM us d s c l n).1 (placedM us d s c l n).2 ≤ highM us d s c l (placedM us d s c l n).1 (placedM us d s c l n).2 ∧
  ∀ (r : Addr) (H' : Hp), Same H H' → SqT K H' r [.int (n - lowM us d s c l (placedM us d s c l n).1 (placedM us d s c l n).2), .int (highM us d s c l (placedM us d s c l n).1 (placedM us d s c l n).2 - n)] → Q (.ref r) H'
section
variable {P : Program} {w : World} {K : PySem.W.Frag} {mg : Str → Option Value} {base : Heap}
end
end My

namespace My
open PySem PySem.Spec PyProof.Rows L2
theorem small_place {us : List (Str × Int)} {d : Nat} {s : Str} {l n : Int} (g : Good us d s l) (h0 : 0 ≤ n) (h : us.length = 1 ∨ n < l * szOf us 1) : placeOf us l n = 0 := by
  have hpl := place_lt g h0
  rcases Nat.eq_zero_or_pos (placeOf us l n) with z | z
  · exact z
  · exfalso
    have h1 : 1 < us.length := by omega
    have hr := (reached (n := n) g.u g.l1 h0 h1).mpr z
    rcases hr with y | y
    · cases y
    · rcases h with k | k
      · omega
      · rw [Int.mul_comm] at y
        omega
theorem step_zero (us : List (Str × Int)) (d : Nat) : (stepsOf us d).getD 0 0 = 1 := rfl
theorem thr_zero (us : List (Str × Int)) (l : Int) : (thrsOf us l).getD 0 0 = 0 := rfl
theorem firstR_one (m : Int) (s : Str) : firstR m 1 s = m := by
  unfold firstR
  rw [if_pos (.inr (.inl rfl)), Int.mul_one]
theorem start_one (us : List (Str × Int)) (d : Nat) (s : Str) (c : Bool) (l : Int) : startM us d s c l 1 = (thrsOf us l).getD 1 0 := by
  unfold startM
  split
  · rfl
  · rw [Nat.sub_self, step_zero, firstR_one, Int.ediv_one]
theorem ends_small {us : List (Str × Int)} {d : Nat} {s : Str} {c : Bool} {l n : Int} (g : Good us d s l) (h0 : 0 ≤ n) (h : placeOf us l n = 0) : lowM us d s c l 0 n = n ∧ highM us d s c l 0 n = n := by
  constructor
  · unfold lowM
    have e : startM us d s c l 0 = 0 := by
      unfold startM
      rw [if_pos (.inl rfl)]
      rfl
    rw [step_zero, firstR_one, e]
    unfold max2
    split <;> omega
  · unfold highM
    rw [step_zero, firstR_one]
    split
    · rename_i h1
      have hn := next_thr g h0 (by rw [h]; exact h1)
      rw [h] at hn
      have hn' : n < (thrsOf us l).getD 1 0 := hn
      rw [start_one]
      unfold min2
      split <;> omega
    · omega
/-- steps ascend -/
theorem step_up {us : List (Str × Int)} {d : Nat} {s : Str} {l : Int} (g : Good us d s l) {p : Nat} (h : p + 1 < us.length) : (stepsOf us d).getD p 0 ≤ (stepsOf us d).getD (p + 1) 0 := by
  have h1 := (steps_ok g h).2.1
  rcases Nat.eq_zero_or_pos p with z | z
  · subst z
    rw [step_zero]
    omega
  · have hz0 := sz_step g (k := p) z (by omega)
    have hz1 := sz_step g (k := p + 1) (by omega) h
    have hup := sz_up g.u h
    rw [hz0, hz1] at hup
    exact Int.le_of_lt (Int.lt_of_mul_lt_mul_right hup (Int.le_of_lt (pow_lo d)))
theorem placed_step {us : List (Str × Int)} {d : Nat} {s : Str} {c : Bool} {l n : Int} (g : Good us d s l) (h0 : 0 ≤ n) : stOf us d l n ≤ (stepsOf us d).getD (placedM us d s c l n).1 0 := by
  unfold placedM
  split
  · rename_i e
    exact step_up g (isCar_lt e)
  · exact Int.le_refl _
theorem dist47 {us : List (Str × Int)} {d : Nat} {s : Str} {c : Bool} {l n : Int} (g : Good us d s l) (h0 : 0 ≤ n) : n - stOf us d l n < worthM us d s c l n ∧ worthM us d s c l n < n + stOf us d l n ∧ (stOf us d l n = 1 → worthM us d s c l n = n) := by
  obtain ⟨sp, _⟩ := st_pos g h0
  have e0 := worth_val (c := c) g h0
  have m0 := Int.emod_nonneg n (b := stOf us d l n) (by omega)
  have m1 := Int.emod_lt_of_pos n sp
  have hdm := Int.mul_ediv_add_emod n (stOf us d l n)
  rw [Int.mul_comm] at hdm
  have hz : n % stOf us d l n = 0 → goesUp (n / stOf us d l n) (n % stOf us d l n) (stOf us d l n) s = false := fun y => by rw [y]; exact goes_zero sp
  split at e0
  · rename_i hg
    have hr : n % stOf us d l n ≠ 0 := fun y => by
      rw [hz y] at hg
      cases hg
    refine ⟨by omega, by omega, fun y => by omega⟩
  · refine ⟨by omega, by omega, fun y => by omega⟩
/-- the step of the law -/
theorem law_step {us : List (Str × Int)} {d p : Nat} (hp : p < us.length) : (stepsOf us d).getD p 0 = if p = 0 then 1 else szOf us p / 10 ^ d := by
  split
  · rename_i h
    subst h
    rfl
  · exact step_at (by omega) hp
theorem last_place {us : List (Str × Int)} {d : Nat} {s : Str} {l n : Int} (g : Good us d s l) (h0 : 0 ≤ n) (h : szOf us (us.length - 1) * l ≤ n) : placeOf us l n = us.length - 1 := by
  have hlo := g.u.lo
  have h1 := (reached (n := n) g.u g.l1 h0 (show us.length - 1 < us.length by omega)).mp (.inr h)
  have h2 := place_lt g h0
  omega
theorem last_sz_pos {us : List (Str × Int)} (g : GoodUs us) {i : Nat} (h : i < us.length) : 1 ≤ szOf us i ∧ szOf us i ≤ 1000000000000000000 := by
  have h1 : us[i]? = some us[i] := List.getElem?_eq_getElem h
  rw [szOf_at h1]
  have := g.each i _ h1
  exact ⟨this.2.1, this.2.2.1⟩
theorem last_same {us : List (Str × Int)} {d : Nat} {s : Str} {c : Bool} {l l2 n : Int} (g : Good us d s l) (g2 : Good us d s l2) (hl : l ≤ l2) (h0 : 0 ≤ n) (h : l2 * szOf us (us.length - 1) ≤ n) : shown us d s c l2 n = shown us d s c l n := by
  have hlo := g.u.lo
  have hs := (last_sz_pos g.u (show us.length - 1 < us.length by omega)).1
  rw [Int.mul_comm] at h
  have a2 := last_place g2 h0 h
  have h' : szOf us (us.length - 1) * l ≤ szOf us (us.length - 1) * l2 := Int.mul_le_mul_of_nonneg_left hl (by omega)
  have a1 := last_place g h0 (by omega)
  have nc : ∀ l' m, isCar us d c l' (us.length - 1) m = false := fun l' m => by
    unfold isCar
    rw [decide_eq_false (show ¬ us.length - 1 + 1 < us.length by omega), Bool.false_and, Bool.and_false]
  have e : placedM us d s c l2 n = placedM us d s c l n := by
    unfold placedM
    rw [a1, a2, nc, nc]
  unfold shown
  rw [e]
theorem unit_mono {us : List (Str × Int)} {d : Nat} {s : Str} {c : Bool} {l l2 n : Int} (g : Good us d s l) (g2 : Good us d s l2) (hl : l ≤ l2) (h0 : 0 ≤ n) : (placedM us d s c l2 n).1 ≤ (placedM us d s c l n).1 := by
  have hpl2 := place_lt g2 h0
  have hle : placeOf us l2 n ≤ placeOf us l n := by
    have h2 := (reached (n := n) g2.u g2.l1 h0 hpl2).mpr (Nat.le_refl _)
    refine (reached (n := n) g.u g.l1 h0 hpl2).mp ?_
    rcases h2 with y | y
    · exact .inl y
    · have hs := (last_sz_pos g.u hpl2).1
      have h' : szOf us (placeOf us l2 n) * l ≤ szOf us (placeOf us l2 n) * l2 := Int.mul_le_mul_of_nonneg_left hl (by omega)
      exact .inr (by omega)
  have b1 : placeOf us l n ≤ (placedM us d s c l n).1 := by
    unfold placedM
    split
    · exact Nat.le_succ _
    · exact Nat.le_refl _
  rcases Nat.lt_or_ge (placeOf us l2 n) (placeOf us l n) with z | z
  · have b2 : (placedM us d s c l2 n).1 ≤ placeOf us l2 n + 1 := by
      unfold placedM
      split
      · exact Nat.le_refl _
      · exact Nat.le_succ _
    omega
  · have ee : placeOf us l2 n = placeOf us l n := by omega
    unfold placedM
    rw [ee]
    cases ec2 : isCar us d c l2 (placeOf us l n) (rnd n ((stepsOf us d).getD (placeOf us l n) 0) s) with
    | false =>
      rw [if_neg Bool.false_ne_true]
      split
      · exact Nat.le_succ _
      · exact Nat.le_refl _
    | true =>
      rw [if_pos rfl]
      have hp1 := isCar_lt ec2
      have ec1 : isCar us d c l (placeOf us l n) (rnd n ((stepsOf us d).getD (placeOf us l n) 0) s) = true := by
        unfold isCar at ec2 ⊢
        rw [Bool.and_eq_true, Bool.and_eq_true] at ec2 ⊢
        refine ⟨ec2.1, ec2.2.1, decide_eq_true ?_⟩
        have h2 := of_decide_eq_true ec2.2.2
        have t1 : (thrsOf us l).getD (placeOf us l n + 1) 0 = szOf us (placeOf us l n + 1) * l := by rw [List.getD_eq_getElem?_getD, thr_at (by omega) hp1]; rfl
        have t2 : (thrsOf us l2).getD (placeOf us l n + 1) 0 = szOf us (placeOf us l n + 1) * l2 := by rw [List.getD_eq_getElem?_getD, thr_at (by omega) hp1]; rfl
        rw [t2] at h2
        rw [t1]
        have hs := (last_sz_pos g.u hp1).1
        have h' : szOf us (placeOf us l n + 1) * l ≤ szOf us (placeOf us l n + 1) * l2 := Int.mul_le_mul_of_nonneg_left hl (by omega)
        omega
      rw [ec1, if_pos rfl]
      exact Nat.le_refl _
/-- another name for the first unit -/
def oneU : Str × Int := ("one", 1)
def plainUs (us : List (Str × Int)) : List (Str × Int) := oneU :: us.drop 1
theorem plain_len {us : List (Str × Int)} (h : 1 ≤ us.length) : (plainUs us).length = us.length := by
  unfold plainUs
  rw [List.length_cons, List.length_drop]
  omega
theorem plain_get (us : List (Str × Int)) (k : Nat) : (plainUs us)[k + 1]? = us[k + 1]? := by
  unfold plainUs
  rw [List.getElem?_cons_succ, List.getElem?_drop, Nat.add_comm 1 k]
theorem plain_take (us : List (Str × Int)) (k : Nat) : ∀ v ∈ (plainUs us).take (k + 1), v = oneU ∨ v ∈ us.take (k + 1) := by
  intro v hv
  unfold plainUs at hv
  rw [List.take_succ_cons] at hv
  rcases List.mem_cons.mp hv with z | z
  · exact .inl z
  · right
    cases us with
    | nil => simp at z
    | cons u r =>
      rw [List.take_succ_cons]
      exact List.mem_cons_of_mem _ z
theorem good_one : GoodN "one" := ⟨by decide +kernel, by decide +kernel, by decide +kernel, by decide +kernel⟩
theorem first_size {us : List (Str × Int)} (g : GoodUs us) : ∃ u, us[0]? = some u ∧ u.2 = 1 := by
  have h00 : 0 < us.length := g.lo
  have h : us[0]? = some us[0] := List.getElem?_eq_getElem h00
  refine ⟨_, h, ?_⟩
  obtain ⟨_, _, _, hf⟩ := g.each 0 _ h
  rcases hf with ⟨_, e⟩ | ⟨l, hl, hne, _⟩
  · exact e
  · exact absurd rfl hne
theorem plain_good {us : List (Str × Int)} {d : Nat} {s : Str} {l : Int} (g : Good us d s l) (hn : NoOne us) : Good (plainUs us) d s l := by
  have hlen := plain_len g.u.lo
  refine ⟨⟨by rw [hlen]; exact g.u.lo, by rw [hlen]; exact g.u.hi, fun i u hu => ?_⟩, g.d3, g.div, g.srt, g.l1, g.l2⟩
  cases i with
  | zero =>
    have e : oneU = u := Option.some.inj hu
    subst e
    exact ⟨good_one, by decide, by decide, .inl ⟨rfl, rfl⟩⟩
  | succ k =>
    rw [plain_get] at hu
    obtain ⟨k1, k2, k3, hf⟩ := g.u.each (k + 1) u hu
    refine ⟨k1, k2, k3, ?_⟩
    have hk : k + 1 < us.length := (List.getElem?_eq_some_iff.mp hu).1
    have el : (us.take (k + 1)).length = k + 1 := by rw [List.length_take]; omega
    have el2 : ((plainUs us).take (k + 1)).length = k + 1 := by rw [List.length_take, hlen]; omega
    rcases hf with ⟨e, _⟩ | ⟨w, hw, hne, h0, h1, h2, h3⟩
    · rw [e] at el
      cases el
    · rw [el, Nat.add_sub_cancel, List.getElem?_take, if_pos (Nat.lt_succ_self k)] at hw
      have hnm : ∀ v ∈ (plainUs us).take (k + 1), v.1 ≠ u.1 := fun v hv => by
        rcases plain_take us k v hv with z | z
        · subst z
          exact fun e => (hn u (List.mem_of_getElem? hu)).1.1 e.symm
        · exact h3 v z
      have hne2 : (plainUs us).take (k + 1) ≠ [] := fun e => by
        rw [e] at el2
        cases el2
      refine .inr ?_
      rw [el2, Nat.add_sub_cancel, List.getElem?_take, if_pos (Nat.lt_succ_self k)]
      cases k with
      | zero =>
        obtain ⟨u0, e0, e1⟩ := first_size g.u
        rw [e0] at hw
        have ew : u0 = w := Option.some.inj hw
        subst ew
        refine ⟨oneU, rfl, hne2, by decide, ?_, Int.emod_one _, hnm⟩
        show (1 : Int) < u.2
        omega
      | succ j =>
        rw [plain_get]
        exact ⟨w, hw, hne2, h0, h1, h2, hnm⟩
theorem plain_shown {us : List (Str × Int)} {d : Nat} {s : Str} {c : Bool} {l n : Int} (g : Good us d s l) (hp : 0 < (placedM us d s c l n).1) : shown (plainUs us) d s c l n = shown us d s c l n := by
  have hlen := plain_len g.u.lo
  have ec : ∀ p m, isCar (plainUs us) d c l p m = isCar us d c l p m := fun p m => by
    unfold isCar
    rw [hlen]
    rfl
  have ep : placedM (plainUs us) d s c l n = placedM us d s c l n := by
    unfold placedM
    rw [ec]
    rfl
  unfold shown
  rw [ep]
  generalize placedM us d s c l n = pm at hp
  obtain ⟨p, m⟩ := pm
  obtain ⟨j, rfl⟩ : ∃ j, p = j + 1 := ⟨p - 1, by show p = p - 1 + 1; have : 0 < p := hp; omega⟩
  have en : ((plainUs us).getD (j + 1) ("", 0)).1 = (us.getD (j + 1) ("", 0)).1 := by
    rw [List.getD_eq_getElem?_getD, List.getD_eq_getElem?_getD, plain_get]
  unfold writ
  rw [en]
end My

namespace My
open PySem PySem.Spec PyProof.Rows L2
/-! ### ranges -/
theorem rnd_ge_core {b r st m X : Int} {s : Str} (hs : s ∈ sorts) (h2 : st % 2 = 0) (h0 : 0 < st) (r0 : 0 ≤ r) (r1 : r < st) (m0 : 1 ≤ m)
    (k1 : m ≤ b → X ≤ b * st) (k2 : m = b + 1 → X = b * st + st) (k3 : b + 2 ≤ m → b * st + 2 * st ≤ X) :
    m ≤ (if goesUp b r st s = true then b + 1 else b) ↔ (if s = "down" then X else if s = "up" then X - st + 1 else if s = "even" ∧ m % 2 = 1 then X - st / 2 + 1 else X - st / 2) ≤ b * st + r := by
  generalize b * st = B at k1 k2 k3 ⊢
  have hh : st = 2 * (st / 2) := by omega
  generalize st / 2 = h at hh ⊢
  unfold sorts at hs
  simp only [List.mem_cons, List.not_mem_nil, or_false] at hs
  rcases goes_cases b r st s with ⟨e, eg⟩ | ⟨e, eg⟩ | ⟨e, eg⟩ | ⟨n1, n2, n3, eg⟩
  · subst e
    rw [eg, if_neg (show ¬ (("up" : Str) = "down") by decide +kernel), if_pos rfl]
    by_cases c : 0 < r
    · rw [decide_eq_true c, if_pos rfl]
      omega
    · rw [decide_eq_false c, if_neg Bool.false_ne_true]
      omega
  · subst e
    have e3 : ¬ (("near" : Str) = "even" ∧ m % 2 = 1) := fun y => absurd y.1 (by decide +kernel)
    rw [eg, if_neg (show ¬ (("near" : Str) = "down") by decide +kernel), if_neg (show ¬ (("near" : Str) = "up") by decide +kernel), if_neg e3]
    by_cases c : st ≤ 2 * r
    · rw [decide_eq_true c, if_pos rfl]
      omega
    · rw [decide_eq_false c, if_neg Bool.false_ne_true]
      omega
  · subst e
    rw [eg, if_neg (show ¬ (("even" : Str) = "down") by decide +kernel), if_neg (show ¬ (("even" : Str) = "up") by decide +kernel)]
    by_cases c : st < 2 * r
    · rw [decide_eq_true c, Bool.true_or, if_pos rfl]
      split <;> omega
    · rw [decide_eq_false c, Bool.false_or]
      by_cases c2 : 2 * r = st
      · rw [decide_eq_true c2, Bool.true_and]
        by_cases c3 : b % 2 = 1
        · rw [decide_eq_true c3, if_pos rfl]
          split <;> rename_i c4
          · have := c4.2
            omega
          · have : ¬ m % 2 = 1 := fun y => c4 ⟨rfl, y⟩
            omega
        · rw [decide_eq_false c3, if_neg Bool.false_ne_true]
          split <;> rename_i c4
          · have := c4.2
            omega
          · have : ¬ m % 2 = 1 := fun y => c4 ⟨rfl, y⟩
            omega
      · rw [decide_eq_false c2, Bool.false_and, if_neg Bool.false_ne_true]
        split <;> omega
  · rcases hs with e | e | e | e
    · subst e
      rw [eg, if_neg Bool.false_ne_true, if_pos rfl]
      omega
    · exact absurd e n1
    · exact absurd e n2
    · exact absurd e n3
theorem rnd_nn {n st : Int} {s : Str} (h0 : 0 ≤ n) (h1 : 0 < st) : 0 ≤ rnd n st s := (rnd_lo h0 h1).1
/-- a number is rounded to m or more exactly from the first one on -/
theorem rnd_ge {n st m : Int} {s : Str} (hs : s ∈ sorts) (h2 : st = 1 ∨ st % 2 = 0) (h0 : 0 < st) (n0 : 0 ≤ n) (m0 : 0 ≤ m) : m ≤ rnd n st s ↔ firstR m st s ≤ n := by
  rcases Int.lt_or_le 0 m with hm | hm
  · rcases h2 with h2 | h2
    · subst h2
      rw [rnd_one, firstR_one]
    · have m1 := Int.emod_nonneg n (b := st) (by omega)
      have m2 := Int.emod_lt_of_pos n h0
      have hdm := Int.mul_ediv_add_emod n st
      rw [Int.mul_comm] at hdm
      have core := rnd_ge_core (b := n / st) (r := n % st) (X := m * st) hs h2 h0 m1 m2 (by omega) (fun y => Int.mul_le_mul_of_nonneg_right y (by omega))
        (fun y => by rw [y, Int.add_mul, Int.one_mul]) (fun y => by
          have := Int.mul_le_mul_of_nonneg_right (c := st) y (by omega)
          rw [Int.add_mul] at this
          exact this)
      rw [hdm] at core
      have e : firstR m st s = (if s = "down" then m * st else if s = "up" then m * st - st + 1 else if s = "even" ∧ m % 2 = 1 then m * st - st / 2 + 1 else m * st - st / 2) := by
        unfold firstR
        have e1 : ¬ m = 0 := by omega
        have e2 : ¬ st = 1 := by omega
        by_cases c : s = "down"
        · rw [if_pos (.inr (.inr c)), if_pos c]
        · rw [if_neg (fun y => y.elim e1 (fun y => y.elim e2 c)), if_neg c, Int.sub_mul, Int.one_mul]
      rw [e]
      exact core
  · have e : m = 0 := by omega
    subst e
    have e2 : firstR 0 st s = 0 := by
      unfold firstR
      rw [if_pos (.inl rfl), Int.zero_mul]
    rw [e2]
    exact ⟨fun _ => n0, fun _ => rnd_nn n0 h0⟩
theorem firstR_nn {m st : Int} {s : Str} (h0 : 0 < st) (m0 : 0 ≤ m) : 0 ≤ firstR m st s := by
  have hm := Int.mul_nonneg m0 (show 0 ≤ st by omega)
  unfold firstR
  split
  · exact hm
  · rename_i c
    have m1 : 1 ≤ m := by
      rcases Int.lt_or_le 0 m with z | z
      · omega
      · exact absurd (.inl (by omega)) c
    have h1 : 1 * st ≤ m * st := Int.mul_le_mul_of_nonneg_right m1 (by omega)
    have h2 : 0 ≤ (m - 1) * st := Int.mul_nonneg (by omega) (by omega)
    have h3 : st / 2 ≤ st := Int.ediv_le_self _ (by omega)
    split
    · omega
    · split <;> omega
theorem step_even {us : List (Str × Int)} {d : Nat} {s : Str} {l : Int} (g : Good us d s l) {p : Nat} (hp : p < us.length) : (stepsOf us d).getD p 0 = 1 ∨ (stepsOf us d).getD p 0 % 2 = 0 := by
  rcases Nat.eq_zero_or_pos p with z | z
  · subst z
    exact .inl rfl
  · right
    rw [step_at z hp]
    obtain ⟨j, rfl⟩ : ∃ j, p = j + 1 := ⟨p - 1, by omega⟩
    have hu : us[j + 1]? = some us[j + 1] := List.getElem?_eq_getElem hp
    have hm : us[j + 1] ∈ us.drop 1 := List.mem_of_getElem? (i := j) (by rw [List.getElem?_drop, Nat.add_comm 1 j]; exact hu)
    have hz := g.div _ hm
    rw [szOf_at hu]
    have hp := pow_lo d
    obtain ⟨q, hq⟩ := Int.dvd_of_emod_eq_zero hz
    have e4 : us[j + 1].2 / 10 ^ d = 2 * q := by
      rw [hq, show (2 * 10 ^ d * q : Int) = 2 * q * 10 ^ d by rw [Int.mul_assoc, Int.mul_assoc, Int.mul_comm (10 ^ d) q]]
      exact Int.mul_ediv_cancel _ (by omega)
    rw [e4]
    omega
theorem thr_eq {us : List (Str × Int)} {l : Int} {p : Nat} (h1 : 1 ≤ p) (hp : p < us.length) : (thrsOf us l).getD p 0 = szOf us p * l := by
  rw [List.getD_eq_getElem?_getD, thr_at h1 hp]
  rfl
/-- a threshold is so many steps, of its own unit and of the one before -/
theorem thr_steps {us : List (Str × Int)} {d : Nat} {s : Str} {l : Int} (g : Good us d s l) {p : Nat} (h1 : 1 ≤ p) (hp : p < us.length) :
    (∃ k : Int, 0 ≤ k ∧ (thrsOf us l).getD p 0 = k * (stepsOf us d).getD p 0) ∧ ∃ k : Int, 0 ≤ k ∧ (thrsOf us l).getD p 0 = k * (stepsOf us d).getD (p - 1) 0 := by
  have hl := g.l1
  have hsz := (last_sz_pos g.u hp).1
  have pw := pow_lo d
  rw [thr_eq h1 hp]
  constructor
  · refine ⟨10 ^ d * l, Int.mul_nonneg (by omega) (by omega), ?_⟩
    rw [sz_step g h1 hp, Int.mul_assoc, Int.mul_comm]
  · obtain ⟨j, rfl⟩ : ∃ j, p = j + 1 := ⟨p - 1, by omega⟩
    rw [Nat.add_sub_cancel]
    rcases Nat.eq_zero_or_pos j with z | z
    · subst z
      have hsz1 : 1 ≤ szOf us 1 := hsz
      refine ⟨szOf us 1 * l, Int.mul_nonneg (by omega) (by omega), ?_⟩
      rw [step_zero, Int.mul_one]
    · obtain ⟨q, hq⟩ := sz_dvd g.u hp
      have hst := (steps_ok g (show j < us.length by omega)).2.1
      have hz0 := sz_step g z (show j < us.length by omega)
      have hsz0 := (last_sz_pos g.u (show j < us.length by omega)).1
      have hq0 : 0 ≤ q := by
        rcases Int.lt_or_le q 0 with y | y
        · exfalso
          have : szOf us j * q ≤ 0 := Int.mul_nonpos_of_nonneg_of_nonpos (by omega) (by omega)
          omega
        · exact y
      refine ⟨10 ^ d * q * l, Int.mul_nonneg (Int.mul_nonneg (by omega) hq0) (by omega), ?_⟩
      rw [hq, hz0]
      rw [Int.mul_assoc, Int.mul_assoc, Int.mul_assoc, Int.mul_assoc, Int.mul_comm ((stepsOf us d).getD j 0), Int.mul_assoc, Int.mul_assoc]
theorem placed_snd (us : List (Str × Int)) (d : Nat) (s : Str) (c : Bool) (l n : Int) : (placedM us d s c l n).2 = rnd n ((stepsOf us d).getD (placedM us d s c l n).1 0) s := by
  unfold placedM
  split <;> rfl
theorem placed_ge (us : List (Str × Int)) (d : Nat) (s : Str) (c : Bool) (l n : Int) : placeOf us l n ≤ (placedM us d s c l n).1 ∧ (placedM us d s c l n).1 ≤ placeOf us l n + 1 := by
  unfold placedM
  split
  · exact ⟨Nat.le_succ _, Nat.le_refl _⟩
  · exact ⟨Nat.le_refl _, Nat.le_succ _⟩
theorem placed_nocarry {us : List (Str × Int)} {d : Nat} {s : Str} {l n : Int} : (placedM us d s false l n).1 = placeOf us l n := by
  unfold placedM
  have e : isCar us d false l (placeOf us l n) (rnd n ((stepsOf us d).getD (placeOf us l n) 0) s) = false := by
    unfold isCar
    rw [Bool.false_and]
  rw [e, if_neg Bool.false_ne_true]
theorem rnd_below {n st k : Int} {s : Str} (h0 : 0 < st) (h : n < k * st) : rnd n st s ≤ k := by
  have hb : n / st < k := Int.ediv_lt_of_lt_mul h0 h
  unfold rnd
  split <;> omega
theorem rnd_above {n st k : Int} {s : Str} (h0 : 0 < st) (h : k * st ≤ n) : k ≤ rnd n st s := by
  have hb : k ≤ n / st := (Int.le_ediv_iff_mul_le h0).mpr h
  unfold rnd
  split <;> omega
/-- a unit is reached exactly from its first number on -/
theorem place_ge {us : List (Str × Int)} {d : Nat} {s : Str} {c : Bool} {l n : Int} (g : Good us d s l) (n0 : 0 ≤ n) {p : Nat} (hp : p < us.length) : p ≤ (placedM us d s c l n).1 ↔ startM us d s c l p ≤ n := by
  rcases Nat.eq_zero_or_pos p with z | z
  · subst z
    have e : startM us d s c l 0 = 0 := by
      unfold startM
      rw [if_pos (.inl rfl)]
      rfl
    rw [e]
    exact ⟨fun _ => n0, fun _ => Nat.zero_le _⟩
  · have hre := reached (n := n) g.u g.l1 n0 hp
    cases c with
    | false =>
      have e : startM us d s false l p = szOf us p * l := by
        unfold startM
        rw [if_pos (.inr rfl), thr_eq z hp]
      rw [e, placed_nocarry, ← hre]
      exact ⟨fun y => y.elim (fun y => by omega) id, .inr⟩
    | true =>
      obtain ⟨⟨k', hk0', hk'⟩, k, hk0, hk⟩ := thr_steps g z hp
      obtain ⟨_, s1, _⟩ := steps_ok g (show p - 1 < us.length by omega)
      have e : startM us d s true l p = firstR k ((stepsOf us d).getD (p - 1) 0) s := by
        unfold startM
        rw [if_neg (fun y => y.elim (fun y => by omega) (fun y => Bool.noConfusion y)), hk, Int.mul_ediv_cancel _ (by omega)]
      have gal := rnd_ge (n := n) (m := k) (s := s) g.srt (step_even g (show p - 1 < us.length by omega)) s1 n0 hk0
      rw [e, ← gal]
      obtain ⟨ge1, ge2⟩ := placed_ge us d s true l n
      have hpl := place_lt g n0
      constructor
      · intro hle
        rcases Nat.lt_or_ge (placeOf us l n) p with y | y
        · have ep : p = placeOf us l n + 1 := by omega
          -- it was carried
          cases ec : isCar us d true l (placeOf us l n) (rnd n ((stepsOf us d).getD (placeOf us l n) 0) s) with
          | false =>
            exfalso
            unfold placedM at hle
            rw [ec, if_neg Bool.false_ne_true] at hle
            have : p ≤ placeOf us l n := hle
            omega
          | true =>
            unfold isCar at ec
            rw [Bool.and_eq_true, Bool.and_eq_true] at ec
            have h1 := of_decide_eq_true ec.2.2
            rw [← ep, hk, show placeOf us l n = p - 1 by omega] at h1
            exact Int.le_of_mul_le_mul_right h1 s1
        · have h1 := hre.mpr y
          rcases h1 with h1 | h1
          · omega
          · rw [← thr_eq z hp, hk] at h1
            exact rnd_above s1 h1
      · intro hle
        rcases Nat.lt_or_ge (placeOf us l n) p with y | y
        · have hnt := next_thr g n0 (show placeOf us l n + 1 < us.length by omega)
          rcases Nat.lt_or_ge (placeOf us l n + 1) p with y2 | y2
          · exfalso
            -- the threshold of p - 1 is not reached
            have hp1 : p - 1 < us.length := by omega
            obtain ⟨⟨j, hj0, hj⟩, _⟩ := thr_steps g (show 1 ≤ p - 1 by omega) hp1
            have hn1 : n < (thrsOf us l).getD (p - 1) 0 := by
              rw [thr_eq (by omega) hp1]
              rcases Int.lt_or_le n (szOf us (p - 1) * l) with w | w
              · exact w
              · have := (reached (n := n) g.u g.l1 n0 hp1).mp (.inr w)
                omega
            rw [hj] at hn1
            have hb := rnd_below (s := s) s1 hn1
            have hlt : (thrsOf us l).getD (p - 1) 0 < (thrsOf us l).getD p 0 := by
              rw [thr_eq (by omega) hp1, thr_eq z hp]
              have hup := sz_up g.u (i := p - 1) (by omega)
              rw [show p - 1 + 1 = p by omega] at hup
              exact Int.mul_lt_mul_of_pos_right hup (by have := g.l1; omega)
            rw [hj, hk] at hlt
            have := Int.lt_of_mul_lt_mul_right hlt (by omega)
            omega
          · have ep : p = placeOf us l n + 1 := by omega
            have ec : isCar us d true l (placeOf us l n) (rnd n ((stepsOf us d).getD (placeOf us l n) 0) s) = true := by
              unfold isCar
              rw [Bool.true_and, Bool.and_eq_true]
              refine ⟨decide_eq_true (by omega), decide_eq_true ?_⟩
              rw [← ep, hk, show placeOf us l n = p - 1 by omega]
              exact Int.mul_le_mul_of_nonneg_right hle (by omega)
            unfold placedM
            rw [ec, if_pos rfl]
            show p ≤ placeOf us l n + 1
            omega
        · omega
theorem max2_le {x y n : Int} : max2 x y ≤ n ↔ x ≤ n ∧ y ≤ n := by
  unfold max2
  split <;> omega
theorem le_min2 {x y n : Int} : n ≤ min2 x y ↔ n ≤ x ∧ n ≤ y := by
  unfold min2
  split <;> omega
/-- the numbers of a figure are those from its low end to its high end -/
theorem range_iff {us : List (Str × Int)} {d : Nat} {s : Str} {c : Bool} {l n : Int} (g : Good us d s l) (n0 : 0 ≤ n) {p : Nat} {m : Int} (hp : p < us.length) (m0 : 0 ≤ m) :
    placedM us d s c l n = (p, m) ↔ lowM us d s c l p m ≤ n ∧ n ≤ highM us d s c l p m := by
  have h1 := place_ge (c := c) g n0 hp
  obtain ⟨_, s1, _⟩ := steps_ok g hp
  have r1 := rnd_ge (n := n) (m := m) (s := s) g.srt (step_even g hp) s1 n0 m0
  have r2 := rnd_ge (n := n) (m := m + 1) (s := s) g.srt (step_even g hp) s1 n0 (by omega)
  have hlt := (placedM_ok (c := c) g n0).1
  have es := placed_snd us d s c l n
  unfold lowM highM
  rw [max2_le]
  constructor
  · intro e
    rw [e] at h1 es
    have h1' := h1.mp (Nat.le_refl _)
    have es' : m = rnd n ((stepsOf us d).getD p 0) s := es
    refine ⟨⟨r1.mp (by omega), h1'⟩, ?_⟩
    have hr : ¬ firstR (m + 1) ((stepsOf us d).getD p 0) s ≤ n := fun y => by have := r2.mpr y; omega
    split
    · rename_i hp1
      have h2 := place_ge (c := c) g n0 hp1
      rw [e] at h2
      have : ¬ startM us d s c l (p + 1) ≤ n := fun y => by have : p + 1 ≤ p := h2.mpr y; omega
      rw [le_min2]
      omega
    · omega
  · rintro ⟨⟨h3, h4⟩, h5⟩
    have ge := h1.mpr h4
    have h6 : n < firstR (m + 1) ((stepsOf us d).getD p 0) s ∧ (p + 1 < us.length → n < startM us d s c l (p + 1)) := by
      split at h5
      · rw [le_min2] at h5
        exact ⟨by omega, fun _ => by omega⟩
      · rename_i hc
        exact ⟨by omega, fun y => absurd y hc⟩
    have le : (placedM us d s c l n).1 ≤ p := by
      rcases Nat.lt_or_ge p (placedM us d s c l n).1 with y | y
      · exfalso
        have hp1 : p + 1 < us.length := by omega
        have h2 := (place_ge (c := c) g n0 hp1).mp y
        have := h6.2 hp1
        omega
      · exact y
    have e1 : (placedM us d s c l n).1 = p := by omega
    rw [e1] at es
    have e2 : (placedM us d s c l n).2 = m := by
      have a1 := r1.mpr h3
      have a2 : ¬ m + 1 ≤ rnd n ((stepsOf us d).getD p 0) s := fun y => by have := r2.mp y; omega
      omega
    rw [← e1, ← e2]
theorem start_nn {us : List (Str × Int)} {d : Nat} {s : Str} {c : Bool} {l : Int} (g : Good us d s l) {p : Nat} (hp : p < us.length) : 0 ≤ startM us d s c l p := by
  have ht : 0 ≤ (thrsOf us l).getD p 0 := by
    rcases Nat.eq_zero_or_pos p with z | z
    · subst z
      exact Int.le_refl 0
    · rw [thr_eq z hp]
      have := (last_sz_pos g.u hp).1
      have := g.l1
      exact Int.mul_nonneg (by omega) (by omega)
  unfold startM
  split
  · exact ht
  · have hs := (steps_ok g (show p - 1 < us.length by omega)).2.1
    exact firstR_nn hs (Int.ediv_nonneg ht (by omega))
theorem low_nn {us : List (Str × Int)} {d : Nat} {s : Str} {c : Bool} {l : Int} (g : Good us d s l) {p : Nat} (hp : p < us.length) (m : Int) : 0 ≤ lowM us d s c l p m := by
  have := start_nn (c := c) g hp
  unfold lowM max2
  split <;> omega
end My

namespace My
open PySem PySem.Spec PyProof.Rows L2
/-! ### figures are told apart -/
theorem name_at {us : List (Str × Int)} {p : Nat} (hp : p < us.length) : (us.getD p ("", 0)).1 = us[p].1 := by
  rw [List.getD_eq_getElem?_getD, List.getElem?_eq_getElem hp]
  rfl
theorem writ_ahead {us : List (Str × Int)} {d p : Nat} {m : Int} (g : GoodUs us) (hp : p < us.length) (hm : 0 ≤ m) : (Txt.rstripChars (writ us d p m) letters).cps.toList = ahead d p m := by
  have hu : us[p]? = some us[p] := List.getElem?_eq_getElem hp
  have gn := (g.each p _ hu).1
  have wc := writ_codes (us := us) (d := d) (p := p) (m := m)
  rw [name_at hp] at wc
  refine rstrip_name wc (fun c hc => ?_) (ahead_last hm)
  have := gn.2.2.2
  rw [List.all_eq_true] at this
  exact this c hc
theorem writ_inj {us : List (Str × Int)} {d p p' : Nat} {m m' : Int} (g : GoodUs us) (hd : d ≤ 3) (hp : p < us.length) (hp' : p' < us.length) (hm : 0 ≤ m) (hm' : 0 ≤ m') (h1 : m < 10 ^ 40) (h2 : m' < 10 ^ 40) (e : writ us d p m = writ us d p' m') : p = p' ∧ m = m' := by
  have ea : ahead d p m = ahead d p' m' := by rw [← writ_ahead g hp hm, ← writ_ahead g hp' hm', e]
  have wc := writ_codes (us := us) (d := d) (p := p) (m := m)
  have wc' := writ_codes (us := us) (d := d) (p := p') (m := m')
  rw [e, ea, wc'] at wc
  have en : (us.getD p' ("", 0)).1.cps.toList = (us.getD p ("", 0)).1.cps.toList := List.append_cancel_left wc
  rw [name_at hp, name_at hp'] at en
  have en2 : us[p'].1 = us[p].1 := str_ext en
  constructor
  · rcases Nat.lt_trichotomy p p' with y | y | y
    · exact absurd en2.symm (names_apart g y (List.getElem?_eq_getElem hp) (List.getElem?_eq_getElem hp'))
    · exact y
    · exact absurd en2 (names_apart g y (List.getElem?_eq_getElem hp') (List.getElem?_eq_getElem hp))
  · obtain ⟨n, ef, hn⟩ := ahead_filter (d := d) (p := p) hm
    obtain ⟨n', ef', hn'⟩ := ahead_filter (d := d) (p := p') hm'
    rw [ea, ef'] at ef
    have l1 := dg_small (m := m) (by omega)
    have l2 := dg_small (m := m') (by omega)
    have b1 := int_back (t := ⟨(List.replicate n 48 ++ dg m).toArray⟩) (n := n) hm rfl (by
      rw [str_len]
      show (List.replicate n 48 ++ dg m).length ≤ 4300
      rw [List.length_append, List.length_replicate]
      omega)
    have b2 := int_back (t := ⟨(List.replicate n 48 ++ dg m).toArray⟩) (n := n') hm' ef.symm (by
      rw [str_len]
      show (List.replicate n 48 ++ dg m).length ≤ 4300
      rw [List.length_append, List.length_replicate]
      omega)
    rw [b1] at b2
    exact Option.some.inj b2
/-! ### range_of, next_figure, previous_figure -/
def spRangeOf (K : PySem.W.Frag) (C : Addr) : Sp := fun vs H Q _ => ∃ (a : Addr) (us : List (Str × Int)) (d : Nat) (s : Str) (c : Bool) (l : Int) (p : Nat) (m : Int), vs = [.ref a, .str (writ us d p m)] ∧ LadAt K C H a us d s c l ∧ Good us d s l ∧ p < us.length ∧ 0 ≤ m ∧ m < 10 ^ 24 ∧
  (highM us d s c l p m < lowM us d s c l p m → ∀ H', Same H H' → Q .non H') ∧ (lowM us d s c l p m ≤ highM us d s c l p m → ∀ (r : Addr) (H' : Hp), Same H H' → SqT K H' r [.int (lowM us d s c l p m), .int (highM us d s c l p m)] → Q (.ref r) H')
/-- of a figure that is shown -/
def spRShown (K : PySem.W.Frag) (C : Addr) : Sp := fun vs H Q _ => ∃ (a : Addr) (us : List (Str × Int)) (d : Nat) (s : Str) (c : Bool) (l : Int) (p : Nat) (m : Int), vs = [.ref a, .str (writ us d p m)] ∧ LadAt K C H a us d s c l ∧ Good us d s l ∧ p < us.length ∧ 0 ≤ m ∧ m < 10 ^ 24 ∧
  lowM us d s c l p m ≤ highM us d s c l p m ∧ ∀ (r : Addr) (H' : Hp), Same H H' → SqT K H' r [.int (lowM us d s c l p m), .int (highM us d s c l p m)] → Q (.ref r) H'
section
variable {P : Program} {w : World} {K : PySem.W.Frag} {mg : Str → Option Value} {base : Heap}
end
end My

namespace My
open PySem PySem.Spec PyProof.Rows L2
theorem firstR_hi {m st : Int} {s : Str} (h0 : 0 < st) : firstR m st s ≤ m * st := by
  have h3 : 0 ≤ st / 2 := by omega
  unfold firstR
  split
  · exact Int.le_refl _
  · rename_i c
    split
    · rw [Int.sub_mul, Int.one_mul]
      omega
    · have h4 : st ≠ 1 := fun y => c (.inr (.inl y))
      split <;> omega
theorem firstR_lo {m st : Int} {s : Str} (h0 : 0 < st) : m * st - st ≤ firstR m st s := by
  have h3 : st / 2 ≤ st := Int.ediv_le_self _ (by omega)
  unfold firstR
  split
  · omega
  · split
    · rw [Int.sub_mul, Int.one_mul]
      omega
    · split <;> omega
theorem ends_width {us : List (Str × Int)} {d : Nat} {s : Str} {c : Bool} {l : Int} (g : Good us d s l) {p : Nat} (hp : p < us.length) (m : Int) : highM us d s c l p m + 1 - lowM us d s c l p m ≤ 2000000000000000000 := by
  obtain ⟨_, s1, s2⟩ := steps_ok g hp
  have h1 := firstR_hi (m := m + 1) (s := s) s1
  have h2 := firstR_lo (m := m) (s := s) s1
  rw [Int.add_mul, Int.one_mul] at h1
  have h3 : highM us d s c l p m ≤ firstR (m + 1) ((stepsOf us d).getD p 0) s - 1 := by
    unfold highM
    split
    · unfold min2
      split <;> omega
    · exact Int.le_refl _
  have h4 : firstR m ((stepsOf us d).getD p 0) s ≤ lowM us d s c l p m := by
    unfold lowM max2
    split <;> omega
  omega
theorem in_range {us : List (Str × Int)} {d : Nat} {s : Str} {c : Bool} {l n : Int} (g : Good us d s l) (n0 : 0 ≤ n) {p : Nat} {m : Int} (e : placedM us d s c l n = (p, m)) : lowM us d s c l p m ≤ n ∧ n ≤ highM us d s c l p m := by
  obtain ⟨k1, k2, k3⟩ := placedM_ok (c := c) g n0
  rw [e] at k1 k2
  exact (range_iff g n0 k1 k2).mp e
theorem shown_in {us : List (Str × Int)} {d : Nat} {s : Str} {c : Bool} {l x : Int} (g : Good us d s l) (x0 : 0 ≤ x) {p : Nat} {m : Int} (hp : p < us.length) (hm : 0 ≤ m) (h1 : lowM us d s c l p m ≤ x) (h2 : x ≤ highM us d s c l p m) : shown us d s c l x = writ us d p m := by
  have e := (range_iff g x0 hp hm).mpr ⟨h1, h2⟩
  unfold shown
  rw [e]
theorem shown_is {us : List (Str × Int)} {d : Nat} {s : Str} {c : Bool} {l x : Int} (g : Good us d s l) (x0 : 0 ≤ x) (x1 : x ≤ 1000000000000000000000000000000) {p : Nat} {m : Int} (hp : p < us.length) (hm : 0 ≤ m) (hm2 : m < 10 ^ 40) (e : shown us d s c l x = writ us d p m) : lowM us d s c l p m ≤ x ∧ x ≤ highM us d s c l p m := by
  obtain ⟨k1, k2, k3⟩ := placedM_ok (c := c) g x0
  unfold shown at e
  obtain ⟨e1, e2⟩ := writ_inj g.u g.d3 k1 hp k2 hm (by omega) hm2 e
  exact (range_iff g x0 hp hm).mp (by rw [← e1, ← e2])
theorem shown_out {us : List (Str × Int)} {d : Nat} {s : Str} {c : Bool} {l x : Int} (g : Good us d s l) (x0 : 0 ≤ x) (x1 : x ≤ 1000000000000000000000000000000) {p : Nat} {m : Int} (hp : p < us.length) (hm : 0 ≤ m) (hm2 : m < 10 ^ 40) (h : x < lowM us d s c l p m ∨ highM us d s c l p m < x) : shown us d s c l x ≠ writ us d p m := fun e => by
  have := shown_is g x0 x1 hp hm hm2 e
  omega
end My

namespace My
open PySem PySem.Spec PyProof.Rows L2
/-! ### places of figures -/
theorem firstR_strict {m st : Int} {s : Str} (h0 : 0 < st) (h2 : st = 1 ∨ st % 2 = 0) (m0 : 0 ≤ m) : firstR m st s < firstR (m + 1) st s := by
  have e : (m + 1) * st = m * st + st := by rw [Int.add_mul, Int.one_mul]
  have e' : (m + 1 - 1) * st = m * st := by rw [Int.add_sub_cancel]
  rcases h2 with h2 | h2
  · subst h2
    rw [firstR_one, firstR_one]
    omega
  · have hh : st = 2 * (st / 2) := by omega
    have z : m = 0 → m * st = 0 := fun y => by rw [y, Int.zero_mul]
    unfold firstR
    rw [e, e']
    have e3 : (m - 1) * st = m * st - st := by rw [Int.sub_mul, Int.one_mul]
    rw [e3]
    generalize m * st = X at *
    split <;> rename_i c1
    · have c1' : m = 0 ∨ s = "down" := by
        rcases c1 with y | y | y
        · exact .inl y
        · omega
        · exact .inr y
      split <;> rename_i c2
      · omega
      · rcases c1' with y | y
        · have := z y
          (repeat' split) <;> omega
        · exact absurd (.inr (.inr y)) c2
    · have c2 : ¬ (m + 1 = 0 ∨ st = 1 ∨ s = "down") := fun y => y.elim (fun y => by omega) (fun y => c1 (.inr y))
      rw [if_neg c2]
      (repeat' split) <;> omega
theorem rnd_mono {n n' st : Int} {s : Str} (hs : s ∈ sorts) (h2 : st = 1 ∨ st % 2 = 0) (h0 : 0 < st) (n0 : 0 ≤ n) (h : n ≤ n') : rnd n st s ≤ rnd n' st s := by
  have r0 := rnd_nn (s := s) n0 h0
  have h1 := (rnd_ge hs h2 h0 n0 r0).mp (Int.le_refl _)
  exact (rnd_ge hs h2 h0 (by omega) r0).mpr (by omega)
theorem rnd_succ {n st : Int} {s : Str} (hs : s ∈ sorts) (h2 : st = 1 ∨ st % 2 = 0) (h0 : 0 < st) (n0 : 0 ≤ n) : rnd n st s ≤ rnd (n + 1) st s ∧ rnd (n + 1) st s ≤ rnd n st s + 1 := by
  refine ⟨rnd_mono hs h2 h0 n0 (by omega), ?_⟩
  have r0 := rnd_nn (s := s) n0 h0
  rcases Int.lt_or_le (rnd n st s + 1) (rnd (n + 1) st s) with y | y
  · exfalso
    have h1 := (rnd_ge (m := rnd n st s + 1 + 1) hs h2 h0 (show 0 ≤ n + 1 by omega) (by omega)).mp (by omega)
    have h3 := firstR_strict (m := rnd n st s + 1) (s := s) h0 h2 (by omega)
    have h4 := (rnd_ge (m := rnd n st s + 1) hs h2 h0 n0 (by omega)).mpr (by omega)
    omega
  · exact y
section
variable {us : List (Str × Int)} {d : Nat} {s : Str} {c : Bool} {l : Int}
/-- the first mark and the last mark of a unit -/
def fmM (us : List (Str × Int)) (d : Nat) (l : Int) (p : Nat) : Int := (thrsOf us l).getD p 0 / (stepsOf us d).getD p 0
def lmM (us : List (Str × Int)) (d : Nat) (s : Str) (c : Bool) (l : Int) (p : Nat) : Int := rnd (startM us d s c l (p + 1) - 1) ((stepsOf us d).getD p 0) s
def FU (us : List (Str × Int)) (d : Nat) (s : Str) (c : Bool) (l : Int) : Nat → Int
  | 0 => 0
  | p + 1 => FU us d s c l p + (lmM us d s c l p - fmM us d l p + 1)
def idxM (us : List (Str × Int)) (d : Nat) (s : Str) (c : Bool) (l : Int) (pm : Nat × Int) : Int := FU us d s c l pm.1 + pm.2 - fmM us d l pm.1
def fbM (us : List (Str × Int)) (d : Nat) (s : Str) (c : Bool) (l n : Int) : Int := idxM us d s c l (placedM us d s c l n)
theorem thr_fm (g : Good us d s l) {p : Nat} (hp : p < us.length) : (thrsOf us l).getD p 0 = fmM us d l p * (stepsOf us d).getD p 0 ∧ 0 ≤ fmM us d l p := by
  unfold fmM
  obtain ⟨_, s1, _⟩ := steps_ok g hp
  rcases Nat.eq_zero_or_pos p with z | z
  · subst z
    exact ⟨rfl, by show (0 : Int) ≤ 0 / 1; decide⟩
  · obtain ⟨⟨k, hk0, hk⟩, _⟩ := thr_steps g z hp
    rw [hk, Int.mul_ediv_cancel _ (by omega)]
    exact ⟨rfl, hk0⟩
theorem fm_le (g : Good us d s l) {p : Nat} (hp : p < us.length) : fmM us d l p ≤ 1000000 := by
  rcases Nat.eq_zero_or_pos p with z | z
  · subst z
    show (0 : Int) / 1 ≤ _
    decide
  · unfold fmM
    obtain ⟨_, s1, _⟩ := steps_ok g hp
    rw [thr_eq z hp, sz_step g z hp, Int.mul_assoc, Int.mul_ediv_cancel_left _ (by omega)]
    have h1 := pow_hi g.d3
    have h2 := g.l2
    have h3 := g.l1
    have h4 := pow_lo d
    have : (10 ^ d * l : Int) ≤ 1000 * 1000 := Int.mul_le_mul h1 h2 (by omega) (by decide)
    omega
/-- a unit begins with the mark of its threshold -/
theorem start_le_thr (g : Good us d s l) {p : Nat} (hp : p < us.length) : startM us d s c l p ≤ (thrsOf us l).getD p 0 := by
  unfold startM
  split
  · exact Int.le_refl _
  · rename_i hc
    have z : 1 ≤ p := by
      rcases Nat.eq_zero_or_pos p with y | y
      · exact absurd (.inl y) hc
      · exact y
    obtain ⟨_, s1, _⟩ := steps_ok g (show p - 1 < us.length by omega)
    obtain ⟨_, k, hk0, hk⟩ := thr_steps g z hp
    rw [hk, Int.mul_ediv_cancel _ (by omega)]
    exact firstR_hi s1
theorem start_mark (g : Good us d s l) {p : Nat} (hp : p < us.length) : rnd (startM us d s c l p) ((stepsOf us d).getD p 0) s = fmM us d l p := by
  obtain ⟨_, s1, _⟩ := steps_ok g hp
  obtain ⟨ht, hf0⟩ := thr_fm g hp
  have h2 := step_even g hp
  have hle := start_le_thr (c := c) g hp
  have hnn := start_nn (c := c) g hp
  have a1 : ¬ fmM us d l p + 1 ≤ rnd (startM us d s c l p) ((stepsOf us d).getD p 0) s := fun y => by
    have h3 := (rnd_ge g.srt h2 s1 hnn (by omega)).mp y
    have h4 := firstR_strict (s := s) s1 h2 hf0
    have h5 := firstR_lo (m := fmM us d l p + 1) (s := s) s1
    rw [Int.add_mul, Int.one_mul] at h5
    rcases h2 with e1 | e1
    · rw [e1, firstR_one] at h3
      rw [e1, Int.mul_one] at ht
      omega
    · have h6 : fmM us d l p * (stepsOf us d).getD p 0 < firstR (fmM us d l p + 1) ((stepsOf us d).getD p 0) s := by
        have e3 : (fmM us d l p + 1) * (stepsOf us d).getD p 0 = fmM us d l p * (stepsOf us d).getD p 0 + (stepsOf us d).getD p 0 := by rw [Int.add_mul, Int.one_mul]
        have e4 : (fmM us d l p + 1 - 1) * (stepsOf us d).getD p 0 = fmM us d l p * (stepsOf us d).getD p 0 := by rw [Int.add_sub_cancel]
        unfold firstR
        rw [e3, e4]
        split
        · omega
        · split
          · omega
          · split <;> omega
      omega
  have a2 : fmM us d l p ≤ rnd (startM us d s c l p) ((stepsOf us d).getD p 0) s := by
    refine (rnd_ge g.srt h2 s1 hnn hf0).mpr ?_
    unfold startM
    split
    · rw [ht]
      exact firstR_hi s1
    · rename_i hc
      have z : 1 ≤ p := by
        rcases Nat.eq_zero_or_pos p with y | y
        · exact absurd (.inl y) hc
        · exact y
      have hp' : p - 1 < us.length := by omega
      obtain ⟨_, t1, _⟩ := steps_ok g hp'
      obtain ⟨_, k, hk0, hk⟩ := thr_steps g z hp
      have hup := step_up g (p := p - 1) (by omega)
      rw [show p - 1 + 1 = p by omega] at hup
      have he' := step_even g hp'
      rw [hk, Int.mul_ediv_cancel _ (by omega)]
      rw [hk] at ht
      rcases Nat.eq_zero_or_pos (p - 1) with y | y
      · rw [y, step_zero, firstR_one]
        rw [y, step_zero, Int.mul_one] at ht
        rw [ht]
        exact firstR_hi s1
      · -- both steps are even
        have hlt : (stepsOf us d).getD (p - 1) 0 < (stepsOf us d).getD p 0 := by
          have hz0 := sz_step g y hp'
          have hz1 := sz_step g z hp
          have hupz := sz_up g.u (i := p - 1) (by omega)
          rw [show p - 1 + 1 = p by omega, hz0, hz1] at hupz
          exact Int.lt_of_mul_lt_mul_right hupz (Int.le_of_lt (pow_lo d))
        have ev : ∀ {q : Nat}, 1 ≤ q → q < us.length → (stepsOf us d).getD q 0 % 2 = 0 := fun {q} q1 q2 => by
          rcases step_even g q2 with w | w
          · exfalso
            have hh := step_at (d := d) q1 q2
            obtain ⟨i, rfl⟩ : ∃ i, q = i + 1 := ⟨q - 1, by omega⟩
            have hu : us[i + 1]? = some us[i + 1] := List.getElem?_eq_getElem q2
            have hm : us[i + 1] ∈ us.drop 1 := List.mem_of_getElem? (i := i) (by rw [List.getElem?_drop, Nat.add_comm 1 i]; exact hu)
            have hz := g.div _ hm
            obtain ⟨r, hr⟩ := Int.dvd_of_emod_eq_zero hz
            have hpw := pow_lo d
            rw [szOf_at hu, hr, show (2 * 10 ^ d * r : Int) = 2 * r * 10 ^ d by rw [Int.mul_assoc, Int.mul_assoc, Int.mul_comm (10 ^ d) r], Int.mul_ediv_cancel _ (by omega)] at hh
            omega
          · exact w
        have e1 := ev y hp'
        have e2 := ev z hp
        generalize (stepsOf us d).getD (p - 1) 0 = a at *
        generalize (stepsOf us d).getD p 0 = b at *
        generalize fmM us d l p = f at *
        have ea : a = 2 * (a / 2) := by omega
        have eb : b = 2 * (b / 2) := by omega
        have fz : f = 0 → f * b = 0 := fun w => by rw [w, Int.zero_mul]
        have kz : k = 0 → k * a = 0 := fun w => by rw [w, Int.zero_mul]
        have f3 : (f - 1) * b = f * b - b := by rw [Int.sub_mul, Int.one_mul]
        have k3 : (k - 1) * a = k * a - a := by rw [Int.sub_mul, Int.one_mul]
        have fp : 0 < f → b ≤ f * b := fun w => by
          have := Int.mul_le_mul_of_nonneg_right (c := b) (show 1 ≤ f by omega) (by omega)
          omega
        have kp : 0 < k → a ≤ k * a := fun w => by
          have := Int.mul_le_mul_of_nonneg_right (c := a) (show 1 ≤ k by omega) (by omega)
          omega
        unfold firstR
        rw [f3, k3]
        generalize f * b = X at *
        generalize k * a = Y at *
        have hf : f = 0 ∨ 0 < f := by omega
        have hk' : k = 0 ∨ 0 < k := by omega
        split <;> rename_i c1
        · split <;> rename_i c2
          · omega
          · split
            · have : 0 < k := by
                rcases hk' with w | w
                · exact absurd (.inl w) c2
                · exact w
              have := kp this
              rcases c1 with w | w | w
              · have := fz w
                omega
              · omega
              · exact absurd (.inr (.inr w)) c2
            · have : 0 < k := by
                rcases hk' with w | w
                · exact absurd (.inl w) c2
                · exact w
              have := kp this
              rcases c1 with w | w | w
              · have := fz w
                omega
              · omega
              · exact absurd (.inr (.inr w)) c2
        · have hfp : 0 < f := by
            rcases hf with w | w
            · exact absurd (.inl w) c1
            · exact w
          have hb1 := fp hfp
          have c2 : ¬ (k = 0 ∨ a = 1 ∨ s = "down") := fun w => w.elim (fun w => by have := kz w; omega) (fun w => w.elim (fun w => by omega) (fun w => c1 (.inr (.inr w))))
          rw [if_neg c2]
          (repeat' split) <;> omega
  omega
theorem start_strict (g : Good us d s l) {p : Nat} (hp : p + 1 < us.length) : startM us d s c l p < startM us d s c l (p + 1) := by
  have hnn := start_nn (c := c) g hp
  rcases Int.lt_or_le (startM us d s c l p) (startM us d s c l (p + 1)) with y | y
  · exact y
  · exfalso
    have hp0 : p < us.length := by omega
    have h0 := start_nn (c := c) g hp0
    -- the start of the next unit is shown with it, and this one too
    have h1 := start_le_thr (c := c) g hp0
    have h2 : (thrsOf us l).getD p 0 < startM us d s c l (p + 1) := by
      unfold startM
      split
      · rcases Nat.eq_zero_or_pos p with z | z
        · subst z
          rw [thr_eq (by omega) hp]
          have := (last_sz_pos g.u hp).1
          have := g.l1
          show (0 : Int) < szOf us (0 + 1) * l
          exact Int.mul_pos (by omega) (by omega)
        · rw [thr_eq z hp0, thr_eq (by omega) hp]
          exact Int.mul_lt_mul_of_pos_right (sz_up g.u hp) (by have := g.l1; omega)
      · rw [Nat.add_sub_cancel]
        obtain ⟨_, s1, _⟩ := steps_ok g hp0
        obtain ⟨ht, hf0⟩ := thr_fm g hp0
        obtain ⟨_, k, hk0, hk⟩ := thr_steps g (show 1 ≤ p + 1 by omega) hp
        rw [Nat.add_sub_cancel] at hk
        rw [hk, Int.mul_ediv_cancel _ (by omega)]
        -- k is greater than the first mark
        have hlt : fmM us d l p < k := by
          have h3 : (thrsOf us l).getD p 0 < (thrsOf us l).getD (p + 1) 0 := by
            rcases Nat.eq_zero_or_pos p with z | z
            · subst z
              rw [thr_eq (by omega) hp]
              have := (last_sz_pos g.u hp).1
              have := g.l1
              show (0 : Int) < szOf us (0 + 1) * l
              exact Int.mul_pos (by omega) (by omega)
            · rw [thr_eq z hp0, thr_eq (by omega) hp]
              exact Int.mul_lt_mul_of_pos_right (sz_up g.u hp) (by have := g.l1; omega)
          rw [ht, hk] at h3
          exact Int.lt_of_mul_lt_mul_right h3 (by omega)
        have he := step_even g hp0
        have h4 : firstR (fmM us d l p + 1) ((stepsOf us d).getD p 0) s ≤ firstR k ((stepsOf us d).getD p 0) s := by
          have hkk : ∀ (j : Nat), firstR (fmM us d l p + 1) ((stepsOf us d).getD p 0) s ≤ firstR (fmM us d l p + 1 + (j : Int)) ((stepsOf us d).getD p 0) s := by
            intro j
            induction j with
            | zero => rw [show fmM us d l p + 1 + ((0 : Nat) : Int) = fmM us d l p + 1 by omega]; exact Int.le_refl _
            | succ j ih =>
              have := firstR_strict (m := fmM us d l p + 1 + (j : Int)) (s := s) s1 he (by omega)
              rw [show fmM us d l p + 1 + ((j + 1 : Nat) : Int) = fmM us d l p + 1 + (j : Int) + 1 by omega]
              omega
          have := hkk (k - (fmM us d l p + 1)).toNat
          rw [show fmM us d l p + 1 + ((k - (fmM us d l p + 1)).toNat : Int) = k by omega] at this
          exact this
        have h5 : fmM us d l p * (stepsOf us d).getD p 0 < firstR (fmM us d l p + 1) ((stepsOf us d).getD p 0) s := by
          rcases he with e1 | e1
          · rw [e1, firstR_one]
            omega
          · have e3 : (fmM us d l p + 1) * (stepsOf us d).getD p 0 = fmM us d l p * (stepsOf us d).getD p 0 + (stepsOf us d).getD p 0 := by rw [Int.add_mul, Int.one_mul]
            have e4 : (fmM us d l p + 1 - 1) * (stepsOf us d).getD p 0 = fmM us d l p * (stepsOf us d).getD p 0 := by rw [Int.add_sub_cancel]
            unfold firstR
            rw [e3, e4]
            split
            · omega
            · split
              · omega
              · split <;> omega
        omega
    omega
end
end My

namespace My
open PySem PySem.Spec PyProof.Rows L2
section
variable {us : List (Str × Int)} {d : Nat} {s : Str} {c : Bool} {l : Int}
theorem place_mono (g : Good us d s l) {n n' : Int} (n0 : 0 ≤ n) (h : n ≤ n') : (placedM us d s c l n).1 ≤ (placedM us d s c l n').1 := by
  have hlt := (placedM_ok (c := c) g n0).1
  have h1 := (place_ge (c := c) g n0 hlt).mp (Nat.le_refl _)
  exact (place_ge (c := c) g (by omega) hlt).mpr (by omega)
/-- where a unit begins -/
theorem placed_start (g : Good us d s l) {p : Nat} (hp : p < us.length) : placedM us d s c l (startM us d s c l p) = (p, fmM us d l p) := by
  have h0 := start_nn (c := c) g hp
  have h1 := (place_ge (c := c) g h0 hp).mpr (Int.le_refl _)
  have h2 : (placedM us d s c l (startM us d s c l p)).1 ≤ p := by
    have hlt := (placedM_ok (c := c) g h0).1
    rcases Nat.lt_or_ge p (placedM us d s c l (startM us d s c l p)).1 with y | y
    · exfalso
      have hp1 : p + 1 < us.length := by omega
      have h3 := (place_ge (c := c) g h0 hp1).mp y
      have := start_strict (c := c) g hp1
      omega
    · exact y
  have e1 : (placedM us d s c l (startM us d s c l p)).1 = p := by omega
  have e2 := placed_snd us d s c l (startM us d s c l p)
  rw [e1, start_mark g hp] at e2
  exact Prod.ext e1 e2
/-- where a unit ends -/
theorem placed_end (g : Good us d s l) {p : Nat} (hp : p + 1 < us.length) : placedM us d s c l (startM us d s c l (p + 1) - 1) = (p, lmM us d s c l p) := by
  have hs := start_strict (c := c) g hp
  have hp0 : p < us.length := by omega
  have h0 := start_nn (c := c) g hp0
  have h1 := (place_ge (c := c) (n := startM us d s c l (p + 1) - 1) g (by omega) hp0).mpr (by omega)
  have h2 : (placedM us d s c l (startM us d s c l (p + 1) - 1)).1 ≤ p := by
    rcases Nat.lt_or_ge p (placedM us d s c l (startM us d s c l (p + 1) - 1)).1 with y | y
    · exfalso
      have h3 := (place_ge (c := c) (n := startM us d s c l (p + 1) - 1) g (by omega) hp).mp y
      omega
    · exact y
  have e1 : (placedM us d s c l (startM us d s c l (p + 1) - 1)).1 = p := by omega
  have e2 := placed_snd us d s c l (startM us d s c l (p + 1) - 1)
  rw [e1] at e2
  have e3 : (placedM us d s c l (startM us d s c l (p + 1) - 1)).2 = lmM us d s c l p := e2
  exact Prod.ext e1 e3
theorem lm_ge (g : Good us d s l) {p : Nat} (hp : p + 1 < us.length) : fmM us d l p ≤ lmM us d s c l p := by
  have hp0 : p < us.length := by omega
  have hs := start_strict (c := c) g hp
  have h0 := start_nn (c := c) g hp0
  obtain ⟨_, s1, _⟩ := steps_ok g hp0
  rw [← start_mark (c := c) g hp0]
  unfold lmM
  exact rnd_mono g.srt (step_even g hp0) s1 h0 (by omega)
/-- one number further: the same figure, or the next place -/
theorem fb_succ (g : Good us d s l) {n : Int} (n0 : 0 ≤ n) : (placedM us d s c l (n + 1) = placedM us d s c l n) ∨ (placedM us d s c l (n + 1) ≠ placedM us d s c l n ∧ fbM us d s c l (n + 1) = fbM us d s c l n + 1) := by
  have hlt := (placedM_ok (c := c) g n0).1
  have hlt' := (placedM_ok (c := c) (n := n + 1) g (by omega)).1
  have hm := place_mono (c := c) g n0 (show n ≤ n + 1 by omega)
  have es := placed_snd us d s c l n
  have es' := placed_snd us d s c l (n + 1)
  rcases Nat.lt_or_ge (placedM us d s c l n).1 (placedM us d s c l (n + 1)).1 with y | y
  · right
    -- a new unit begins at n + 1
    have hp1 : (placedM us d s c l n).1 + 1 < us.length := by omega
    have h1 : n < startM us d s c l ((placedM us d s c l n).1 + 1) := by
      rcases Int.lt_or_le n (startM us d s c l ((placedM us d s c l n).1 + 1)) with w | w
      · exact w
      · have := (place_ge (c := c) g n0 hp1).mpr w
        omega
    have h2 := (place_ge (c := c) (n := n + 1) g (by omega) hp1).mp (by omega)
    have en : n + 1 = startM us d s c l ((placedM us d s c l n).1 + 1) := by omega
    have e1 := placed_start (c := c) g hp1
    have e2 := placed_end (c := c) g hp1
    rw [← en] at e1
    rw [← en, Int.add_sub_cancel] at e2
    refine ⟨fun w => ?_, ?_⟩
    · rw [w] at y
      omega
    · unfold fbM
      rw [e1]
      generalize (placedM us d s c l n).1 = p at *
      rw [e2]
      show FU us d s c l p + (lmM us d s c l p - fmM us d l p + 1) + fmM us d l (p + 1) - fmM us d l (p + 1) = FU us d s c l p + lmM us d s c l p - fmM us d l p + 1
      omega
  · have ep : (placedM us d s c l (n + 1)).1 = (placedM us d s c l n).1 := by omega
    obtain ⟨_, s1, _⟩ := steps_ok g hlt
    obtain ⟨r1, r2⟩ := rnd_succ (s := s) g.srt (step_even g hlt) s1 n0
    rw [ep] at es'
    rw [← es, ← es'] at r1 r2
    rcases Int.lt_or_le (placedM us d s c l n).2 (placedM us d s c l (n + 1)).2 with w | w
    · right
      refine ⟨fun v => ?_, ?_⟩
      · rw [v] at w
        omega
      · unfold fbM idxM
        rw [ep]
        omega
    · left
      exact Prod.ext ep (by omega)
theorem fb_mono (g : Good us d s l) {n : Int} (n0 : 0 ≤ n) : ∀ k : Nat, fbM us d s c l n ≤ fbM us d s c l (n + (k : Int)) := by
  intro k
  induction k with
  | zero => rw [show n + ((0 : Nat) : Int) = n by omega]; exact Int.le_refl _
  | succ k ih =>
    rw [show n + ((k + 1 : Nat) : Int) = n + (k : Int) + 1 by omega]
    rcases fb_succ (c := c) (n := n + (k : Int)) g (by omega) with e | ⟨_, e⟩
    · have e2 : fbM us d s c l (n + (k : Int) + 1) = fbM us d s c l (n + (k : Int)) := by unfold fbM; rw [e]
      omega
    · omega
theorem fb_le (g : Good us d s l) {n n' : Int} (n0 : 0 ≤ n) (h : n ≤ n') : fbM us d s c l n ≤ fbM us d s c l n' := by
  have := fb_mono (c := c) g n0 (n' - n).toNat
  rw [show n + ((n' - n).toNat : Int) = n' by omega] at this
  exact this
/-- the figure behind the range of a figure -/
theorem next_place (g : Good us d s l) {p : Nat} {m : Int} (hp : p < us.length) (hm : 0 ≤ m) (hle : lowM us d s c l p m ≤ highM us d s c l p m) :
    lowM us d s c l (placedM us d s c l (highM us d s c l p m + 1)).1 (placedM us d s c l (highM us d s c l p m + 1)).2 = highM us d s c l p m + 1 ∧ idxM us d s c l (placedM us d s c l (highM us d s c l p m + 1)) = idxM us d s c l (p, m) + 1 := by
  have h0 := low_nn (c := c) g hp m
  have hh : 0 ≤ highM us d s c l p m := by omega
  have e0 := (range_iff (c := c) g hh hp hm).mpr ⟨hle, Int.le_refl _⟩
  have e1 : placedM us d s c l (highM us d s c l p m + 1) ≠ (p, m) := fun e => by
    have := (range_iff (c := c) (n := highM us d s c l p m + 1) g (by omega) hp hm).mp e
    omega
  constructor
  · have hin := in_range (c := c) (n := highM us d s c l p m + 1) g (by omega) (p := (placedM us d s c l (highM us d s c l p m + 1)).1) (m := (placedM us d s c l (highM us d s c l p m + 1)).2) rfl
    obtain ⟨k1, k2, _⟩ := placedM_ok (c := c) (n := highM us d s c l p m + 1) g (by omega)
    rcases Int.lt_or_le (lowM us d s c l (placedM us d s c l (highM us d s c l p m + 1)).1 (placedM us d s c l (highM us d s c l p m + 1)).2) (highM us d s c l p m + 1) with y | y
    · exfalso
      have := (range_iff (c := c) g hh k1 k2).mpr ⟨by omega, by omega⟩
      rw [e0] at this
      exact e1 this.symm
    · omega
  · rcases fb_succ (c := c) g hh with e | ⟨_, e⟩
    · rw [e0] at e
      exact absurd e e1
    · unfold fbM at e
      rw [e0] at e
      exact e
/-- which figures are shown -/
theorem is_shown (g : Good us d s l) {p : Nat} {m : Int} (hp : p < us.length) (h1 : fmM us d l p ≤ m) (h2 : p + 1 < us.length → m ≤ lmM us d s c l p) : lowM us d s c l p m ≤ highM us d s c l p m := by
  obtain ⟨_, s1, _⟩ := steps_ok g hp
  have he := step_even g hp
  have hf0 := (thr_fm g hp).2
  have h0 := start_nn (c := c) g hp
  suffices h : ∃ x, 0 ≤ x ∧ placedM us d s c l x = (p, m) by
    obtain ⟨x, x0, ex⟩ := h
    have := (range_iff (c := c) g x0 hp (by omega)).mp ex
    omega
  rcases Int.lt_or_le (fmM us d l p) m with y | y
  · refine ⟨firstR m ((stepsOf us d).getD p 0) s, firstR_nn s1 (by omega), ?_⟩
    have x0 := firstR_nn (m := m) (st := (stepsOf us d).getD p 0) (s := s) s1 (by omega)
    have hgt : startM us d s c l p < firstR m ((stepsOf us d).getD p 0) s := by
      rcases Int.lt_or_le (startM us d s c l p) (firstR m ((stepsOf us d).getD p 0) s) with w | w
      · exact w
      · exfalso
        have := (rnd_ge g.srt he s1 h0 (show 0 ≤ m by omega)).mpr w
        rw [start_mark g hp] at this
        omega
    have hlt : p + 1 < us.length → firstR m ((stepsOf us d).getD p 0) s < startM us d s c l (p + 1) := fun hp1 => by
      have hs := start_strict (c := c) g hp1
      have := (rnd_ge (n := startM us d s c l (p + 1) - 1) g.srt he s1 (by omega) (show 0 ≤ m by omega)).mp (h2 hp1)
      omega
    have a1 := (place_ge (c := c) g x0 hp).mpr (by omega)
    have a2 : (placedM us d s c l (firstR m ((stepsOf us d).getD p 0) s)).1 ≤ p := by
      have hlt2 := (placedM_ok (c := c) g x0).1
      rcases Nat.lt_or_ge p (placedM us d s c l (firstR m ((stepsOf us d).getD p 0) s)).1 with w | w
      · exfalso
        have hp1 : p + 1 < us.length := by omega
        have := (place_ge (c := c) g x0 hp1).mp w
        have := hlt hp1
        omega
      · exact w
    have e1 : (placedM us d s c l (firstR m ((stepsOf us d).getD p 0) s)).1 = p := by omega
    have e2 := placed_snd us d s c l (firstR m ((stepsOf us d).getD p 0) s)
    rw [e1] at e2
    have e3 : rnd (firstR m ((stepsOf us d).getD p 0) s) ((stepsOf us d).getD p 0) s = m := by
      have b1 := (rnd_ge (n := firstR m ((stepsOf us d).getD p 0) s) g.srt he s1 x0 (show 0 ≤ m by omega)).mpr (Int.le_refl _)
      have b2 : ¬ m + 1 ≤ rnd (firstR m ((stepsOf us d).getD p 0) s) ((stepsOf us d).getD p 0) s := fun w => by
        have := (rnd_ge (n := firstR m ((stepsOf us d).getD p 0) s) (m := m + 1) g.srt he s1 x0 (by omega)).mp w
        have := firstR_strict (m := m) (s := s) s1 he (by omega)
        omega
      omega
    rw [e3] at e2
    exact Prod.ext e1 e2
  · refine ⟨_, h0, ?_⟩
    rw [placed_start g hp, show m = fmM us d l p by omega]
theorem FU_up (g : Good us d s l) {p : Nat} (hp : p + 1 < us.length) : FU us d s c l p < FU us d s c l (p + 1) := by
  have := lm_ge (c := c) g hp
  show FU us d s c l p < FU us d s c l p + (lmM us d s c l p - fmM us d l p + 1)
  omega
theorem FU_mono (g : Good us d s l) : ∀ {q p : Nat}, p ≤ q → q < us.length → FU us d s c l p ≤ FU us d s c l q := by
  intro q
  induction q with
  | zero => intro p h _; rw [show p = 0 by omega]; exact Int.le_refl _
  | succ q ih =>
    intro p h hq
    rcases Nat.lt_or_ge p (q + 1) with y | y
    · have := ih (p := p) (by omega) (by omega)
      have := FU_up (c := c) g hq
      omega
    · rw [show p = q + 1 by omega]
      exact Int.le_refl _
theorem FU_nn (g : Good us d s l) {p : Nat} (hp : p < us.length) : 0 ≤ FU us d s c l p := FU_mono (c := c) g (Nat.zero_le p) hp
/-- all that is asked of the unit that figure_at finds -/
theorem at_place (g : Good us d s l) {k : Int} {p : Nat} (hp : p < us.length) (h1 : FU us d s c l p ≤ k) (h2 : p + 1 < us.length → k < FU us d s c l (p + 1)) :
    fmM us d l p ≤ fmM us d l p + k - FU us d s c l p ∧ lowM us d s c l p (fmM us d l p + k - FU us d s c l p) ≤ highM us d s c l p (fmM us d l p + k - FU us d s c l p) ∧ idxM us d s c l (p, fmM us d l p + k - FU us d s c l p) = k := by
  refine ⟨by omega, is_shown g hp (by omega) (fun hp1 => ?_), ?_⟩
  · have h3 := h2 hp1
    have h4 : FU us d s c l (p + 1) = FU us d s c l p + (lmM us d s c l p - fmM us d l p + 1) := rfl
    omega
  · show FU us d s c l p + (fmM us d l p + k - FU us d s c l p) - fmM us d l p = k
    omega
/-- the worth never falls -/
theorem worth_succ (g : Good us d s l) {n : Int} (n0 : 0 ≤ n) : worthM us d s c l n ≤ worthM us d s c l (n + 1) := by
  have hlt := (placedM_ok (c := c) g n0).1
  have hlt' := (placedM_ok (c := c) (n := n + 1) g (by omega)).1
  have hm := place_mono (c := c) g n0 (show n ≤ n + 1 by omega)
  have es := placed_snd us d s c l n
  have es' := placed_snd us d s c l (n + 1)
  obtain ⟨_, s1, _⟩ := steps_ok g hlt
  unfold worthM
  rcases Nat.lt_or_ge (placedM us d s c l n).1 (placedM us d s c l (n + 1)).1 with y | y
  · have hp1 : (placedM us d s c l n).1 + 1 < us.length := by omega
    have h1 : n < startM us d s c l ((placedM us d s c l n).1 + 1) := by
      rcases Int.lt_or_le n (startM us d s c l ((placedM us d s c l n).1 + 1)) with w | w
      · exact w
      · have := (place_ge (c := c) g n0 hp1).mpr w
        omega
    have h2 := (place_ge (c := c) (n := n + 1) g (by omega) hp1).mp (by omega)
    have en : n + 1 = startM us d s c l ((placedM us d s c l n).1 + 1) := by omega
    have e1 := placed_start (c := c) g hp1
    rw [← en] at e1
    have hthr := start_le_thr (c := c) g hp1
    rw [← en] at hthr
    have ht := (thr_fm g hp1).1
    obtain ⟨_, k, hk0, hk⟩ := thr_steps g (show 1 ≤ (placedM us d s c l n).1 + 1 by omega) hp1
    rw [Nat.add_sub_cancel] at hk
    rw [e1]
    generalize (placedM us d s c l n).1 = p at *
    rw [es]
    show rnd n ((stepsOf us d).getD p 0) s * (stepsOf us d).getD p 0 ≤ fmM us d l (p + 1) * (stepsOf us d).getD (p + 1) 0
    rw [← ht, hk]
    rw [hk] at hthr
    exact Int.mul_le_mul_of_nonneg_right (rnd_below s1 (by omega)) (by omega)
  · have ep : (placedM us d s c l (n + 1)).1 = (placedM us d s c l n).1 := by omega
    obtain ⟨r1, r2⟩ := rnd_succ (s := s) g.srt (step_even g hlt) s1 n0
    rw [ep] at es'
    rw [← es, ← es'] at r1
    rw [ep]
    exact Int.mul_le_mul_of_nonneg_right r1 (by omega)
theorem worth_mono (g : Good us d s l) {n : Int} (n0 : 0 ≤ n) : ∀ k : Nat, worthM us d s c l n ≤ worthM us d s c l (n + (k : Int)) := by
  intro k
  induction k with
  | zero => rw [show n + ((0 : Nat) : Int) = n by omega]; exact Int.le_refl _
  | succ k ih =>
    have := worth_succ (c := c) (n := n + (k : Int)) g (by omega)
    rw [show n + ((k + 1 : Nat) : Int) = n + (k : Int) + 1 by omega]
    omega
theorem worth_le (g : Good us d s l) {n n' : Int} (n0 : 0 ≤ n) (h : n ≤ n') : worthM us d s c l n ≤ worthM us d s c l n' := by
  have := worth_mono (c := c) g n0 (n' - n).toNat
  rw [show n + ((n' - n).toNat : Int) = n' by omega] at this
  exact this
/-- figures are the same exactly if their places are -/
theorem same_iff (g : Good us d s l) {n n' : Int} (n0 : 0 ≤ n) (h : n ≤ n') : placedM us d s c l n = placedM us d s c l n' ↔ fbM us d s c l n = fbM us d s c l n' := by
  constructor
  · intro e
    unfold fbM
    rw [e]
  · intro e
    have key : ∀ k : Nat, n + (k : Int) ≤ n' → placedM us d s c l (n + (k : Int)) = placedM us d s c l n := by
      intro k
      induction k with
      | zero => intro _; rw [show n + ((0 : Nat) : Int) = n by omega]
      | succ k ih =>
        intro hk
        have i1 := ih (by omega)
        rw [show n + ((k + 1 : Nat) : Int) = n + (k : Int) + 1 by omega]
        rcases fb_succ (c := c) (n := n + (k : Int)) g (by omega) with e1 | ⟨_, e1⟩
        · rw [e1, i1]
        · exfalso
          have h1 := fb_le (c := c) (n := n + (k : Int) + 1) (n' := n') g (by omega) (by omega)
          have h2 : fbM us d s c l (n + (k : Int)) = fbM us d s c l n := by unfold fbM; rw [i1]
          omega
    have := key (n' - n).toNat (by omega)
    rw [show n + ((n' - n).toNat : Int) = n' by omega] at this
    exact this.symm
end
end My

namespace My
open PySem PySem.Spec PyProof.Rows L2
theorem low_hi {us : List (Str × Int)} {d : Nat} {s : Str} {c : Bool} {l : Int} (g : Good us d s l) {p : Nat} (hp : p < us.length) {m : Int} (m0 : 0 ≤ m) (m1 : m ≤ 2000000000) : lowM us d s c l p m ≤ 2000000000000000000000000000 := by
  obtain ⟨_, s1, s2⟩ := steps_ok g hp
  have h1 := firstR_hi (m := m) (s := s) s1
  have h2 : m * (stepsOf us d).getD p 0 ≤ 2000000000 * 1000000000000000000 := Int.mul_le_mul m1 s2 (by omega) (by decide)
  have h3 := start_le_thr (c := c) g hp
  have h4 : (thrsOf us l).getD p 0 ≤ 1000 * 1000000000000000000 := by
    rcases Nat.eq_zero_or_pos p with z | z
    · subst z
      show (0 : Int) ≤ _
      decide
    · rw [thr_eq z hp]
      have b1 := last_sz_pos g.u hp
      have b2 := g.l1
      have b3 := g.l2
      have : szOf us p * l ≤ 1000000000000000000 * 1000 := Int.mul_le_mul b1.2 b3 (by omega) (by decide)
      omega
  unfold lowM max2
  split <;> omega
/-- the mark of a figure with this place -/
theorem mark_le {us : List (Str × Int)} {d : Nat} {s : Str} {c : Bool} {l : Int} (g : Good us d s l) {p : Nat} (hp : p < us.length) {m : Int} : m ≤ idxM us d s c l (p, m) + 1000000 := by
  have h1 := FU_nn (c := c) g hp
  have h2 := fm_le g hp
  show m ≤ FU us d s c l p + m - fmM us d l p + 1000000
  omega
theorem low_place {us : List (Str × Int)} {d : Nat} {s : Str} {c : Bool} {l : Int} (g : Good us d s l) {p : Nat} (hp : p < us.length) {m : Int} (m0 : 0 ≤ m) (hle : lowM us d s c l p m ≤ highM us d s c l p m) : placedM us d s c l (lowM us d s c l p m) = (p, m) :=
  (range_iff g (low_nn g hp m) hp m0).mpr ⟨Int.le_refl _, hle⟩
theorem low_order {us : List (Str × Int)} {d : Nat} {s : Str} {c : Bool} {l : Int} (g : Good us d s l) {p p' : Nat} (hp : p < us.length) (hp' : p' < us.length) {m m' : Int} (m0 : 0 ≤ m) (m0' : 0 ≤ m') (hle : lowM us d s c l p m ≤ highM us d s c l p m) (hle' : lowM us d s c l p' m' ≤ highM us d s c l p' m')
    (h : idxM us d s c l (p, m) ≤ idxM us d s c l (p', m')) : lowM us d s c l p m ≤ lowM us d s c l p' m' := by
  have e := low_place (c := c) g hp m0 hle
  have e' := low_place (c := c) g hp' m0' hle'
  have n0 := low_nn (c := c) g hp' m'
  rcases Int.lt_or_le (lowM us d s c l p' m') (lowM us d s c l p m) with y | y
  · exfalso
    have h1 := fb_le (c := c) g n0 (Int.le_of_lt y)
    have h2 : fbM us d s c l (lowM us d s c l p' m') = fbM us d s c l (lowM us d s c l p m) := by
      unfold fbM at h1 ⊢
      rw [e, e'] at h1 ⊢
      omega
    have h3 := (same_iff (c := c) g n0 (Int.le_of_lt y)).mpr h2
    rw [e, e'] at h3
    rw [← Prod.mk.inj h3 |>.1, ← Prod.mk.inj h3 |>.2] at y
    omega
  · exact y
end My

namespace My
open PySem PySem.Spec PyProof.Rows L2
/-! ### when two ladders show the same -/
/-- what a step and a rounding may be -/
structure Stp (st : Int) (s : Str) : Prop where
  pos : 0 < st
  even : st = 1 ∨ st % 2 = 0
  srt : s ∈ sorts
theorem Good.stp {us : List (Str × Int)} {d : Nat} {s : Str} {l : Int} (g : Good us d s l) {p : Nat} (hp : p < us.length) : Stp ((stepsOf us d).getD p 0) s := ⟨(steps_ok g hp).2.1, step_even g hp, g.srt⟩
/-- two marks further it goes on alike -/
theorem firstR_two {m st : Int} {s : Str} (h : Stp st s) (m1 : 1 ≤ m) : firstR (m + 2) st s = firstR m st s + 2 * st := by
  have e : (m + 2) * st = m * st + 2 * st := by rw [Int.add_mul]
  have e' : (m + 2 - 1) * st = (m - 1) * st + 2 * st := by rw [show m + 2 - 1 = (m - 1) + 2 by omega, Int.add_mul]
  have c1 : (m + 2 = 0 ∨ st = 1 ∨ s = "down") ↔ (m = 0 ∨ st = 1 ∨ s = "down") := ⟨fun y => y.elim (fun y => by omega) .inr, fun y => y.elim (fun y => by omega) .inr⟩
  have c2 : (s = "even" ∧ (m + 2) % 2 = 1) ↔ (s = "even" ∧ m % 2 = 1) := ⟨fun y => ⟨y.1, by omega⟩, fun y => ⟨y.1, by omega⟩⟩
  unfold firstR
  rw [e, e']
  by_cases k1 : m = 0 ∨ st = 1 ∨ s = "down"
  · rw [if_pos (c1.mpr k1), if_pos k1]
  · rw [if_neg (fun y => k1 (c1.mp y)), if_neg k1]
    by_cases k2 : s = "up"
    · rw [if_pos k2, if_pos k2]
      omega
    · rw [if_neg k2, if_neg k2]
      by_cases k3 : s = "even" ∧ m % 2 = 1
      · rw [if_pos (c2.mpr k3), if_pos k3]
        omega
      · rw [if_neg (fun y => k3 (c2.mp y)), if_neg k3]
        omega
/-- what agrees at three marks in a row agrees at all -/
theorem firstR_agree {st st' m : Int} {s s' : Str} (h : Stp st s) (h' : Stp st' s') (m0 : 0 ≤ m) (e1 : firstR (m + 1) st s = firstR (m + 1) st' s') (e2 : firstR (m + 2) st s = firstR (m + 2) st' s') (e3 : firstR (m + 3) st s = firstR (m + 3) st' s') :
    ∀ k : Nat, firstR (m + 1 + (k : Int)) st s = firstR (m + 1 + (k : Int)) st' s' := by
  have a := firstR_two h (show 1 ≤ m + 1 by omega)
  have a' := firstR_two h' (show 1 ≤ m + 1 by omega)
  rw [show m + 1 + 2 = m + 3 by omega] at a a'
  have est : st = st' := by omega
  have key : ∀ k : Nat, firstR (m + 1 + (k : Int)) st s = firstR (m + 1 + (k : Int)) st' s' ∧ firstR (m + 1 + (k : Int) + 1) st s = firstR (m + 1 + (k : Int) + 1) st' s' := by
    intro k
    induction k with
    | zero =>
      rw [show m + 1 + ((0 : Nat) : Int) = m + 1 by omega, show m + 1 + 1 = m + 2 by omega]
      exact ⟨e1, e2⟩
    | succ k ih =>
      rw [show m + 1 + ((k + 1 : Nat) : Int) = m + 1 + (k : Int) + 1 by omega]
      refine ⟨ih.2, ?_⟩
      rw [show m + 1 + (k : Int) + 1 + 1 = m + 1 + (k : Int) + 2 by omega, firstR_two h (by omega), firstR_two h' (by omega), ih.1, est]
  exact fun k => (key k).1
theorem rnd_step_eq {n st m : Int} {s : Str} (h : Stp st s) (n0 : 0 ≤ n) (m0 : 0 ≤ m) (h1 : rnd n st s < m) (h2 : m ≤ rnd (n + 1) st s) : n + 1 = firstR m st s := by
  have a := (rnd_ge h.srt h.even h.pos (show 0 ≤ n + 1 by omega) m0).mp h2
  have b : ¬ firstR m st s ≤ n := fun y => by have := (rnd_ge h.srt h.even h.pos n0 m0).mpr y; omega
  omega
/-- marks that are equal up to a change, and not from there on: the change is one of the next three -/
theorem change_near {st st' a n : Int} {s s' : Str} (h : Stp st s) (h' : Stp st' s') (a0 : 0 ≤ a) (an : a < n) (hsame : ∀ x, a ≤ x → x < n → rnd x st s = rnd x st' s') (hinc : rnd (n - 1) st s < rnd n st s) (hst : rnd n st' s' ≤ rnd (n - 1) st' s') :
    ∃ j : Nat, j < 3 ∧ n = firstR (rnd a st s + 1 + (j : Int)) st s := by
  have r0 := rnd_nn (s := s) a0 h.pos
  have hm := rnd_mono h.srt h.even h.pos a0 (show a ≤ n - 1 by omega)
  have hn : n = firstR (rnd (n - 1) st s + 1) st s := by
    have := rnd_step_eq (n := n - 1) (m := rnd (n - 1) st s + 1) h (by omega) (by omega) (by omega) (by rw [Int.sub_add_cancel]; omega)
    omega
  rcases Int.lt_or_le (rnd (n - 1) st s) (rnd a st s + 3) with y | y
  · refine ⟨(rnd (n - 1) st s - rnd a st s).toNat, by omega, ?_⟩
    rw [show rnd a st s + 1 + ((rnd (n - 1) st s - rnd a st s).toNat : Int) = rnd (n - 1) st s + 1 by omega]
    exact hn
  · exfalso
    have ea := hsame a (Int.le_refl _) an
    have en := hsame (n - 1) (by omega) (by omega)
    -- a change of the one is a change of the other
    have both : ∀ i : Int, 1 ≤ i → i ≤ 3 → firstR (rnd a st s + i) st s = firstR (rnd a st s + i) st' s' := fun i i1 i2 => by
      have b1 := (rnd_ge (m := rnd a st s + i) h.srt h.even h.pos (show 0 ≤ n - 1 by omega) (by omega)).mp (by omega)
      have b2 : ¬ firstR (rnd a st s + i) st s ≤ a := fun w => by have := (rnd_ge (m := rnd a st s + i) h.srt h.even h.pos a0 (by omega)).mpr w; omega
      have c1 := hsame (firstR (rnd a st s + i) st s) (by omega) (by omega)
      have c2 := hsame (firstR (rnd a st s + i) st s - 1) (by omega) (by omega)
      have d1 := (rnd_ge (n := firstR (rnd a st s + i) st s) (m := rnd a st s + i) h.srt h.even h.pos (by omega) (by omega)).mpr (Int.le_refl _)
      have d2 : ¬ rnd a st s + i ≤ rnd (firstR (rnd a st s + i) st s - 1) st s := fun w => by
        have := (rnd_ge (n := firstR (rnd a st s + i) st s - 1) (m := rnd a st s + i) h.srt h.even h.pos (by omega) (by omega)).mp w
        omega
      have := rnd_step_eq (n := firstR (rnd a st s + i) st s - 1) (m := rnd a st s + i) h' (by omega) (by omega) (by omega) (by rw [Int.sub_add_cancel]; omega)
      omega
    have ag := firstR_agree h h' r0 (both 1 (by omega) (by omega)) (both 2 (by omega) (by omega)) (both 3 (by omega) (by omega)) (rnd (n - 1) st s - rnd a st s).toNat
    rw [show rnd a st s + 1 + ((rnd (n - 1) st s - rnd a st s).toNat : Int) = rnd (n - 1) st s + 1 by omega, ← hn] at ag
    have := (rnd_ge (n := n) (m := rnd (n - 1) st s + 1) h'.srt h'.even h'.pos (by omega) (by omega)).mpr (by omega)
    omega
/-! the form of a figure -/
theorem split_at {X X' Y Y' : List Nat} (h : 46 ∉ X) (h' : 46 ∉ X') (e : X ++ 46 :: Y = X' ++ 46 :: Y') : X = X' ∧ Y = Y' := by
  induction X generalizing X' with
  | nil =>
    cases X' with
    | nil => exact ⟨rfl, (List.cons.inj e).2⟩
    | cons x r =>
      have := (List.cons.inj e).1
      exact absurd (by rw [this]; exact List.mem_cons_self) h'
  | cons x r ih =>
    cases X' with
    | nil =>
      have := (List.cons.inj e).1
      exact absurd (by rw [this]; exact List.mem_cons_self) h
    | cons x' r' =>
      obtain ⟨e1, e2⟩ := List.cons.inj e
      obtain ⟨i1, i2⟩ := ih (X' := r') (fun w => h (List.mem_cons_of_mem _ w)) (fun w => h' (List.mem_cons_of_mem _ w)) e2
      exact ⟨by rw [e1, i1], i2⟩
theorem no46 {L : List Nat} (h : ∀ c ∈ L, 48 ≤ c ∧ c ≤ 57) : 46 ∉ L := fun w => by have := h 46 w; omega
theorem dg_inj {m m' : Int} {n n' : Nat} (hm : 0 ≤ m) (hm' : 0 ≤ m') (l1 : n + (dg m).length ≤ 4300) (e : List.replicate n 48 ++ dg m = List.replicate n' 48 ++ dg m') : m = m' := by
  have b1 := int_back (t := ⟨(List.replicate n 48 ++ dg m).toArray⟩) (n := n) hm rfl (by
    rw [str_len]
    show (List.replicate n 48 ++ dg m).length ≤ 4300
    rw [List.length_append, List.length_replicate]
    exact l1)
  have b2 := int_back (t := ⟨(List.replicate n 48 ++ dg m).toArray⟩) (n := n') hm' e (by
    rw [str_len]
    show (List.replicate n 48 ++ dg m).length ≤ 4300
    rw [List.length_append, List.length_replicate]
    exact l1)
  rw [b1] at b2
  exact Option.some.inj b2
theorem writ_form {us us' : List (Str × Int)} {d d' p p' : Nat} {m m' : Int} (g : GoodUs us) (g' : GoodUs us') (hd : d ≤ 3) (hd' : d' ≤ 3) (hp : p < us.length) (hp' : p' < us'.length) (hm : 0 ≤ m) (hm' : 0 ≤ m') (h1 : m < 10 ^ 40) (h2 : m' < 10 ^ 40) (e : writ us d p m = writ us' d' p' m') :
    m = m' ∧ ∀ k, writ us d p k = writ us' d' p' k := by
  have ea : ahead d p m = ahead d' p' m' := by rw [← writ_ahead g hp hm, ← writ_ahead g' hp' hm', e]
  have wc := writ_codes (us := us) (d := d) (p := p) (m := m)
  have wc' := writ_codes (us := us') (d := d') (p := p') (m := m')
  rw [e, ea, wc'] at wc
  have en : (us'.getD p' ("", 0)).1 = (us.getD p ("", 0)).1 := str_ext (List.append_cancel_left wc)
  have l1 := dg_small (m := m) (by omega)
  have l2 := dg_small (m := m') (by omega)
  have dz : ∀ {d : Nat} {m : Int}, 0 ≤ m → 46 ∉ zf d m := fun {d m} hm => no46 (zf_digits hm)
  by_cases c : p = 0 ∨ d = 0
  · by_cases c' : p' = 0 ∨ d' = 0
    · have ed : dg m = dg m' := by
        unfold ahead at ea
        rw [if_pos c, if_pos c'] at ea
        exact ea
      refine ⟨dg_inj (n := 0) (n' := 0) hm hm' (by omega) (by rw [List.replicate_zero, List.nil_append, List.nil_append]; exact ed), fun k => ?_⟩
      unfold writ
      rw [if_pos c, if_pos c', en]
    · exfalso
      unfold ahead at ea
      rw [if_pos c, if_neg c'] at ea
      have : 46 ∈ dg m := by
        rw [ea]
        unfold body
        exact List.mem_append_right _ List.mem_cons_self
      exact no46 (dg_digits hm) this
  · by_cases c' : p' = 0 ∨ d' = 0
    · exfalso
      unfold ahead at ea
      rw [if_neg c, if_pos c'] at ea
      have : 46 ∈ dg m' := by
        rw [← ea]
        unfold body
        exact List.mem_append_right _ List.mem_cons_self
      exact no46 (dg_digits hm') this
    · unfold ahead at ea
      rw [if_neg c, if_neg c'] at ea
      have eb := ea
      unfold body at eb
      obtain ⟨_, eY⟩ := split_at (fun w => dz hm (List.mem_of_mem_take w)) (fun w => dz hm' (List.mem_of_mem_take w)) eb
      have eL := congrArg List.length eY
      rw [List.length_drop, List.length_drop, zf_len, zf_len] at eL
      have hdd : d = d' := by omega
      have ef : zf d m = zf d' m' := by rw [← filter_body hm, ← filter_body hm', ea]
      refine ⟨?_, fun k => ?_⟩
      · unfold zf at ef
        exact dg_inj hm hm' (by omega) ef
      · unfold writ
        rw [if_neg c, if_neg c', en, hdd]
/-! the numbers that are tried -/
def chg (us : List (Str × Int)) (d : Nat) (s : Str) (c : Bool) (l n : Int) (k : Nat) : List Int := (List.range k).map fun (j : Nat) => firstR ((placedM us d s c l n).2 + (1 + (j : Int))) ((stepsOf us d).getD (placedM us d s c l n).1 0) s
def stars (us : List (Str × Int)) (d : Nat) (s : Str) (c : Bool) (l : Int) : List Int := (List.range us.length).map fun p => startM us d s c l p
theorem unit_in {us : List (Str × Int)} {d : Nat} {s : Str} {c : Bool} {l : Int} (g : Good us d s l) {n x : Int} (n0 : 0 ≤ n) (h1 : startM us d s c l (placedM us d s c l n).1 ≤ x) (h2 : x ≤ n) : (placedM us d s c l x).1 = (placedM us d s c l n).1 := by
  have hlt := (placedM_ok (c := c) g n0).1
  have hs := start_nn (c := c) g hlt
  have a := (place_ge (c := c) (n := x) g (by omega) hlt).mpr h1
  have b := place_mono (c := c) (n := x) (n' := n) g (by omega) h2
  omega
theorem chg_mem {us : List (Str × Int)} {d : Nat} {s : Str} {c : Bool} {l n : Int} {k j : Nat} (hj : j < k) {x : Int} (e : x = firstR ((placedM us d s c l n).2 + 1 + (j : Int)) ((stepsOf us d).getD (placedM us d s c l n).1 0) s) : x ∈ chg us d s c l n k := by
  refine List.mem_map.mpr ⟨j, List.mem_range.mpr hj, ?_⟩
  rw [e, Int.add_assoc]
/-- the first number that is shown differently is tried -/
theorem unlike_tried {us us' : List (Str × Int)} {d d' : Nat} {s s' : Str} {c c' : Bool} {l l' n : Int} (g : Good us d s l) (g' : Good us' d' s' l') (n0 : 0 ≤ n) (n1 : n < 10 ^ 39) (hne : shown us d s c l n ≠ shown us' d' s' c' l' n) (hmin : ∀ x, 0 ≤ x → x < n → shown us d s c l x = shown us' d' s' c' l' x) :
    ∃ a, (a ∈ stars us d s c l ∨ a ∈ stars us' d' s' c' l') ∧ (n = a ∨ n ∈ chg us d s c l a 3 ∨ n ∈ chg us' d' s' c' l' a 3) := by
  obtain ⟨k1, k2, k3⟩ := placedM_ok (c := c) g n0
  obtain ⟨j1, j2, j3⟩ := placedM_ok (c := c') g' n0
  have hA := (place_ge (c := c) g n0 k1).mp (Nat.le_refl _)
  have hB := (place_ge (c := c') g' n0 j1).mp (Nat.le_refl _)
  have sA0 := start_nn (c := c) g k1
  have sB0 := start_nn (c := c') g' j1
  have mA : startM us d s c l (placedM us d s c l n).1 ∈ stars us d s c l := List.mem_map.mpr ⟨_, List.mem_range.mpr k1, rfl⟩
  have mB : startM us' d' s' c' l' (placedM us' d' s' c' l' n).1 ∈ stars us' d' s' c' l' := List.mem_map.mpr ⟨_, List.mem_range.mpr j1, rfl⟩
  have uA := fun x (h1 : startM us d s c l (placedM us d s c l n).1 ≤ x) (h2 : x ≤ n) => unit_in (c := c) g n0 h1 h2
  have uB := fun x (h1 : startM us' d' s' c' l' (placedM us' d' s' c' l' n).1 ≤ x) (h2 : x ≤ n) => unit_in (c := c') g' n0 h1 h2
  have hpA := g.stp k1
  have hpB := g'.stp j1
  have sndA := fun x => placed_snd us d s c l x
  have sndB := fun x => placed_snd us' d' s' c' l' x
  obtain ⟨pA, epA⟩ : ∃ p, (placedM us d s c l n).1 = p := ⟨_, rfl⟩
  obtain ⟨pB, epB⟩ : ∃ p, (placedM us' d' s' c' l' n).1 = p := ⟨_, rfl⟩
  rw [epA] at hA sA0 mA uA hpA k1
  rw [epB] at hB sB0 mB uB hpB j1
  -- the later one of both starts
  obtain ⟨a, ha, ha1, ha2, han⟩ : ∃ a, (a ∈ stars us d s c l ∨ a ∈ stars us' d' s' c' l') ∧ startM us d s c l pA ≤ a ∧ startM us' d' s' c' l' pB ≤ a ∧ a ≤ n := by
    rcases Int.lt_or_le (startM us d s c l pA) (startM us' d' s' c' l' pB) with y | y
    · exact ⟨_, .inr mB, by omega, Int.le_refl _, hB⟩
    · exact ⟨_, .inl mA, Int.le_refl _, y, hA⟩
  refine ⟨a, ha, ?_⟩
  rcases Int.lt_or_le a n with y | y
  · right
    have a0 : 0 ≤ a := by omega
    -- marks in this stretch
    have wA : ∀ x, a ≤ x → x ≤ n → shown us d s c l x = writ us d pA (rnd x ((stepsOf us d).getD pA 0) s) := fun x h1 h2 => by
      unfold shown
      rw [sndA, uA x (by omega) h2]
    have wB : ∀ x, a ≤ x → x ≤ n → shown us' d' s' c' l' x = writ us' d' pB (rnd x ((stepsOf us' d').getD pB 0) s') := fun x h1 h2 => by
      unfold shown
      rw [sndB, uB x (by omega) h2]
    have bnd : ∀ {st : Int} {s : Str} (x : Int), 0 < st → 0 ≤ x → x ≤ n → 0 ≤ rnd x st s ∧ rnd x st s < 10 ^ 40 := fun {st s} x hst h1 h2 => by
      have := rnd_lo (s := s) h1 hst
      omega
    have form := fun x (h1 : a ≤ x) (h2 : x < n) => writ_form g.u g'.u g.d3 g'.d3 k1 j1 (bnd (s := s) x hpA.pos (by omega) (by omega)).1 (bnd (s := s') x hpB.pos (by omega) (by omega)).1 (bnd x hpA.pos (by omega) (by omega)).2 (bnd x hpB.pos (by omega) (by omega)).2 (by rw [← wA x h1 (by omega), ← wB x h1 (by omega)]; exact hmin x (by omega) h2)
    have same : ∀ x, a ≤ x → x < n → rnd x ((stepsOf us d).getD pA 0) s = rnd x ((stepsOf us' d').getD pB 0) s' := fun x h1 h2 => (form x h1 h2).1
    have fmt := (form a (Int.le_refl _) y).2
    have diff : rnd n ((stepsOf us d).getD pA 0) s ≠ rnd n ((stepsOf us' d').getD pB 0) s' := fun e => by
      refine hne ?_
      rw [wA n (by omega) (Int.le_refl _), wB n (by omega) (Int.le_refl _), e]
      exact fmt _
    have eP := same (n - 1) (by omega) (by omega)
    have incA := rnd_succ (n := n - 1) hpA.srt hpA.even hpA.pos (by omega)
    have incB := rnd_succ (n := n - 1) hpB.srt hpB.even hpB.pos (by omega)
    rw [Int.sub_add_cancel] at incA incB
    have eaA : (placedM us d s c l a).1 = pA := uA a ha1 han
    have eaB : (placedM us' d' s' c' l' a).1 = pB := uB a ha2 han
    rcases Int.lt_or_le (rnd (n - 1) ((stepsOf us d).getD pA 0) s) (rnd n ((stepsOf us d).getD pA 0) s) with w | w
    · left
      obtain ⟨j, hj, ej⟩ := change_near hpA hpB a0 y same w (by omega)
      exact chg_mem hj (by rw [sndA, eaA]; exact ej)
    · right
      obtain ⟨j, hj, ej⟩ := change_near hpB hpA a0 y (fun x h1 h2 => (same x h1 h2).symm) (by omega) w
      exact chg_mem hj (by rw [sndB, eaB]; exact ej)
  · exact .inl (by omega)
end My

/-! min(xs, default=d) of a list of ints -/
namespace MyM
open PySem PySem.W PyProof.Rows L2
section
variable {prog : Program} {w : World} {A : Around} {E : Value → Shared → Prop} {s : Shared} {l : Addr} {its : List Value} {ns : List Int} {d : Value} {Q : Value → Shared → Prop}
theorem min_intDefault {xs : Array (Int × Tok)} (hh : A.handled = none) (hl : s.heap.IsList l (intItems xs))
    (h0 : xs.size = 0 → ∀ h' tk, (∀ b o, s.heap.get? b = some o → h'.get? b = some o) → Q d { s with heap := h', toks := tk })
    (h : 0 < xs.size → ∀ v h' tk, (intItems xs)[argBest (fun i j => decide (numAt xs i < numAt xs j)) (xs.size - 1)]? = some v → (∀ b o, s.heap.get? b = some o → h'.get? b = some o) → Q v { s with heap := h', toks := tk }) :
    wpAny (model prog w) A (call (.builtin "min") [.ref l] [(Str.ofString "default", d)]) Q E s := by
  have hn : (intItems xs).size = xs.size := by simp [intItems]
  refine call_min_walkD (PySem.W.iter_listW (A := A.in1) hh hl fun s₂ e W st hfp hw hk => ?_)
  refine ⟨_, _, _, _, _, _, _, s.heap, (fun i j => decide (numAt xs i < numAt xs j)), rfl, W, st, hfp, hw, hk, fun hz s' m => ?_, fun hp => ⟨fun i j vi vj s Q E _ hi hj hq => CmpOf.ints_lt (numAt xs) (fun _ _ => intItems_at) i j vi vj s Q E hi hj hq, fun v s' hP m => ?_⟩⟩
  · obtain ⟨h', tk, rfl, hk'⟩ := PySem.W.moved_old e rfl m
    exact h0 (by omega) h' tk hk'
  · obtain ⟨h', tk, rfl, hk'⟩ := PySem.W.moved_old e rfl m
    rw [hn] at hP hp
    exact h hp v h' tk hP hk'
theorem min_rawD (hh : A.handled = none) (hl : s.heap.IsList l its.toArray) (hi : IntsAre its ns)
    (h0 : ns = [] → ∀ h' tk, (∀ b o, s.heap.get? b = some o → h'.get? b = some o) → Q d { s with heap := h', toks := tk })
    (h : ∀ h' tk M t', (∀ b o, s.heap.get? b = some o → h'.get? b = some o) → M ∈ ns → (∀ a, a ∈ ns → M ≤ a) → Q (.int M t') { s with heap := h', toks := tk }) : wpAny (model prog w) A (call (.builtin "min") [.ref l] [(Str.ofString "default", d)]) Q E s := by
  obtain ⟨xs, e⟩ := hi.allInts.items
  have hn : numsOf (intItems xs).toList = ns := by rw [← e]; exact hi.numsOf
  rw [nums_intItems] at hn
  subst hn
  rw [e] at hl
  refine min_intDefault hh hl (fun hz h' tk hk => h0 (by
    have : xs = #[] := Array.eq_empty_of_size_eq_zero hz
    subst this
    rfl) h' tk hk) fun hsz v h' tk hv hk => ?_
  obtain ⟨t, rfl⟩ := intItems_at hv
  obtain ⟨h1, h2⟩ := argBest_lt (numAt xs) (xs.size - 1)
  refine h h' tk _ t hk ?_ fun a ha => ?_
  · rw [numAt_eq]; exact PySem.getD_mem (by rw [List.length_map, Array.length_toList]; omega)
  · obtain ⟨j, hj, rfl⟩ := mem_getD ha
    rw [List.length_map, Array.length_toList] at hj
    rw [← numAt_eq]; exact h2 j (by omega)
end
def rMinD (K : PySem.W.Frag) : List V → List V → Hp → VK → Prop := fun vs zs H Q => ∃ (a : Addr) (ns : List Int) (dv : V), vs = [V.ref a] ∧ zs = [dv] ∧ SqL K H a (ns.map V.int) ∧ (ns = [] → Q dv H) ∧ ∀ m, m ∈ ns → (∀ y, y ∈ ns → m ≤ y) → Q (.int m) H
theorem cr_minD {X : Cx} (hc : X.calm = true) : CallRK X (.builtin "min") [Str.ofString "default"] (rMinD X.K) := by
  intro pins s σ H xs zs us ws Q I r rz h
  obtain ⟨a, ns, dv, rfl, rfl, hs, q0, q⟩ := h
  obtain ⟨its, rv, hl, _⟩ := I.list hs
  rw [Vals.ref1 r]
  cases rz with
  | cons rd t =>
    cases t
    exact min_rawD (I.ok.hd hc) hl.isList rv.ints (fun hn h' tk hk => ⟨dv, H, I.kept hk, rd, q0 hn⟩) fun h' tk m t' hk h1 h2 => ⟨.int _, H, I.kept hk, ⟨_, rfl⟩, q m h1 h2⟩
end MyM

namespace My
open PySem PySem.Spec PyProof.Rows L2
/-! ### starts, next changes -/
def spStarts (K : PySem.W.Frag) (C : Addr) : Sp := fun vs H Q _ => ∃ (a : Addr) (us : List (Str × Int)) (d : Nat) (s : Str) (c : Bool) (l : Int), vs = [.ref a] ∧ LadAt K C H a us d s c l ∧ Good us d s l ∧
  ∀ (p : Addr) (H' : Hp), Same H H' → H p = none → H' p = some (.lst ((stars us d s c l).map V.int)) → Q (.ref p) H'
def spNextC (K : PySem.W.Frag) (C : Addr) : Sp := fun vs H Q _ => ∃ (a : Addr) (us : List (Str × Int)) (d : Nat) (s : Str) (c : Bool) (l n : Int) (k : Nat), vs = [.ref a, .int n, .int (k : Int)] ∧ LadAt K C H a us d s c l ∧ Good us d s l ∧ 0 ≤ n ∧ k ≤ 100 ∧
  ∀ (p : Addr) (H' : Hp), Same H H' → H p = none → H' p = some (.lst ((chg us d s c l n k).map V.int)) → Q (.ref p) H'
theorem LadAt.butL {K : PySem.W.Frag} {C : Addr} {H H' : Hp} {N p : Addr} {xs : List V} {us : List (Str × Int)} {d : Nat} {s : Str} {c : Bool} {l : Int} (hN : H N = some (.lst xs)) (b : But N H H') (h : LadAt K C H p us d s c l) : LadAt K C H' p us d s c l := by
  obtain ⟨dx, ua, t, st, th, h1, h2, h3, h4, h5⟩ := h
  have npa : p ≠ N := ne_of h1 hN (by intro z; cases z)
  exact ⟨dx, ua, t, st, th, b _ _ h1 npa, UA.but hN rfl b h2, b.sqt hN rfl h3, b.sqt hN rfl h4, b.sqt hN rfl h5⟩
section
variable {P : Program} {w : World} {K : PySem.W.Frag} {mg : Str → Option Value} {base : Heap}
end
end My

namespace My
open PySem PySem.Spec PyProof.Rows L2
/-! ### first_unlike, are_alike -/
/-- what a ladder is made of -/
structure Lad where
  us : List (Str × Int)
  d : Nat
  s : Str
  c : Bool
  l : Int
abbrev Lad.At (A : Lad) (K : PySem.W.Frag) (C : Addr) (H : Hp) (p : Addr) : Prop := LadAt K C H p A.us A.d A.s A.c A.l
abbrev Lad.Ok (A : Lad) : Prop := Good A.us A.d A.s A.l
abbrev Lad.show (A : Lad) (n : Int) : Str := shown A.us A.d A.s A.c A.l n
abbrev Lad.stars (A : Lad) : List Int := My.stars A.us A.d A.s A.c A.l
abbrev Lad.chg (A : Lad) (n : Int) (k : Nat) : List Int := My.chg A.us A.d A.s A.c A.l n k
def possL (A B : Lad) (xs : List Int) : List Int := xs.flatMap fun x => x :: (A.chg x 3 ++ B.chg x 3)
def spPoss (K : PySem.W.Frag) (C : Addr) : Sp := fun vs H Q _ => ∃ (a b : Addr) (A B : Lad), vs = [.ref a, .ref b] ∧ A.At K C H a ∧ B.At K C H b ∧ A.Ok ∧ B.Ok ∧
  ∀ (p : Addr) (H' : Hp), Same H H' → H' p = some (.lst ((possL A B (A.stars ++ B.stars)).map V.int)) → Q (.ref p) H'
/-- the first number that is shown differently -/
def Unlike (A B : Lad) (r : Option Int) : Prop := match r with
  | none => ∀ x, 0 ≤ x → x < 10 ^ 38 → A.show x = B.show x
  | some n => 0 ≤ n ∧ n ≤ 100000000000000000000000 ∧ A.show n ≠ B.show n ∧ ∀ x, 0 ≤ x → x < n → A.show x = B.show x
def optV : Option Int → V
  | none => .non
  | some n => .int n
def spFirstU (K : PySem.W.Frag) (C : Addr) : Sp := fun vs H Q _ => ∃ (a b : Addr) (A B : Lad), vs = [.ref a, .ref b] ∧ A.At K C H a ∧ B.At K C H b ∧ A.Ok ∧ B.Ok ∧
  ∀ (r : Option Int) (H' : Hp), Same H H' → Unlike A B r → Q (optV r) H'
def spAlike (K : PySem.W.Frag) (C : Addr) : Sp := fun vs H Q _ => ∃ (a b : Addr) (A B : Lad), vs = [.ref a, .ref b] ∧ A.At K C H a ∧ B.At K C H b ∧ A.Ok ∧ B.Ok ∧
  ∀ (r : Option Int) (H' : Hp), Same H H' → Unlike A B r → Q (.bl r.isNone) H'
theorem stars_le {A : Lad} (g : A.Ok) {x : Int} (h : x ∈ A.stars) : 0 ≤ x ∧ x ≤ 1000000000000000000000 := by
  obtain ⟨p, hp, e⟩ := List.mem_map.mp h
  have hp' : p < A.us.length := List.mem_range.mp hp
  have h0 := start_nn (c := A.c) g hp'
  have h1 := start_le_thr (c := A.c) g hp'
  have h4 : (thrsOf A.us A.l).getD p 0 ≤ 1000 * 1000000000000000000 := by
    rcases Nat.eq_zero_or_pos p with z | z
    · subst z
      show (0 : Int) ≤ _
      decide
    · rw [thr_eq z hp']
      have b1 := last_sz_pos g.u hp'
      have b2 := g.l1
      have b3 := g.l2
      have : szOf A.us p * A.l ≤ 1000000000000000000 * 1000 := Int.mul_le_mul b1.2 b3 (by omega) (by decide)
      omega
  omega
theorem chg_le {A : Lad} (g : A.Ok) {n x : Int} {k : Nat} (n0 : 0 ≤ n) (hk : k ≤ 6) (h : x ∈ A.chg n k) : 0 ≤ x ∧ x ≤ n + 10000000000000000000 := by
  obtain ⟨j, hj, e⟩ := List.mem_map.mp h
  have hj' := List.mem_range.mp hj
  obtain ⟨k1, k2, k3⟩ := placedM_ok (c := A.c) g n0
  have hp := g.stp k1
  have hs := (steps_ok g k1).2.2
  have es := placed_snd A.us A.d A.s A.c A.l n
  have h1 := firstR_hi (m := (placedM A.us A.d A.s A.c A.l n).2 + (1 + (j : Int))) (s := A.s) hp.pos
  have h0 := firstR_nn (m := (placedM A.us A.d A.s A.c A.l n).2 + (1 + (j : Int))) (s := A.s) hp.pos (by omega)
  -- the mark of n stands for at most a step more than n
  have h2 := (rnd_ge (n := n) (m := (placedM A.us A.d A.s A.c A.l n).2) hp.srt hp.even hp.pos n0 k2).mp (by rw [← es]; exact Int.le_refl _)
  have h3 := firstR_lo (m := (placedM A.us A.d A.s A.c A.l n).2) (s := A.s) hp.pos
  generalize (stepsOf A.us A.d).getD (placedM A.us A.d A.s A.c A.l n).1 0 = st at *
  generalize (placedM A.us A.d A.s A.c A.l n).2 = m at *
  have e2 : (m + (1 + (j : Int))) * st = m * st + (1 + (j : Int)) * st := by rw [Int.add_mul]
  have h5 : (1 + (j : Int)) * st ≤ 6 * 1000000000000000000 := Int.mul_le_mul (by omega) hs (by have := hp.pos; omega) (by decide)
  rw [← e]
  omega
theorem poss_le {A B : Lad} (g : A.Ok) (g' : B.Ok) {x : Int} (h : x ∈ possL A B (A.stars ++ B.stars)) : 0 ≤ x ∧ x ≤ 100000000000000000000000 := by
  obtain ⟨y, hy, hx⟩ := List.mem_flatMap.mp h
  have by' : 0 ≤ y ∧ y ≤ 1000000000000000000000 := by
    rcases List.mem_append.mp hy with k | k
    · exact stars_le g k
    · exact stars_le g' k
  rcases List.mem_cons.mp hx with k | k
  · omega
  · rcases List.mem_append.mp k with k | k
    · have := chg_le g by'.1 (by omega) k
      omega
    · have := chg_le g' by'.1 (by omega) k
      omega
theorem least_exists {p : Int → Prop} {n : Int} (n0 : 0 ≤ n) (hn : p n) : ∃ m, 0 ≤ m ∧ m ≤ n ∧ p m ∧ ∀ x, 0 ≤ x → x < m → ¬ p x := by
  have key : ∀ k : Nat, ∀ n : Int, n = (k : Int) → p n → ∃ m, 0 ≤ m ∧ m ≤ n ∧ p m ∧ ∀ x, 0 ≤ x → x < m → ¬ p x := by
    intro k
    induction k using Nat.strongRecOn with
    | ind k ih =>
      intro n e hn
      by_cases h : ∃ x, 0 ≤ x ∧ x < n ∧ p x
      · obtain ⟨x, x0, x1, hx⟩ := h
        obtain ⟨m, m0, m1, hm, hl⟩ := ih x.toNat (by omega) x (by omega) hx
        exact ⟨m, m0, by omega, hm, hl⟩
      · exact ⟨n, by omega, Int.le_refl _, hn, fun x x0 x1 hx => h ⟨x, x0, x1, hx⟩⟩
  exact key n.toNat n (by omega) hn
/-- what is asked of the numbers that are tried -/
theorem unlike_all {A B : Lad} (g : A.Ok) (g' : B.Ok) (h : ∀ x ∈ possL A B (A.stars ++ B.stars), A.show x = B.show x) : Unlike A B none := by
  -- the marks have less than 40 digits up to here
  intro x x0 x1
  by_cases e : A.show x = B.show x
  · exact e
  · exfalso
    obtain ⟨m, m0, m1, hm, hl⟩ := least_exists (p := fun x => A.show x ≠ B.show x) x0 e
    obtain ⟨a, ha, hc⟩ := unlike_tried (c := A.c) (c' := B.c) g g' m0 (by omega) hm (fun x x0 x1 => Classical.not_not.mp (hl x x0 x1))
    refine hm (h m (List.mem_flatMap.mpr ⟨a, List.mem_append.mpr ha, ?_⟩))
    rcases hc with k | k | k
    · rw [k]
      exact List.mem_cons_self
    · exact List.mem_cons_of_mem _ (List.mem_append_left _ k)
    · exact List.mem_cons_of_mem _ (List.mem_append_right _ k)
theorem unlike_some {A B : Lad} (g : A.Ok) (g' : B.Ok) {n : Int} (hn : n ∈ possL A B (A.stars ++ B.stars)) (hne : A.show n ≠ B.show n) (hl : ∀ x ∈ possL A B (A.stars ++ B.stars), A.show x ≠ B.show x → n ≤ x) : Unlike A B (some n) := by
  have hb := poss_le g g' hn
  refine ⟨hb.1, hb.2, hne, fun x x0 x1 => ?_⟩
  by_cases e : A.show x = B.show x
  · exact e
  · exfalso
    obtain ⟨m, m0, m1, hm, hl2⟩ := least_exists (p := fun x => A.show x ≠ B.show x) x0 e
    obtain ⟨a, ha, hc⟩ := unlike_tried (c := A.c) (c' := B.c) g g' m0 (by omega) hm (fun x x0 x1 => Classical.not_not.mp (hl2 x x0 x1))
    have hmm : m ∈ possL A B (A.stars ++ B.stars) := by
      refine List.mem_flatMap.mpr ⟨a, List.mem_append.mpr ha, ?_⟩
      rcases hc with k | k | k
      · rw [k]
        exact List.mem_cons_self
      · exact List.mem_cons_of_mem _ (List.mem_append_left _ k)
      · exact List.mem_cons_of_mem _ (List.mem_append_right _ k)
    have := hl m hmm hm
    omega
end My

namespace My
open PySem PySem.Spec PyProof.Rows L2
/-! ### defs that are called while nothing is being displayed -/
/-- what a def keeps to, where no display of anything is under way -/
structure FnG (P : Program) (w : World) (K : PySem.W.Frag) (mg : Str → Option Value) (base : Heap) (k : Nat) (f : Addr) (fd : FuncData) (ps : List Str) (sp : Sp) : Prop where
  len : ∀ xs M Q E, sp xs M Q E → xs.length = ps.length
  run : ∀ (A : Around) (up : List Env) (t : Shared) (M : Hp) (given : Args) (us : List Value) (xs : List V) (Q : VK) (E : XK),
    A.guards = some [] → Room k A → Env0 P w K mg base A up t M → BindsTo t fd given (ps.zip us) → Vals xs us → sp xs M Q E → codeAny (model P w) A (.call (.ref f) given) (CR CX0 up P w M t Q E) t
section
variable {P : Program} {w : World} {K : PySem.W.Frag} {mg : Str → Option Value} {base : Heap}
theorem FnG.of {k : Nat} {f : Addr} {fd : FuncData} {ps : List Str} {sp : Sp} (F : FnOk P w K mg base CX0 k f fd ps sp) : FnG P w K mg base k f fd ps sp :=
  ⟨F.len, fun A up t M given us xs Q E _ => F.run A up t M given us xs Q E⟩
theorem Fun_okG {x qual : Str} {st : Stmt} {f : Addr} {fd : FuncData} {N ps : List Str} {k : Nat} {sp : Sp} (F : Fun K x qual st f fd) (S : FnScope N ps (defScope st)) (len : ∀ xs M Q E, sp xs M Q E → xs.length = ps.length)
    (body : ∀ (cdv : Value) (A : Around) (up : List Env) (s : Shared) (M : Hp) (xs : List V) (Q : VK) (E : XK), A.guards = some [] → Room k (A.deeper (envOfC qual (defScope st) s.heap.objs.size f cdv)) → sp xs M Q E →
      ∃ t, PSs (cxOf CX0 P w K mg base N qual (defScope st) f cdv A up s M E).nox (defBody st) t ∧ t { nx := fun _ M' => Q .non M', rt := Q } (start N xs) M) : FnG P w K mg base (k + 1) f fd ps sp := by
  obtain ⟨oc, od, kV, doc, pm, an, cdv, ct, osl, rfl, look, hc⟩ := F.ex
  refine ⟨len, fun A up s M given us xs Q E gd room en bd rel want => ?_⟩
  have inK : K.In s.heap := en.mod.kin.keeps fun b o e => (en.bs b o e).1
  have free := en.mod.nolimit.keeps (h' := s.heap) fun b o e => (en.bs b o e).1
  have many := len _ _ _ _ want
  have kinds : ∀ y ∈ ps.zip us, (defScope st).names.lookup y.1 = some .local ∨ ((defScope st).names.lookup y.1 = some .cell ∧ ((cellsFrom (s.heap.objs.size + 1) (defScope st).names []).lookup y.1).isSome = true) := by
    rintro ⟨n, v⟩ hy
    rcases S.par n (List.of_mem_zip hy).1 with z | z
    · exact .inl z
    · exact .inr ⟨z, PySem.W.cellsFrom_some _ _ _ (.inl z)⟩
  refine codeAny_call_function room.depth (inK _ _ look) rfl S.co S.gen rfl (PySem.W.codeRec_of inK hc) (bd _ _ _ _ ?_)
  refine wpAny_newFunctionEnv_cells S.kind kinds fun env same s1 made => ?_
  subst same
  refine ⟨free.keeps made.toInCall.keep, codeAny_func ?_⟩
  obtain ⟨t, h0, q⟩ := body cdv A up s M xs Q E gd (room.deeper _) want
  have h1 := h0.nox
  have J := inv_start (CX := CX0) (E := E) S room.hd en many rel made
  refine wpAny_mono (h1.run [] s1 (start N xs) M _ J q) (fun fl s' z => ?_) fun e s' z => z
  cases fl with
  | ret u =>
    obtain ⟨v, σ', M', I, rv, hq⟩ := z
    exact ⟨v, M', I.os, I.bare, I.base, I.hok, rv, hq⟩
  | next =>
    obtain ⟨σ', M', I, hq⟩ := z
    exact ⟨V.non, M', I.os, I.bare, I.base, I.hok, rfl, hq⟩
  | brk => exact z.elim fun _ z => z.elim fun _ z => z.2.elim
  | cont => exact z.elim fun _ z => z.elim fun _ z => z.2.elim
end
section
variable {X : Cx} {k : Nat} {f : Addr} {fd : FuncData} {ps : List Str} {sp : Sp} {E : XK}
/-- f(e, ..) of such a def -/
theorem pe_callG {x : Str} {e : Expr} {es : List Expr} {t : TA} {p pos : Pos} (F : FnG X.prog X.w X.K X.mg X.base k f fd ps sp) (gd : X.A.guards = some []) (hr : Room k X.A) (hg : Gl X x) (hm : X.mg x = some (.ref f)) (hk : PySem.W.keepIn X.K (.ref f) = true) (hb : Binds X.K fd ps [])
    (hx : Passes CX0 X E) (ha : PA X (e :: es) t) (hdb : (x == ("__debug__" : Str)) = false := by decide) (he : starEach (e :: es) X.env = (false, eval e X.env) :: starEach es X.env := by rfl) (hpl : (backTo pos (starEach es X.env)).any (·.1) = false := by rfl) :
    PE X (.Call (.Name x p) (e :: es) [] pos) (tCall sp [] E t) := by
  refine ⟨fun pins s σ M Q I h => wpAny_Call_Name_kw (ld_glob I hg hm ?_ hdb)⟩
  refine PySem.W.callWith_K (h₀ := X.base) I.ok.mod.kin hk (thn (ha.run pos pins s σ M _ I h) fun us s1 ⟨xs, M1, J, r, q⟩ => ⟨J.kIn, ?_⟩) he hpl
  have q : sp (xs ++ []) M1 Q E := q
  rw [List.append_nil] at q
  have hl : us.length = ps.length := by rw [← r.length]; exact F.len _ _ _ _ q
  have bd : BindsTo s1 fd ⟨us, []⟩ (ps.zip us) := by
    have z := hb s1 us J.kIn (by rw [List.append_nil]; exact hl)
    rw [List.append_nil] at z
    exact z
  refine wpAny_call (codeAny_mono (F.run X.A X.stack s1 M1 ⟨us, []⟩ us xs Q E gd hr J.env0 bd r q) fun res s' z => ?_)
  cases res with
  | error v => exact hx pins σ M1 s1 v s' J z
  | ok fl =>
    cases fl with
    | ret u => exact J.after z
    | next => exact z.elim
    | brk => exact z.elim
    | cont => exact z.elim
/-- repr of data -/
theorem call_reprD (gd : X.A.guards = some []) (hu : X.A.units + 66 < cLine) : CallR X (.builtin "repr") (fun xs M Q => ∃ (a : Addr) (d : PyData), xs = [.ref a] ∧ Dp X.K M (.ref a) d ∧ d.showable = true ∧ d.hasDict = false ∧ d.depth ≤ 64 ∧ d.shown.length ≤ sizeLine ∧ Q (.str d.shown) M) := by
  intro pins s σ M xs us Q I r h
  obtain ⟨a, d, rfl, hd, h1, h2, h3, h4, q⟩ := h
  obtain ⟨u, rfl, hu1⟩ := vals1 r
  cases hu1
  obtain ⟨as, rd⟩ := Dp.reads I d (.ref a) (.ref a) hd rfl
  refine repr_of_reads' rd h1 (PyData.noDict_hsm h2) gd (by omega) (fun _ _ e => e) (fun h' u tk hk => ?_) h4
  exact ⟨.str d.shown, M, I.kept hk, ⟨u, rfl⟩, q⟩
end
/-! ### the law's own promise, at the heap behind the top -/
theorem ints_vals : ∀ {vs : List Value} {ns : List Int}, IntsAre vs ns → Vals (ns.map V.int) vs
  | _, _, .nil => .nil
  | _, _, .cons _ tok more => .cons ⟨tok, rfl⟩ (ints_vals more)
/-- the law's def is called with the script -/
theorem head_G {P : Program} {w : World} {K : PySem.W.Frag} {mg mb : Str → Option Value} {k : Nat} {fa a : Addr} {fd : FuncData} {x : Str} {sp : Sp} {s1 : Shared} {vs : List Value} {ns : List Int}
    (inK : K.In s1.heap) (top : s1.heap.Ns mainGlobals mg) (blt : s1.heap.Ns builtinsNs mb) (boot : ∀ y : Str, y ≠ "__name__" → mb y = bootBuiltins y) (free : s1.heap.NoLimit) (quiet : s1.gens = #[])
    (obj : s1.heap.get? a = some { cls := .type "list", data := .seq vs.toArray }) (isI : IntsAre vs ns) (size : ns.length ≤ sizeLine) (room : Room k callerA)
    (F : ∀ base : Heap, K.In base → base.Ns mainGlobals mg → FnG P w K mg base k fa fd [x] sp) (bind : ∀ (s : Shared) (u : Value), BindsTo s fd ⟨[u], []⟩ [(x, u)])
    (want : ∀ M : Hp, Only M → SqL K M a (ns.map V.int) → sp [.ref a] M (fun v _ => v = .bl true) fun _ _ _ => False) (none_raised : ∀ M e s', CX0 [] M s1 (fun _ _ _ => False) e s' → False) :
    codeAny (model P w) callerA (.call (.ref fa) ⟨[.ref a], []⟩) (fun r s' => r = .ok (.ret (.bool true)) ∧ OldK s1.heap s'.heap ∧ s'.os = s1.os ∧ AllBare s'.gens) s1 := by
  have rel := ints_vals isI
  have go : ∀ M : Hp, Only M → SqL K M a (ns.map V.int) → HOk P w M s1.heap → (∀ b, M b ≠ none → b = a ∧ K.lookup a = none) →
      codeAny (model P w) callerA (.call (.ref fa) ⟨[.ref a], []⟩) (fun r s' => r = .ok (.ret (.bool true)) ∧ OldK s1.heap s'.heap ∧ s'.os = s1.os ∧ AllBare s'.gens) s1 := by
    intro M only seq ok just
    have is_a : ∀ {b : Addr} {o : Obj}, s1.heap.get? b = some o → (o = { cls := .type "list", data := .seq vs.toArray } → K.lookup a = none → False) → M b = none := fun {b o} e no => by
      rcases hb : M b with _ | y
      · rfl
      · obtain ⟨rfl, z⟩ := just b (by rw [hb]; exact fun z => nomatch z)
        rw [obj] at e
        exact (no (Option.some.inj e).symm z).elim
    have spaces : ∀ {b : Addr} {m : Str → Option Value}, s1.heap.Ns b m → (hidT s1.heap M).Ns b m := by
      rintro b m ⟨o, es, n, e, d, rest⟩
      refine ⟨o, es, n, hidT_get e (is_a e fun eo _ => ?_), d, rest⟩
      rw [eo] at d
      cases d
    have inB : K.In (hidT s1.heap M) := fun b o e => hidT_get (inK b o e) (by
      rcases hb : M b with _ | y
      · rfl
      · obtain ⟨rfl, z⟩ := just b (by rw [hb]; exact fun z => nomatch z)
        rw [z] at e
        cases e)
    have lim : ∃ mc, (hidT s1.heap M).Ns _ mc ∧ _ := free.elim fun mc z => ⟨mc, spaces z.1, z.2⟩
    have en : Env0 P w K mg (hidT s1.heap M) callerA [] s1 M :=
      ⟨rfl, ⟨inB, spaces top, ⟨mb, spaces blt, boot⟩, lim⟩, fun _ _ e => of_hidT e, Nat.le_of_eq (hidT_size _ _), trivial, fun b z => absurd (show b ∈ ([] : List Addr) from z) List.not_mem_nil, ok, .of_eq quiet⟩
    have ran := (F _ inB (spaces top)).run callerA [] s1 M ⟨[.ref a], []⟩ [.ref a] [.ref a] _ _ rfl room en (bind s1 (.ref a)) (.cons rfl .nil) (want M only seq)
    refine codeAny_mono ran fun r s' z => ?_
    rcases r with e | fl
    · exact (none_raised M e s' z).elim
    · rcases fl with _ | _ | _ | u
      · exact z.elim
      · exact z.elim
      · exact z.elim
      · obtain ⟨v, M', os, bare, un, ok', rv, hv⟩ := z
        have hv : v = .bl true := hv
        subst hv
        have hu : u = Value.bool true := rv
        subst hu
        refine ⟨rfl, OldK.of_keep fun b o e => ?_, os, bare⟩
        rcases hb : M b with _ | y
        · exact un.keep b o e hb (fun z => absurd (show b ∈ ([] : List Addr) from z) List.not_mem_nil) List.not_mem_nil
        · rcases only b with z | ⟨ob, xs, z⟩
          · rw [hb] at z
            cases z
          · have still := (ok' b _ (un.frzs b _ _ z)).1
            have old := (ok b _ z).1
            rw [e] at old
            cases old
            exact still
  rcases known : K.lookup a with _ | o
  · let M : Hp := fun b => if b = a then some (.frz { cls := .type "list", data := .seq vs.toArray } (.lst (ns.map V.int))) else none
    have at_a : M a = some (.frz { cls := .type "list", data := .seq vs.toArray } (.lst (ns.map V.int))) := if_pos rfl
    have off : ∀ b, b ≠ a → M b = none := fun b h => if_neg h
    refine go M (fun b => ?_) (.inl (.inr ⟨_, at_a⟩)) (fun b u z => ?_) (fun b z => ⟨?_, known⟩)
    · by_cases h : b = a
      · exact .inr ⟨_, _, by rw [h]; exact at_a⟩
      · exact .inl (off b h)
    · by_cases h : b = a
      · subst h
        have z' := at_a.symm.trans z
        cases z'
        exact ⟨obj, by rw [List.length_map]; exact size, vs, _, rel, obj⟩
      · rw [off b h] at z
        cases z
    · exact Classical.byContradiction fun h => z (off b h)
  · have e := inK a o known
    rw [obj] at e
    cases e
    exact go (fun _ => none) (fun _ => .inl rfl) (.inr ⟨_, vs.toArray, _, known, rfl, rfl, rfl, by rw [List.size_toArray, isI.length]; exact size, by simpa using rel⟩) (fun _ _ z => nomatch (show (none : Option HO) = some _ from z)) fun b z => absurd rfl z
theorem walk_G {l : PySem.W.OpenLaw} {n k : Nat} {q : Program} {loose : List Str} {XP : (Str → Option Value) → Heap → Prop} {YP : World → Heap → Prop} {d : DefRec} {K : Params → PySem.W.Frag} {sp : World → Sp} {x : Str}
    (most : l.most = some n) (most2 : n ≤ sizeLine) (plain : d.params.defaults = []) (room : Room k callerA) (part : ∀ (w : World) (h : Heap), YP w h → (K w.params).In h)
    (F : ∀ (w : World) (mg : Str → Option Value) (fa : Addr) (h : Heap), (K w.params).In h → h.Ns mainGlobals mg → mg d.name = some (.ref fa) → ∃ fd : FuncData,
      (∀ (s : Shared) (u : Value), BindsTo s fd ⟨[u], []⟩ [(x, u)]) ∧ ∀ base : Heap, (K w.params).In base → base.Ns mainGlobals mg → FnG l.prog w (K w.params) mg base k fa fd [x] (sp w))
    (want : ∀ (w : World) (M : Hp) (a : Addr) (ns : List Int), ns.length ≤ n → Only M → SqL (K w.params) M a (ns.map V.int) → sp w [.ref a] M (fun v _ => v = .bl true) fun _ _ _ => False) :
    PySem.W.WalkO q loose XP YP l.row.toRowW d [] (fun f vs => PySem.call f vs) := by
  refine Att.attach_call most plain fun w s₀ s₁ mg mb fa o pm cd doc a vs ns G Y ho hd hcd hmg hobj hints hlen hg => ?_
  have inK := part w _ Y
  obtain ⟨fd, bind, run⟩ := F w mg fa _ inK G.T.g hmg
  exact head_G inK G.T.g G.T.b G.T.builtins G.T.nolimit hg hobj hints (Nat.le_trans hlen most2) room run bind (fun M only seq => want w M a ns hlen only seq) fun _ _ _ z => z
end My

namespace My
open PySem PySem.Spec PyProof.Rows L2
section
variable {P : Program} {w : World} {K : PySem.W.Frag} {mg : Str → Option Value} {base : Heap}
theorem ok_lawG {kR : Nat} {f fS fR : Addr} {fd fdS fdR : FuncData} (F : Fun K "law" "law" sLaw f fd) (FS : Fun K "_law_spring" "_law_spring" sSpring fS fdS) (bS : Binds K fdS ["_law_script", "_law_k"] []) (gS : mg "_law_spring" = some (.ref fS))
    (kpR : PySem.W.keepIn K (.ref fR) = true) (GR : FnG P w K mg base (kR + 2) fR fdR ["_law_spring_here"] spRight) (bR : Binds K fdR ["_law_spring_here"] []) (gR : mg "_law_right" = some (.ref fR)) (B : Bt mg) :
    FnG P w K mg base (kR + 3) f fd ["_law_script"] (spLaw K) := by
  have GS : FnOk P w K mg base CX0 2 fS fdS ["_law_script", "_law_k"] (spSpring K) := ok_spring FS B
  refine Fun_okG F scLaw (fun vs H Q E h => ?_) (fun cdv A outer s H vs Q E gd hr h => ?_)
  · obtain ⟨a, xs, rfl, _⟩ := h
    rfl
  · obtain ⟨a, ns, rfl, hs, hlen, q⟩ := h
    have hr1 : Room 2 _ := hr.mono (by omega)
    refine ⟨_, pss_one (ps_ret (pe_callB (cr_all rfl) (by rfl) B.all (by decide +kernel) (pa_cons
      (pe_lc (own := [("_law_k", 1)]) (g := gName 1) (tt := tYes) rfl scLaw.nd
        (pi_range1 (by rfl) B.range (pa_cons (pe_callB (call_max2 rfl) (by rfl) B.max (by decide +kernel) (pa_cons pe_int (pa_cons (pe_callB (call_min2 rfl) (by rfl) B.min (by decide +kernel) (pa_cons (pe_callB call_len_seq (by rfl) B.len PySem.boot_len (pa_cons (pv 0) pa_nil)) (pa_cons pe_int pa_nil))) pa_nil))) pa_nil))
        (blkOk_by (own := [("_law_k", 1)]) (N := ["_law_script", "_law_k"]) (sc := defScope sLaw) (by decide +kernel)) (fun _ _ _ _ _ => pg_name (i := 1) scLaw.nd rfl (Or.inl rfl)) (fun _ _ _ _ _ => pts_nil)
        (fun _ _ _ _ _ => pe_callG GR gd hr (by rfl) gR kpR bR pass0 (pa_cons (pe_call GS hr1 (by rfl) gS FS.kp bS .nil pass0 (pa_cons (pv 0) (pa_cons (pv 1) pa_nil))) pa_nil)))
      pa_nil))), ?_⟩
    refine ⟨.ref a, rfl, a, _, rfl, .inl hs, _, 5, rfl, 2, _, rfl, _, rfl, ?_, ?_, ?_⟩
    · split <;> (try split) <;> rw [List.length_map] at * <;> omega
    · split <;> (try split) <;> rw [List.length_map] at * <;> omega
    · intro D nD
      refine lc_range (n := _) (fun i H2 => Same H H2 ∧ H2 D = some (.lst (List.replicate i (V.bl true)))) ⟨same_upd nD, upd_same⟩ ?_ ?_
      · rintro i H2 hi ⟨sm, hD⟩
        refine ⟨rfl, .ref a, rfl, .int (0 + (i : Int)), rfl, a, _, ns, rfl, sm.seq hs, by omega, hlen, fun p H3 sm3 np hp => ?_⟩
        have nDp : D ≠ p := ne_of_none hD np
        refine ⟨p, rfl, hp, fun H4 b4 => ?_⟩
        have hD4 : H4 D = some (.lst (List.replicate i (V.bl true))) := b4 _ _ (sm3 _ _ hD) nDp
        refine ⟨_, hD4, ?_, fun b o e => ?_, ?_⟩
        · rw [List.length_replicate]
          have hi2 : i < 6 := by
            revert hi
            split <;> (try split) <;> omega
          exact Nat.lt_of_lt_of_le hi2 (by decide)
        · have nbD : b ≠ D := ne_of_none e nD
          rw [upd_ne nbD]
          exact b4 _ _ (sm3 _ _ (sm _ _ e)) (ne_of_none (sm _ _ e) np)
        · rw [upd_same, List.replicate_succ']
      · rintro H2 ⟨sm, hD⟩
        obtain ⟨n, hD⟩ : ∃ n, H2 D = some (.lst (List.replicate n (V.bl true))) := ⟨_, hD⟩
        refine ⟨D, List.replicate n true, rfl, ?_, ?_⟩
        · rw [List.map_replicate]
          exact SqL.of hD
        · have e : (List.replicate n true).all id = true := by simp
          rw [e]
          exact q _
end
/-! ### how long the text of data is -/
mutual
def lenB : PyData → Nat
  | .none => 4
  | .bool _ => 5
  | .int _ => 41
  | .str x => 10 * x.length + 2
  | .list xs => lenBs xs + 3
  | .tuple xs => lenBs xs + 5
  | .dict _ => 0
def lenBs : List PyData → Nat
  | [] => 0
  | x :: r => lenB x + 2 + lenBs r
end
mutual
def plainD : PyData → Bool
  | .none => true
  | .bool _ => true
  | .int i => decide (i.natAbs < 10 ^ 40)
  | .str x => x.cps.toList.all fun c => decide (c < 0x110000)
  | .list xs => plainDs xs
  | .tuple xs => plainDs xs
  | .dict _ => false
def plainDs : List PyData → Bool
  | [] => true
  | x :: r => plainD x && plainDs r
end
mutual
theorem shown_le : ∀ d : PyData, plainD d = true → d.shown.length ≤ lenB d
  | .none, _ => by simp only [PyData.shown, lenB]; decide
  | .bool true, _ => by simp only [PyData.shown, lenB]; decide
  | .bool false, _ => by simp only [PyData.shown, lenB]; decide
  | .int i, h => by
    simp only [plainD] at h
    simp only [PyData.shown, lenB]
    have := int_text_length_le10 (a := i) (k := 40) (by decide) (of_decide_eq_true h)
    rw [PySem.ofString_length]
    exact this
  | .str x, h => by
    simp only [plainD, List.all_eq_true] at h
    simp only [PyData.shown, lenB]
    exact PySem.StrLaws.reprText_len x fun c hc => Nat.lt_of_lt_of_le (of_decide_eq_true (h c hc)) (by decide)
  | .list xs, h => by
    simp only [plainD] at h
    simp only [PyData.shown, lenB]
    have h1 := listText_len_le (PyData.shownAll xs)
    have h2 := showns_le xs h
    omega
  | .tuple xs, h => by
    simp only [plainD] at h
    simp only [PyData.shown, lenB]
    have h1 := tupleText_len_le (PyData.shownAll xs)
    have h2 := showns_le xs h
    omega
  | .dict _, h => by simp [plainD] at h
theorem showns_le : ∀ xs : List PyData, plainDs xs = true → ((PyData.shownAll xs).map (·.length)).sum + 2 * (PyData.shownAll xs).length ≤ lenBs xs
  | [], _ => by simp [PyData.shownAll, lenBs]
  | x :: r, h => by
    simp only [plainDs, Bool.and_eq_true] at h
    have h1 := shown_le x h.1
    have h2 := showns_le r h.2
    simp only [PyData.shownAll, lenBs, List.map_cons, List.sum_cons, List.length_cons]
    omega
end
mutual
theorem plain_show : ∀ d : PyData, plainD d = true → d.showable = true
  | .none, _ => by simp [PyData.showable]
  | .bool _, _ => by simp [PyData.showable]
  | .int i, h => by
    simp only [plainD] at h
    have h1 := of_decide_eq_true h
    simp only [PyData.showable]
    refine decide_eq_true ?_
    by_cases h0 : i.natAbs = 0
    · rw [h0]
      decide
    · exact (Nat.log2_lt h0).mpr (Nat.lt_trans h1 (by decide))
  | .str _, _ => by simp [PyData.showable]
  | .list xs, h => by
    simp only [plainD] at h
    simp only [PyData.showable]
    exact plain_shows xs h
  | .tuple xs, h => by
    simp only [plainD] at h
    simp only [PyData.showable]
    exact plain_shows xs h
  | .dict _, h => by simp [plainD] at h
theorem plain_shows : ∀ xs : List PyData, plainDs xs = true → PyData.showableAll xs = true
  | [], _ => by simp [PyData.showableAll]
  | x :: r, h => by
    simp only [plainDs, Bool.and_eq_true] at h
    simp only [PyData.showableAll, Bool.and_eq_true]
    exact ⟨plain_show x h.1, plain_shows r h.2⟩
end
mutual
theorem plain_flat : ∀ d : PyData, plainD d = true → d.hasDict = false
  | .none, _ => by simp [PyData.hasDict]
  | .bool _, _ => by simp [PyData.hasDict]
  | .int _, _ => by simp [PyData.hasDict]
  | .str _, _ => by simp [PyData.hasDict]
  | .list xs, h => by
    simp only [plainD] at h
    simp only [PyData.hasDict]
    exact plain_flats xs h
  | .tuple xs, h => by
    simp only [plainD] at h
    simp only [PyData.hasDict]
    exact plain_flats xs h
  | .dict _, h => by simp [plainD] at h
theorem plain_flats : ∀ xs : List PyData, plainDs xs = true → PyData.hasDictAll xs = false
  | [], _ => by simp [PyData.hasDictAll]
  | x :: r, h => by
    simp only [plainDs, Bool.and_eq_true] at h
    simp only [PyData.hasDictAll, plain_flat x h.1, plain_flats r h.2, Bool.or_self]
end
/-- repr of data, made plain -/
theorem call_reprP {X : Cx} (gd : X.A.guards = some []) (hu : X.A.units + 66 < cLine) : CallR X (.builtin "repr") (fun xs M Q => ∃ (a : Addr) (d : PyData), xs = [.ref a] ∧ Dp X.K M (.ref a) d ∧ plainD d = true ∧ d.depth ≤ 64 ∧ lenB d ≤ sizeLine ∧ Q (.str d.shown) M) := by
  intro pins s σ M xs us Q I r h
  obtain ⟨a, d, e, hd, h1, h2, h3, q⟩ := h
  exact call_reprD gd hu pins s σ M xs us Q I r ⟨a, d, e, hd, plain_show d h1, plain_flat d h1, h2, Nat.le_trans (shown_le d h1) h3, q⟩
/-- repr of a value that is plain data -/
theorem call_reprA {X : Cx} (gd : X.A.guards = some []) (hu : X.A.units + 66 < cLine) : CallR X (.builtin "repr") (fun xs M Q => ∃ (v : V) (d : PyData), xs = [v] ∧ Dp X.K M v d ∧ plainD d = true ∧ d.depth ≤ 64 ∧ lenB d ≤ sizeLine ∧ Q (.str d.shown) M) := by
  intro pins s σ M xs us Q I r h
  obtain ⟨v, d, rfl, hd, h1, h2, h3, q⟩ := h
  have hl := Nat.le_trans (shown_le d h1) h3
  have hs := plain_show d h1
  cases hd with
  | non =>
    obtain ⟨u, rfl, hu⟩ := vals1 r
    cases hu
    have e : PyData.none.shown = "None" := by simp only [PyData.shown]
    rw [e] at q
    exact PySem.P.repr_of_none ⟨.str _, M, I.tok _, ⟨_, rfl⟩, q⟩
  | bl b =>
    obtain ⟨u, rfl, hu⟩ := vals1 r
    cases hu
    have e : (PyData.bool b).shown = (if b = true then Str.ofString "True" else Str.ofString "False") := by cases b <;> simp only [PyData.shown] <;> rfl
    rw [e] at q
    exact PySem.P.repr_of_bool ⟨.str _, M, I.tok _, ⟨_, rfl⟩, q⟩
  | int i =>
    obtain ⟨u, rfl, tk, rfl⟩ := vals1 r
    have e : (PyData.int i).shown = Str.ofString (toString i) := by simp only [PyData.shown]
    rw [e] at q
    simp only [PyData.showable] at hs
    exact PySem.P.repr_of_int (of_decide_eq_true hs) ⟨.str _, M, I.tok _, ⟨_, rfl⟩, q⟩
  | str x =>
    obtain ⟨u, rfl, tk, rfl⟩ := vals1 r
    have e : (PyData.str x).shown = reprText x := by simp only [PyData.shown]
    rw [e] at q hl
    exact PySem.P.repr_of_str ⟨.str _, M, I.tok _, ⟨_, rfl⟩, q⟩ hl
  | lst a b => exact call_reprP gd hu pins s σ M _ us Q I r ⟨_, _, rfl, .lst a b, h1, h2, h3, q⟩
  | tup a b => exact call_reprP gd hu pins s σ M _ us Q I r ⟨_, _, rfl, .tup a b, h1, h2, h3, q⟩
end My

namespace My
open PySem PySem.Spec PyProof.Rows L2
theorem iteE {c : Bool} {P Q : Prop} (h : c = false) (q : Q) : if c = true then P else Q := by
  subst h
  exact iteF q
theorem ne_same {x y : Int} (h : x = y) : (!decide (V.int x = V.int y)) = false := by
  rw [h, decide_eq_true rfl]
  rfl
theorem LadAt.but {K : PySem.W.Frag} {C : Addr} {H H' : Hp} {a p : Addr} {us : List (Str × Int)} {d : Nat} {s : Str} {c : Bool} {l : Int} (hp : Spr H a) (k : But a H H') (h : LadAt K C H p us d s c l) : LadAt K C H' p us d s c l := by
  obtain ⟨dx, ua, t, st, th, h1, h2, h3, h4, h5⟩ := h
  have npa : p ≠ a := by
    obtain ⟨x, y, z, e⟩ := hp
    exact ne_of h1 e (by intro z; cases z)
  exact ⟨dx, ua, t, st, th, k _ _ h1 npa, UA.butS hp k h2, k.sqtS hp h3, k.sqtS hp h4, k.sqtS hp h5⟩
theorem ToldAt.updL {K : PySem.W.Frag} {H : Hp} {D r : Addr} {xs ys : List V} {us : List (Str × Int)} {d : Nat} {s : Str} {c : Bool} {l : Int} (hD : H D = some (.lst xs)) (h : ToldAt K H r us d s c l) : ToldAt K (upd H D (.lst ys)) r us d s c l := by
  obtain ⟨ua, h1, h2⟩ := h
  exact ⟨ua, (But.upd D _ _).sqt hD rfl h1, UA.but hD rfl (But.upd D _ _) h2⟩
theorem LadAt.updL {K : PySem.W.Frag} {C : Addr} {H : Hp} {D p : Addr} {xs ys : List V} {us : List (Str × Int)} {d : Nat} {s : Str} {c : Bool} {l : Int} (hD : H D = some (.lst xs)) (h : LadAt K C H p us d s c l) : LadAt K C (upd H D (.lst ys)) p us d s c l := by
  obtain ⟨dx, ua, t, st, th, h1, h2, h3, h4, h5⟩ := h
  have npa : p ≠ D := ne_of h1 hD (by intro z; cases z)
  exact ⟨dx, ua, t, st, th, by rw [upd_ne npa]; exact h1, UA.but hD rfl (But.upd D _ _) h2, (But.upd D _ _).sqt hD rfl h3, (But.upd D _ _).sqt hD rfl h4, (But.upd D _ _).sqt hD rfl h5⟩
theorem Spr.updL {H : Hp} {D a : Addr} {o : HO} (n : a ≠ D) (h : Spr H a) : Spr (upd H D o) a := by
  obtain ⟨x, y, z, e⟩ := h
  exact ⟨x, y, z, by rw [upd_ne n]; exact e⟩
theorem shown_same {us : List (Str × Int)} {d : Nat} {s : Str} {c : Bool} {l x y : Int} (g : Good us d s l) (x0 : 0 ≤ x) (y0 : 0 ≤ y) (x1 : x ≤ 1000000000000000000000000000000) (y1 : y ≤ 1000000000000000000000000000000) : shown us d s c l x = shown us d s c l y ↔ placedM us d s c l x = placedM us d s c l y := by
  constructor
  · intro e
    obtain ⟨k1, k2, k3⟩ := placedM_ok (c := c) g x0
    obtain ⟨j1, j2, j3⟩ := placedM_ok (c := c) g y0
    obtain ⟨e1, e2⟩ := writ_inj g.u g.d3 k1 j1 k2 j2 (by omega) (by omega) e
    exact Prod.ext e1 e2
  · intro e
    unfold shown
    rw [e]
theorem eq_otherS {x y : Str} (h : x ≠ y) : decide (V.str x = V.str y) = false := decide_eq_false fun e => h (V.str.inj e)
theorem ne_sameS {x y : Str} (h : x = y) : (!decide (V.str x = V.str y)) = false := by
  rw [h, decide_eq_true rfl]
  rfl
theorem ne_sameV {x y : V} (h : x = y) : (!decide (x = y)) = false := by
  rw [h, decide_eq_true rfl]
  rfl
theorem kb_rev {K : PySem.W.Frag} {mg : Str → Option Value} {x a b : Str} {st : Stmt} (d : Dd K mg x st [a, b]) (h : ∀ (kV doc pm : Value) (an : Option Addr) (cdv ct : Value) (u v : Value), bindArgs (PySem.W.fnOf x x (defArgs st) (defBody st) (defScope st) .none kV doc pm an cdv ct) ⟨[], [(b, u), (a, v)]⟩ = pure [(a, v), (b, u)]) : KBn K d.fd [a, b] 0 [b, a] (fun _ ws => ws.reverse) (fun _ ws => ws.reverse) := by
  obtain ⟨oc, od, kV, doc, pm, an, cdv, ct, osl, e, _⟩ := d.F.ex
  rw [e]
  refine ⟨fun s us ws _ h1 h2 => ?_, fun _ h2 => ?_⟩
  · match us, ws, h1, h2 with
    | [], [u, v], _, _ => exact .of_eq (h ..)
  · rename_i vs us zs ws h1
    clear h1 vs us
    have rev : ∀ {a : List V} {b : List Value}, Vals a b → Vals a.reverse b.reverse := fun {a b} h => by
      induction h with
      | nil => exact .nil
      | cons r t ih => rw [List.reverse_cons, List.reverse_cons]; exact ih.append (.cons r .nil)
    exact rev h2
/-- repr of an int or None -/
def dataO : Option Int → PyData
  | none => .none
  | some i => .int i
theorem call_reprO {X : Cx} : CallR X (.builtin "repr") (fun xs M Q => ∃ (v : V) (o : Option Int), xs = [v] ∧ ((o = none ∧ v = .non) ∨ ∃ i, o = some i ∧ v = .int i ∧ i.natAbs < 10 ^ 40) ∧ Q (.str (dataO o).shown) M) := by
  intro pins s σ M xs us Q I r h
  obtain ⟨v, o, rfl, h, q⟩ := h
  rcases h with ⟨rfl, rfl⟩ | ⟨i, rfl, rfl, hz⟩
  · obtain ⟨u, rfl, hu⟩ := vals1 r
    cases hu
    have e : (dataO none).shown = "None" := by simp only [dataO, PyData.shown]
    rw [e] at q
    exact PySem.P.repr_of_none ⟨.str _, M, I.tok _, ⟨_, rfl⟩, q⟩
  · obtain ⟨u, rfl, t, rfl⟩ := vals1 r
    have e : (dataO (some i)).shown = Str.ofString (toString i) := by simp only [dataO, PyData.shown]
    rw [e] at q
    have p := plain_show (.int i) (by simp only [plainD]; exact decide_eq_true hz)
    simp only [PyData.showable] at p
    exact PySem.P.repr_of_int (of_decide_eq_true p) ⟨.str _, M, I.tok _, ⟨_, rfl⟩, q⟩
theorem data_eqv_self : ∀ (d : PyData), d = d := fun _ => rfl
/-- len(xs) within a comprehension -/
def rLenQ (K : PySem.W.Frag) : List V → Hp → VK → Prop := fun vs M Q => ∃ (t : Addr) (items : List V), vs = [.ref t] ∧ (SqL K M t items ∨ SqT K M t items) ∧ Q (.int items.length) M
theorem call_lenQ {X : Cx} : CallR X (.builtin "len") (rLenQ X.K) := call_len_seq
end My

namespace My
open PySem PySem.Spec PyProof.Rows L2
/-! ### the texts of figures as data -/
theorem strOk_ofX {x : Str} (h : ∀ c ∈ x.cps.toList, c < 0x110000) : PyData.strOk x = true := by
  unfold PyData.strOk
  rw [← Array.all_toList, List.all_eq_true]
  exact fun c hc => decide_eq_true (h c hc)
theorem of_strOkX {x : Str} (h : PyData.strOk x = true) : ∀ c ∈ x.cps.toList, c < 0x110000 := by
  unfold PyData.strOk at h
  rw [← Array.all_toList, List.all_eq_true] at h
  exact fun c hc => of_decide_eq_true (h c hc)
theorem writ_okX {us : List (Str × Int)} {d : Nat} (g : GoodUs us) {p : Nat} {m : Int} (hm : 0 ≤ m) (hp : p < us.length) : PyData.strOk (writ us d p m) = true := by
  refine strOk_ofX fun c hc => ?_
  have hu : us[p]? = some us[p] := List.getElem?_eq_getElem hp
  have hn := of_strOkX (g.each p _ hu).1.2.2.1
  rw [writ_codes, name_at hp] at hc
  rcases List.mem_append.mp hc with z | z
  · have dd : ∀ c ∈ dg m, c < 0x110000 := fun c hc => by have := dg_digits hm c hc; omega
    unfold ahead at z
    split at z
    · exact dd c z
    · have zf' : ∀ c ∈ zf d m, c < 0x110000 := fun c hc => by
        unfold zf at hc
        rcases List.mem_append.mp hc with y | y
        · rw [(List.mem_replicate.mp y).2]
          decide
        · exact dd c y
      unfold body at z
      rcases List.mem_append.mp z with y | y
      · exact zf' c (List.mem_of_mem_take y)
      · rcases List.mem_cons.mp y with e | e
        · rw [e]
          decide
        · exact zf' c (List.mem_of_mem_drop e)
  · exact hn c z
theorem writ_len {us : List (Str × Int)} {d : Nat} (g : GoodUs us) (hd : d ≤ 3) {p : Nat} {m : Int} (hp : p < us.length) (hm : m.natAbs < 10 ^ 40) : (writ us d p m).length ≤ 60 := by
  rw [str_len, writ_codes, name_at hp, List.length_append]
  have hu : us[p]? = some us[p] := List.getElem?_eq_getElem hp
  have hn := (g.each p _ hu).1.1
  rw [str_len] at hn
  have h1 := dg_small hm
  have h2 : (ahead d p m).length ≤ 50 := by
    unfold ahead
    split
    · omega
    · unfold body
      rw [List.length_append, List.length_cons, List.length_take, List.length_drop, zf_len]
      omega
  omega
theorem writ_plain {us : List (Str × Int)} {d : Nat} (g : GoodUs us) {p : Nat} {m : Int} (hm : 0 ≤ m) (hp : p < us.length) : plainD (.str (writ us d p m)) = true := by
  have h := writ_okX (d := d) g hm hp
  simp only [plainD]
  rw [List.all_eq_true]
  exact fun c hc => decide_eq_true (of_strOkX h c hc)
theorem shown_key {us : List (Str × Int)} {d : Nat} {s : Str} {c : Bool} {l n : Int} (g : Good us d s l) (n0 : 0 ≤ n) (n1 : n ≤ 1000000000000000000000000000000) :
    plainD (.str (shown us d s c l n)) = true ∧ (shown us d s c l n).length ≤ 60 := by
  obtain ⟨k1, k2, k3⟩ := placedM_ok (c := c) g n0
  unfold shown
  exact ⟨writ_plain g.u k2 k1, writ_len g.u g.d3 k1 (by omega)⟩
end My

namespace My
open PySem PySem.Spec PyProof.Rows L2
/-- Ladder.__init__ with its keyword-only defaults -/
abbrev LadD (K : PySem.W.Frag) (f : Addr) (fd : FuncData) : Prop := FunD K "__init__" "Ladder.__init__" (defArgs sLInit) (defBody sLInit) (defScope sLInit) [] [("carry", .bl true), ("least", .int 1)] f fd
theorem kb_least {K : PySem.W.Frag} {f : Addr} {fd : FuncData} (F : LadD K f fd) : ∃ mv : List Value, KBn K fd ["self", "units", "decimals", "rounding", "carry", "least"] 4 ["least"] (fun us ws => us ++ mv ++ ws) (fun vs zs => vs ++ [V.bl true] ++ zs) :=
  F.kbinds0 4 ["least"] [("carry", .bl true)] (fun us mv ws => us ++ mv ++ ws) (by simp) (by simp) (fun r1 r2 r3 => (r1.append r2).append r3) (fun D doc pm an cdv ct us mv ws h1 h2 h3 => by
    match us, mv, ws, h1, h2, h3 with
    | [_, _, _, _], [_], [_], _, _, _ => exact ⟨_, _, _, _, _, _, rfl, rfl, rfl⟩)
end My

namespace EX
open PySem PySem.Spec PyProof.Rows L2
/-! ### errors of the program with one field -/
/-- the class nm with the field fd, its __init__ at ini -/
structure Err (K : PySem.W.Frag) (mg : Str → Option Value) (nm fd ql : Str) (ini : Stmt) where
  C : Addr
  f : Addr
  fdd : FuncData
  g : mg nm = some (.ref C)
  T : OexC K C
  X : XfC K C
  iC : PySem.W.findIn K (.ref C) "__init__" = some (some (.ref f))
  tI : PySem.W.typeIn K (.ref f) = some (.type "function")
  no : PySem.W.findIn K (.ref C) fd = some none
  F : Fun K "__init__" ql ini f fdd
  b : Binds K fdd ["self", fd] []
  kp : PySem.W.keepIn K (.ref f) = true
/-- what its __init__ keeps to -/
def spIni (K : PySem.W.Frag) (C : Addr) (fd : Str) : Sp := fun vs H Q _ => ∃ (a : Addr) (v : V), vs = [.ref a, v] ∧ H a = some (exo a C none) ∧ ∀ dx, H dx = none → dx ≠ a → Q .non (upd (upd H dx (exd dx [(fd, v)])) a (exo a C (some dx)))
/-- the heap behind the making: the error's dict is new -/
def ErrV (H H' : Hp) (fd : Str) (v : V) (d : Addr) : Prop := H d = none ∧ Same H H' ∧ H' d = some (.xd [(fd, v)])
theorem pa_mono {X : Cx} {es : List Expr} {ta : TA} (ha : PA X es ta) : PA X es (fun σ H Q => ∃ R : List V → Hp → Prop, ta σ H R ∧ ∀ vs H1, R vs H1 → Q vs H1) := by
  refine ⟨fun pos pins s σ H Q I h => ?_⟩
  obtain ⟨R, h1, h2⟩ := h
  exact thn (ha.run pos pins s σ H R I h1) fun us s1 ⟨vs, H1, I1, r, q⟩ => ⟨vs, H1, I1, r, h2 vs H1 q⟩
/-- two promises of one def -/
def spOr (sp sp' : Sp) : Sp := fun vs H Q E => sp vs H Q E ∨ sp' vs H Q E
theorem fn_or {P : Program} {w : World} {K : PySem.W.Frag} {mg : Str → Option Value} {base : Heap} {CX : CXT} {k : Nat} {f : Addr} {fd : FuncData} {ps : List Str} {sp sp' : Sp} (F : FnOk P w K mg base CX k f fd ps sp) (F' : FnOk P w K mg base CX k f fd ps sp') : FnOk P w K mg base CX k f fd ps (spOr sp sp') :=
  ⟨fun vs H Q E h => h.elim (F.len vs H Q E) (F'.len vs H Q E), fun A outer s H args us vs Q E hr e0 bd r h => h.elim (F.run A outer s H args us vs Q E hr e0 bd r) (F'.run A outer s H args us vs Q E hr e0 bd r)⟩
section
variable {X : Cx} {nm fd ql : Str} {ini : Stmt} {e : Expr} {ta : TA} {W : WX} {p pos pos2 : Pos}
/-- raise nm(e) -/
theorem rs_err (T : Err X.K X.mg nm fd ql ini) (G : FnOk X.prog X.w X.K X.mg X.base CX0 1 T.f T.fdd ["self", fd] (spIni X.K T.C fd)) (hc : X.calm = true) (hr : Room 2 X.A) (tk : Takes X W) (ha : PA X [e] ta) (hg : Gl X nm)
    (hdb : (nm == ("__debug__" : Str)) = false) (he : starEach [e] X.env = (false, eval e X.env) :: starEach [] X.env := by rfl) (hpl : (backTo pos (starEach [] X.env)).any (·.1) = false := by rfl) :
    PS X (.Raise (some (.Call (.Name nm p) [e] [] pos)) none pos2) (fun _ σ H => ta σ H fun vs H1 => ∃ v, vs = [v] ∧ ∀ d H', ErrV H1 H' fd v d → W (.ref T.C) (some d) σ H') := by
  have R := ps_raise (pos := pos2) hc tk (pmk_oex (X := X) (p := p) (pos := pos) T.T T.iC T.tI G hr T.b .nil pass0 hg T.g (pa_mono ha) hdb he hpl)
  refine ⟨fun pins s σ H D I h => R.run pins s σ H D I ⟨_, h, fun vs H1 hv => ?_⟩⟩
  obtain ⟨v, rfl, hv⟩ := hv
  refine ⟨by show 1 ≤ 1000; decide, fun a na => ?_⟩
  have h0 : (upd H1 a (exo a T.C none)) a = some (exo a T.C none) := upd_same
  refine ⟨a, v, rfl, h0, fun dx ndx nea => ⟨rfl, dx, [(fd, v)], upd_same, ?_, ?_, ?_⟩⟩
  · rw [upd_ne nea, upd_same]
  · rw [upd_ne nea] at ndx
    exact ndx
  · rw [upd_ne nea] at ndx
    refine hv dx _ ⟨ndx, fun b o e => ?_, upd_same⟩
    rw [upd_ne (ne_of_none e ndx), del_ne (ne_of_none e na), upd_ne (ne_of_none e na), upd_ne (ne_of_none e ndx), upd_ne (ne_of_none e na)]
    exact e
end
end EX

namespace My
open PySem PySem.Spec PyProof.Rows L2
/-! ### decimals that do not suit: the error out of Ladder, caught by ladder_with -/
abbrev sEDecC : Stmt := top 2
abbrev sEDec : Stmt := inClass sEDecC 0
theorem scEDec : FnScope ["self", "value"] ["self", "value"] (defScope sEDec) := ⟨rfl, rfl, rfl, by decide +kernel, rfl, by decide +kernel, by decide +kernel⟩
abbrev EDec (K : PySem.W.Frag) (mg : Str → Option Value) := EX.Err K mg "InvalidDecimals" "value" "InvalidDecimals.__init__" sEDec
/-- the decimals suit the units -/
def Suits (us : List (Str × Int)) (d : Nat) : Prop := ∀ u ∈ us.drop 1, u.2 % (2 * 10 ^ d) = 0
def spCDecX (K : PySem.W.Frag) (CD : Addr) : Sp := fun vs H _ E => ∃ (a : Addr) (us : List (Str × Int)) (d : Nat), vs = [.ref a, .int (d : Int)] ∧ UA K H a us ∧ 1 ≤ us.length ∧ d ≤ 3 ∧ ¬ Suits us d ∧ ∀ dd H', Same H H' → E (.ref CD) (some dd) H'
def spLInitX (K : PySem.W.Frag) (C CD : Addr) : Sp := fun vs H _ E => ∃ (p dx ua : Addr) (us : List (Str × Int)) (d : Nat) (s : Str) (c : Bool) (l : Int), vs = [.ref p, .ref ua, .int (d : Int), .str s, .bl c, .int l] ∧ H p = some (.ins C dx []) ∧ UA K H ua us ∧ GoodUs us ∧ d ≤ 3 ∧ ¬ Suits us d ∧ ∀ dd H', Same H H' → E (.ref CD) (some dd) H'
def spLadW (K : PySem.W.Frag) (C : Addr) : Sp := fun vs H Q _ => ∃ (ua t : Addr) (us : List (Str × Int)) (d : Nat) (s : Str) (c : Bool), vs = [.ref ua, .ref t] ∧ UA K H ua us ∧ GoodUs us ∧ SqT K H t [.int (d : Int), .str s, .bl c] ∧ d ≤ 3 ∧ s ∈ sorts ∧
  (Suits us d → ∀ (p : Addr) (H' : Hp), Same H H' → LadAt K C H' p us d s c 1 → Q (.ref p) H') ∧ (¬ Suits us d → ∀ H', Same H H' → Q .non H')
theorem kb_carry {K : PySem.W.Frag} {f : Addr} {fd : FuncData} (F : LadD K f fd) : ∃ mv : List Value, KBn K fd ["self", "units", "decimals", "rounding", "carry", "least"] 4 ["carry"] (fun us ws => us ++ ws ++ mv) (fun vs zs => vs ++ zs ++ [V.int 1]) :=
  F.kbinds0 4 ["carry"] [("least", .int 1)] (fun us mv ws => us ++ ws ++ mv) (by simp) (by simp) (fun r1 r2 r3 => (r1.append r3).append r2) (fun D doc pm an cdv ct us mv ws h1 h2 h3 => by
    match us, mv, ws, h1, h2, h3 with
    | [_, _, _, _], [_], [_], _, _, _ => exact ⟨_, _, _, _, _, _, rfl, rfl, rfl⟩)
theorem fn_X {P : Program} {w : World} {K : PySem.W.Frag} {mg : Str → Option Value} {base : Heap} {CX : CXT} {k : Nat} {f : Addr} {fd : FuncData} {ps : List Str} {sp : Sp} (F : FnOk P w K mg base CX0 k f fd ps sp) : FnOk P w K mg base CX k f fd ps sp :=
  ⟨F.len, fun A outer s H args us vs Q E hr e0 bd r h => codeAny_mono (F.run A outer s H args us vs Q E hr e0 bd r h) fun r s' z => by
    cases r with
    | error e => exact z.elim
    | ok fl => cases fl <;> exact z⟩
section
variable {P : Program} {w : World} {K : PySem.W.Frag} {mg : Str → Option Value} {base : Heap}
theorem ok_edec (T : EDec K mg) : FnOk P w K mg base CX0 1 T.f T.fdd ["self", "value"] (EX.spIni K T.C "value") := by
  refine T.F.ok scEDec (fun vs H Q E h => ?_) (fun cdv A outer s H vs Q E hr h => ?_)
  · obtain ⟨_, _, rfl, _⟩ := h
    rfl
  · obtain ⟨a, v, rfl, ha, q⟩ := h
    refine ⟨_, pss_one (ps_ost (pv 0) (pv 1)), ?_⟩
    exact ⟨_, rfl, _, rfl, a, T.C, rfl, T.T, T.no, .inl ⟨ha, fun dx h1 h2 => q dx h1 h2⟩⟩
theorem ok_cdecX (T : EDec K mg) (d : Dd K mg "check_decimals" sCDec ["units", "decimals"]) (dW : DdW K mg) (B : Bt mg) (G : Gc K mg) : FnOk P w K mg base (L2.CX P w) 3 d.f d.fd ["units", "decimals"] (spCDecX K T.C) := by
  obtain ⟨t1, g1⟩ := G.decs
  obtain ⟨a2, g2, g3⟩ := G.parts
  have GW : FnOk P w K mg base CX0 2 dW.f dW.fd ["value", "low", "high"] spWithin := ok_within dW B
  have GE : FnOk P w K mg base CX0 1 T.f T.fdd ["self", "value"] (EX.spIni K T.C "value") := ok_edec T
  refine d.F.okX scCDec (fun vs H Q E h => ?_) (fun cdv A outer s H vs Q E hr h => ?_)
  · obtain ⟨_, _, _, rfl, _⟩ := h
    rfl
  · obtain ⟨a, us, dn, rfl, ⟨ps, ha, hu⟩, hlen, hd, hbad, q⟩ := h
    refine ⟨_, pss_cons (ps_if (pt_not (pt_val (pe_call GW hr (by rfl) dW.g dW.F.kp dW.b .nil pass0 (pa_cons (pv 1) (pa_cons pe_int (pa_cons (pe_glob (v := .int 3) (by rfl) g1 ⟨_, rfl⟩) pa_nil)))))) (pss_one ps_never) pss_nil)
      (pss_one (ps_for (passes_of rfl) rfl (pi_tup (pe_slice sl_tupA (pv 0) (po_some pe_int) po_none)) (pg_name (i := 2) scCDec.nd rfl (.inl rfl))
        (pss_one (ps_if (pt_cmpR op_ne (pe_op op_mod (pe_ix ix_tup (pv 2) pe_int (fun _ _ => rfl)) (pe_op op_mul pe_int (pe_ix ix_tup (pe_glob (v := .ref a2) (by rfl) g2 rfl) (pv 1) (fun _ _ => rfl)))) pe_int (nomark _)) (pss_one (EX.rs_err (X := cxOf (L2.CX P w) P w K mg base _ _ _ _ _ A outer s H E) T GE rfl hr (takes_of rfl rfl rfl rfl) (pa_cons (pv 1) pa_nil) rfl (by decide))) pss_nil)))), ?_⟩
    have el := UP.len hu
    refine ⟨.int (dn : Int), rfl, dn, 0, 3, rfl, ?_⟩
    rw [decide_eq_true (show (0 : Int) ≤ (dn : Int) ∧ (dn : Int) ≤ 3 by omega)]
    refine ⟨true, rfl, iteF ?_⟩
    refine ⟨.ref a, rfl, 1, rfl, a, _, rfl, ha, fun z => ?_, fun _ c nc => ?_⟩
    · obtain ⟨z, _⟩ := z
      rw [show HT.sIx (ps.map V.ref).length 0 (some 1) = min 1 (ps.map V.ref).length from HT.sIx_nat _ 0 1, List.length_map] at z
      omega
    · have smc : Same H (upd H c (.tup (cutV (ps.map V.ref) (some 1) none))) := same_upd nc
      refine ⟨c, rfl, ⟨_, SqT.of upd_same⟩, for_tup (K := K) (a := c) (xs := cutV (ps.map V.ref) (some 1) none) (fun i σ H2 => Same (upd H c (.tup (cutV (ps.map V.ref) (some 1) none))) H2 ∧ (∃ v, σ = [some (.ref a), some (.int (dn : Int)), v]) ∧ ∀ u ∈ (us.drop 1).take i, u.2 % (2 * 10 ^ dn) = 0)
        ⟨Same.refl _, ⟨none, rfl⟩, fun _ h => nomatch h⟩ (fun i σ H2 _ h => same_sqt h.1 (SqT.of upd_same)) ?_ ?_⟩
      · rintro i x σ H2 hi ⟨sm, ⟨v, rfl⟩, hgood⟩
        rw [cut_drop1, ← List.map_drop] at hi
        obtain ⟨p, hp, rfl⟩ := of_get_ref hi
        obtain ⟨u, hu2, hs⟩ := paired_fst (paired_drop 1 hu) hp
        have hm : u ∈ us.drop 1 := List.mem_of_getElem? hu2
        have hpos := pow_lo dn
        have hhi := pow_hi hd
        refine ⟨.ref p, rfl, p, _, 1, .int u.2, rfl, rfl, same_sqt sm (same_sqt smc hs), rfl, .int (dn : Int), rfl, a2, _, dn, _, rfl, rfl, g3 H2, parts_at hd, 2, _, rfl, rfl, .inl ⟨by decide, by decide⟩, u.2, _, rfl, rfl, (by show (0 : Int) < 2 * 10 ^ dn; omega), rfl, _, rfl, ite2 (fun _ => ?_) (fun e => ?_)⟩
        · exact ⟨_, rfl, _, rfl, fun dd H' hv => q dd H' ((smc.trans sm).trans hv.2.1)⟩
        · have hz : u.2 % (2 * 10 ^ dn) = 0 := by
            by_cases z : u.2 % (2 * 10 ^ dn) = 0
            · exact z
            · exact absurd (show (!decide (V.int (u.2 % (2 * 10 ^ dn)) = V.int 0)) = true by rw [decide_eq_false fun w => z (V.int.inj w)]; rfl) e
          refine ⟨sm, ⟨_, rfl⟩, fun w hw => ?_⟩
          rw [List.take_add_one, hu2] at hw
          rcases List.mem_append.mp hw with k | k
          · exact hgood w k
          · rw [List.mem_singleton.mp k]
            exact hz
      · rintro σ H2 ⟨sm, _, hgood⟩
        exfalso
        refine hbad fun u hu' => hgood u ?_
        rw [List.take_of_length_le]
        · exact hu'
        · rw [cut_drop1]
          simp only [List.length_drop, List.length_map]
          omega
theorem ok_linitX (T : EDec K mg) (L : LadC K mg) (dC : Dd K mg "check_units" sCUnits ["units"]) (dD : Dd K mg "check_decimals" sCDec ["units", "decimals"]) (GC : FnOk P w K mg base CX0 4 dC.f dC.fd ["units"] (spCUnits K)) (GD : FnOk P w K mg base (L2.CX P w) 3 dD.f dD.fd ["units", "decimals"] (spCDecX K T.C)) :
    FnOk P w K mg base (L2.CX P w) 5 L.f L.fd ["self", "units", "decimals", "rounding", "carry", "least"] (spLInitX K L.C T.C) := by
  refine L.F.okX scLInit (fun vs H Q E h => ?_) (fun cdv A outer s H vs Q E hr h => ?_)
  · obtain ⟨_, _, _, _, _, _, _, _, rfl, _⟩ := h
    rfl
  · obtain ⟨p, dx, ua, us, dn, rs, cy, lt, rfl, hp, hU, g, hd, hbad, q⟩ := h
    have hr2 : Room 3 _ := hr.mono (by decide)
    refine ⟨_, pss_cons (ps_expr (pe_call GC hr (by rfl) dC.g dC.F.kp dC.b .nil pass0 (pa_cons (pv 1) pa_nil)))
      (pss_cons (ps_expr (pe_call GD hr2 (by rfl) dD.g dD.F.kp dD.b .nil (passes_call (takes_of rfl rfl rfl rfl) (fun _ _ _ _ h => h)) (pa_cons (pv 1) (pa_cons (pv 2) pa_nil)))) pss_never), ?_⟩
    refine ⟨.ref ua, rfl, ua, us, rfl, hU, g, fun H1 s1 => ?_⟩
    exact ⟨.ref ua, rfl, .int (dn : Int), rfl, ua, us, dn, rfl, hU.same s1, g.lo, hd, hbad, fun dd H' s2 => q dd H' (s1.trans s2)⟩
end
end My

namespace My
open PySem PySem.Spec PyProof.Rows L2
/-! ### data stands as what was tracked stands -/
theorem same_sql {K : PySem.W.Frag} {a : Addr} {xs : List V} {H H' : Hp} (b : Same H H') (h : SqL K H a xs) : SqL K H' a xs := by
  rcases h with (h | ⟨o, h⟩) | h
  · exact .inl (.inl (b _ _ h))
  · exact .inl (.inr ⟨o, b _ _ h⟩)
  · exact .inr h
mutual
theorem dp_same {K : PySem.W.Frag} {H H' : Hp} (b : Same H H') : ∀ (d : PyData) (v : V), Dp K H v d → Dp K H' v d
  | .none, _, h => by
    cases h
    exact .non
  | .bool _, _, h => by
    cases h
    exact .bl _
  | .int _, _, h => by
    cases h
    exact .int _
  | .str _, _, h => by
    cases h
    exact .str _
  | .list ds, _, h => by
    cases h with
    | lst hs ha => exact .lst (same_sql b hs) (dpAll_same b ds _ ha)
  | .tuple ds, _, h => by
    cases h with
    | tup hs ha => exact .tup (same_sqt b hs) (dpAll_same b ds _ ha)
  | .dict _, _, h => by cases h
theorem dpAll_same {K : PySem.W.Frag} {H H' : Hp} (b : Same H H') : ∀ (ds : List PyData) (vs : List V), DpAll K H vs ds → DpAll K H' vs ds
  | [], _, h => by
    cases h
    exact .nil
  | d :: ds, _, h => by
    cases h with
    | cons h1 h2 => exact .cons (dp_same b d _ h1) (dpAll_same b ds _ h2)
end
theorem dpAll_app {K : PySem.W.Frag} {H : Hp} : ∀ {ds es : List PyData} {vs ws : List V}, DpAll K H vs ds → DpAll K H ws es → DpAll K H (vs ++ ws) (ds ++ es)
  | [], _, _, _, h, k => by
    cases h
    exact k
  | _ :: _, _, _, _, h, k => by
    cases h with
    | cons h1 h2 => exact .cons h1 (dpAll_app h2 k)
end My

/-! several except clauses, each with the same name behind as -/
namespace TM
open PySem PySem.Spec PyProof.Rows L2
/-- what the clauses wish of an exception of the body, one after the other; slot i is the name's -/
def wManyAs (K : PySem.W.Frag) (i : Nat) (Wout : WX) (D : Ends) : List (Value × (Addr → Value → Option Addr → TS)) → WX
  | [] => Wout
  | (c, ts) :: r => fun cls d σ H => ∃ b, PySem.W.exmOne K cls c = some b ∧
      (b = true → ∀ a, H a = none → ts a cls d { nx := fun σ' H' => D.nx (σ'.set i none) H', rt := D.rt, bk := fun σ' H' => D.bk (σ'.set i none) H', ct := fun σ' H' => D.ct (σ'.set i none) H' } (σ.set i (some (.ref a))) H) ∧ (b = false → wManyAs K i Wout D r cls d σ H)
inductive HdsAs (X : Cx) (n : Str) : List ExceptHandler → List (Value × (Addr → Value → Option Addr → TS)) → Prop
  | nil : HdsAs X n [] []
  | cons {x : Str} {c : Value} {ts : Addr → Value → Option Addr → TS} {b₀ : Stmt} {suite : List Stmt} {np pos' : Pos} {hds : List ExceptHandler} {l : List (Value × (Addr → Value → Option Addr → TS))} (hc : Names X x c)
      (hsu : ∀ (a : Addr) (oe : Obj) (cls : Value) (d : Option Addr) (pn : List (Addr × Obj)), Zc cls d oe → (∃ vs, oe.data = .fields vs) → PSs (X.suite a ((a, oe) :: pn)) (b₀ :: suite) (ts a cls d)) (r : HdsAs X n hds l) :
      HdsAs X n (.ExceptHandler (some (.Name x np)) (some n) (b₀ :: suite) pos' :: hds) ((c, ts) :: l)
section
variable {X : Cx} {n : Str} {i : Nat} {body : List Stmt} {h₀ : ExceptHandler} {hds : List ExceptHandler} {l : List (Value × (Addr → Value → Option Addr → TS))} {pos : Pos} {tb : WX → TS} {Wout : WX}
theorem ps_try_manyAs (hs : X.stack = X.env :: X.outer) (hf : X.env.frame = some X.env.locals) (hN : X.N.Nodup) (hi : X.N[i]? = some n) (hln : X.env.kindOf n = some .local) (tk : Takes X Wout)
    (hb : ∀ (W : WX) (pn : List (Addr × Obj)) (xe : Value → Shared → Prop), Takes (X.tr pn xe) W → PassesOwn (model X.prog X.w) X.A X.env xe → PSs (X.tr pn xe) body (tb W))
    (hh : HdsAs X n (h₀ :: hds) l) : PS X (.Try body (h₀ :: hds) [] [] pos) (fun D σ H => tb (wManyAs X.K i Wout D l) D σ H) := by
  refine ⟨fun pins s σ H D I h => ?_⟩
  have ok := I.ok
  have hfr : X.A.frames = some (X.env :: X.outer) := by rw [ok.frames, hs]
  have hloc : Loc X.env.scope n := .inl hln
  refine wpAny_Try_except ?_
  refine wpAny_mono ((hb (wManyAs X.K i Wout D l) (X.pn ++ pins) (fun e s₁ => wpAny (model X.prog X.w) X.A (noteFrame e X.env) (fun _ s₂ => wpAny (model X.prog X.w) X.A (setFlight e none) (fun _ s₃ =>
    wpAny (model X.prog X.w) X.A (handleBy e X.env (h₀ :: hds)) (SP X pins D) X.xe s₃) X.xe s₂) X.xe s₁) (fun u s' xx => ?_) PassesOwn.looking).run [] s σ H D (I.toTry _) h) (fun f s1 hsp => ?_) (fun e s1 he => he)
  · -- the catch
    obtain ⟨a, B, sI, pins', σ', H', cls, d, rfl, J', nb, up, sky, na, os, ag, w⟩ := xx
    have J : Inv X pins σ' H' sI := J'.ofTry ok
    have sky' : Sky B (X.env :: X.outer) a (Zc cls d) X.env.locals s'.heap := by rw [← hs]; exact sky
    show wpAny (model X.prog X.w) X.A (noteFrame (.ref a) X.env) _ _ _
    refine Sky.land Zc.steady hfr hf sky' fun h3 fl3 up3 => ?_
    have J3 : Inv X pins σ' H' { s' with heap := h3 } := J.landed nb fl3.1 (up.trans up3) os ag
    obtain ⟨oe3, vs3, he3, hz3, hd3⟩ := fl3.there
    have notFr : ∀ {h : Heap} {o : Obj} {vs : Array Value}, h.FunFrames B (X.env :: X.outer) → h.get? a = some o → o.data = .fields vs → a ∉ frs (X.env :: X.outer) := fun {h o vs} ff e dd hm => by
      obtain ⟨_, o', e', hnf⟩ := ff.mem hm
      rw [e] at e'; cases e'
      exact hnf _ dd
    have nfr := notFr fl3.2.2.1 he3 hd3
    have nL : a ≠ X.env.locals := fun z => nfr (List.mem_filterMap.mpr ⟨X.env, List.mem_cons_self, by rw [hf, z]⟩)
    have nF : a ∉ X.fs := fun hm => by
      obtain ⟨e, he, q⟩ := List.mem_filterMap.mp hm
      exact nfr (List.mem_filterMap.mpr ⟨e, List.mem_cons_of_mem _ he, q⟩)
    have S3 := J3.suite he3 hd3 na nL nF
    have go : ∀ {hds' : List ExceptHandler} {l' : List (Value × (Addr → Value → Option Addr → TS))}, HdsAs X n hds' l' → wManyAs X.K i Wout D l' cls d σ' H' →
        wpAny (model X.prog X.w) X.A (handleBy (.ref a) X.env hds') (SP X pins D) X.xe { s' with heap := h3 } := by
      intro hds' l' hk
      induction hk with
      | nil =>
        intro w
        refine wpAny_handleBy_nil ?_
        obtain ⟨k1, k2, k3, oe, vs, T, oT, ts', he, hz, hd, h1, hr⟩ := id fl3
        unfold PySem.passOn
        refine wpAny_bind (wpAny_field he hd h1 ?_)
        rw [if_neg (show ¬ ((Value.ref T == Value.none) = true) from by simp)]
        have fin : wpAny (model X.prog X.w) X.A (setFlight (.ref a) X.env.frame) (fun _ s4 => wpAny (model X.prog X.w) X.A (throw (.ref a) : Sem Flow) (SP X pins D) X.xe s4) X.xe { s' with heap := h3 } := by
          rw [hf]
          refine HandSPX.setFlight_upZ fl3 fun h4 hh4 up4 => wpAny_throw (tk _ _ ?_)
          exact ⟨a, B, sI, pins, σ', H', cls, d, rfl, J, nb, (up.trans up3).trans up4, .inr (.inr (by rw [hs]; exact hh4)), na, os, ag, w⟩
        first
          | exact wpAny_bind (wpAny_pure (wpAny_bind fin))
          | exact wpAny_bind fin
      | @cons x c ts b₀ suite np pos' hds2 l2 hc hsu r ih =>
        intro w
        obtain ⟨b, hb1, hyes, hno⟩ := w
        refine wpAny_handleBy_cons (codeAny_handlers_test ?_) (by intro q; cases q)
        have LT : PySem.W.Looks (model X.prog X.w) h3 (typeOf (.ref a)) cls := fun A Q E s k q => wpAny_typeOf_ref (k _ _ he3) (by rw [hz3.1]; exact q)
        have LM := PySem.W.exm_one (M := model X.prog X.w) (J3.kIn) LT hb1
        have test : ∀ {Q : Value → Shared → Prop} {E : Value → Shared → Prop}, Q c { s' with heap := h3 } → wpAny (model X.prog X.w) (X.A.mark (some (.ref a))) (eval (.Name x np) X.env) Q E { s' with heap := h3 } := fun {Q E} q => by
          obtain ⟨hg, hdbg, hm | ⟨hm, hv, hnn⟩⟩ := hc
          · exact ld_glob (X := X.suite a ((a, oe3) :: (X.pn ++ pins))) S3 hg hm q hdbg
          · exact ld_blt (X := X.suite a ((a, oe3) :: (X.pn ++ pins))) S3 hg hm hv q hnn hdbg
        refine test (LM.here ?_)
        cases b with
        | true =>
          refine codeAny_handlers_suite_as ?_
          refine HandSPX.lands_againZ fl3 fun h4 fl4 up4 => ?_
          have J4 : Inv X pins σ' H' { s' with heap := h4 } := J.landed nb fl4.1 ((up.trans up3).trans up4) os ag
          obtain ⟨oe4, vs4, he4, hz4, hd4⟩ := fl4.there
          have S4 := J4.suite he4 hd4 na nL nF
          refine store_ok (X := X.suite a ((a, oe4) :: (X.pn ++ pins))) (v := .ref a) S4 hN hi hloc rfl (fun s5 S5 => ?_) (.inr hln)
          refine wpAny_mono ((hsu a oe4 cls d (X.pn ++ pins) hz4 ⟨_, hd4⟩).run [] s5 _ H' _ S5 (hyes rfl a na)) (fun f s6 hsp => ?_) (fun _ _ z => False.elim z)
          have end_ : ∀ {σ6 : L2.St} {H6 : Hp} {Q : Shared → Prop}, Inv (X.suite a ((a, oe4) :: (X.pn ++ pins))) [] σ6 H6 s6 → (∀ s7, Inv X pins (σ6.set i none) H6 s7 → Q s7) →
              wpAny (model X.prog X.w) X.A (do bindName X.env n .none; unbindBehindTheSuite X.env n pos') (fun _ s7 => Q s7) X.xe s6 := fun {σ6 H6 Q} S6 hq => gone_ok (S6.unsuite ok) hN hi hln hq
          cases f with
          | next =>
            obtain ⟨σ6, H6, S6, q6⟩ := hsp
            exact end_ S6 fun s7 J7 => ⟨_, _, J7, q6⟩
          | brk =>
            obtain ⟨σ6, H6, S6, q6⟩ := hsp
            exact end_ S6 fun s7 J7 => ⟨_, _, J7, q6⟩
          | cont =>
            obtain ⟨σ6, H6, S6, q6⟩ := hsp
            exact end_ S6 fun s7 J7 => ⟨_, _, J7, q6⟩
          | ret u =>
            obtain ⟨v6, σ6, H6, S6, r6, q6⟩ := hsp
            exact end_ S6 fun s7 J7 => ⟨_, _, _, J7, r6, q6⟩
        | false =>
          show wpAny _ X.A (handleBy (.ref a) X.env hds2) _ _ _
          exact ih (hno rfl)
    exact go hh w
  · cases f with
    | next =>
      obtain ⟨σ', H', J', q⟩ := hsp
      exact wpAny_execs_nil ⟨σ', H', J'.ofTry ok, q⟩
    | brk =>
      obtain ⟨σ', H', J', q⟩ := hsp
      exact ⟨σ', H', J'.ofTry ok, q⟩
    | cont =>
      obtain ⟨σ', H', J', q⟩ := hsp
      exact ⟨σ', H', J'.ofTry ok, q⟩
    | ret u =>
      obtain ⟨v, σ', H', J', r, q⟩ := hsp
      exact ⟨v, σ', H', J'.ofTry ok, r, q⟩
end
/-! ### isinstance of a caught error that has a dict -/
section
open PySem.W PySem.Calls
variable {prog : Program} {w : World} {A : Around} {E : Value → Shared → Prop} {s : Shared} {K : PySem.W.Frag} {x D : Addr} {ox od : Obj}
theorem findObj_dataO {C : Addr} {name : Str} {a g : Value} {o : Option Obj} (hc : (clsIn K C).isSome = true) (ha : findIn K (.ref C) name = some (some a)) (hg : specialIn K a "__get__" = some (some g)) (ht : takesIn K a = some true) : findObj K C o name = some (.bind g a) := by
  obtain ⟨cd, hc⟩ := Option.isSome_iff_exists.mp hc
  unfold findObj
  rw [hc, Option.bind_some, ha, Option.bind_some]
  simp [hg, ht]
theorem kin_classO {o : Option Obj} {Q : Option Value → Shared → Prop} (hga : findIn K (.ref D) "__getattribute__" = some (some (.builtin "BaseException.__getattribute__"))) (hgt : findIn K (.ref D) "__getattr__" = some none) (hsub : subIn K (.ref D) (.type "BaseException") = some true)
    (hdct : hasDictIn K D = true) (ha : findIn K (.ref D) "__class__" = some (some (.builtin "object.__class__")))
    (hn : specialIn K (.builtin "object.__class__") "__get__" = some (some (.builtin "getset_descriptor.__get__"))) (htk : takesIn K (.builtin "object.__class__") = some true) (hm : mroIn K D (.type "object") = some true)
    (X : K.In s.heap) (I : PySem.W.InstAt s.heap x ox D o) (h : Q (some (.ref D)) { s with toks := s.toks + 1 }) : wpAny (model prog w) A (getAttr? (.ref x) "__class__") Q E s := by
  have hf : findObj K D o "__class__" = some (.bind (.builtin "getset_descriptor.__get__") (.builtin "object.__class__")) := findObj_dataO (by obtain ⟨cd, hc, _⟩ := any_some hdct; rw [hc]; rfl) ha hn htk
  obtain ⟨hp, g, d, t, os⟩ := s
  have L0 := I.type (M := model prog w)
  have L1 := looks_findIn (M := model prog w) X hga
  have L2 := looks_findIn (M := model prog w) X hgt
  have L3 := looks_find (M := model prog w) X I hf
  have sub : Looks (model prog w) hp (isInstance (.ref x) (.type "BaseException")) true := L0.andThen (looks_subIn X hsub)
  have hx0 : (false && onTheHeap (Value.builtin "BaseException.__getattribute__")) = false := rfl
  have hx2 : (Value.builtin "BaseException.__getattribute__" == Value.builtin "object.__getattribute__") = false := by decide +kernel
  have hx1 : (onTheHeap (Value.ref D) && Value.builtin "BaseException.__getattribute__" == Value.builtin "object.__getattribute__") = false := by rw [hx2]; rfl
  unfold getAttr? getAttrBy? getAttrBy
  refine wpAny_bind (wpAny_mkText (wpAny_bind (wpAny_attempt (wpAny_holding (wpAny_bind (L0.at (wpAny_bind (L1.at ?_))))))))
  show wpAny _ _ (if (onTheHeap (Value.ref D) && Value.builtin "BaseException.__getattribute__" == Value.builtin "object.__getattribute__") = true then _ else _) _ _ _
  rw [hx1, if_neg Bool.false_ne_true]
  unfold getAttrByItsOwn hookBefore
  refine wpAny_bind ?_
  rw [if_pos (show onTheHeap (Value.ref D) = true from rfl)]
  refine L2.at ?_
  refine wpAny_bind (wpAny_attempt (wpAny_holding ?_))
  unfold callGetattribute
  rw [hx0, if_neg Bool.false_ne_true]
  unfold boundAndCalled
  rw [PySem.F.excAttr_ValueError.ga.bind (.ref x)]
  refine wpAny_bind (wpAny_pure ?_)
  show wpAny _ _ (call (.builtin "BaseException.__getattribute__") [.ref x, .str "__class__" t]) _ _ _
  refine wpAny_call (codeAny_call_builtin PySem.F.excAttr_ValueError.ga.plain PySem.F.entry_bexc_ga ?_)
  refine @check_slot (model prog w) _ _ ⟨hp, g, d, t + 1, os⟩ "BaseException.__getattribute__" "BaseException" "__getattribute__" (.ref x) [.str "__class__" t] [] _ (by decide +kernel) (by decide +kernel) sub (PySem.F.args_bexc_ga (.ref x) (.str "__class__" t)) ?_
  unfold Builtin.«object.__getattribute__»
  refine wpAny_bind (wpAny_of_eq (a := ((Value.ref x : Value), [Value.str "__class__" t])) (by first | rfl | (simp only [slotArgs]; rfl)) ?_)
  refine wpAny_bind (wpAny_pure (wpAny_bind (L0.at (wpAny_bind (L3.at ?_)))))
  show wpAny _ _ (holding [Value.builtin "object.__class__"] (call (.builtin "getset_descriptor.__get__") [.builtin "object.__class__", .ref x, .ref D]) >>= ret) _ _ _
  refine wpAny_bind (wpAny_holding (wpAny_call (class_get (s := ⟨hp, g, d, t + 1, os⟩) (ox := ox) (od := o) X I hm ?_)))
  refine wpAny_pure ?_
  show wpAny _ _ (handedOut (.ref D)) _ _ _
  rw [handedOut_of (v := .ref D) rfl]
  first
    | exact wpAny_pure (wpAny_pure h)
    | exact wpAny_pure h
    | exact wpAny_pure (wpAny_bind (wpAny_pure (wpAny_pure h)))
theorem kitx_excO (hga : findIn K (.ref D) "__getattribute__" = some (some (.builtin "BaseException.__getattribute__"))) (hgt : findIn K (.ref D) "__getattr__" = some none) (hsub : subIn K (.ref D) (.type "BaseException") = some true) (hdct : hasDictIn K D = true) (ha : findIn K (.ref D) "__class__" = some (some (.builtin "object.__class__")))
    (hn : specialIn K (.builtin "object.__class__") "__get__" = some (some (.builtin "getset_descriptor.__get__"))) (htk : takesIn K (.builtin "object.__class__") = some true) (hm : mroIn K D (.type "object") = some true) :
    KitX K (.ref x) (.ref D) (fun h => ∃ o, PySem.W.InstAt h x ox D o) where
  ty := fun _ _ _ ⟨_, I⟩ => I.type
  it := fun _ _ X _ => by
    obtain ⟨cdD, hcD, _⟩ := any_some hdct
    unfold clsIn at hcD
    split at hcD
    · rename_i c' d' cd' sl' ho
      intro A' Q' E' s' k q
      unfold isType loadHead
      exact wpAny_bind (wpAny_loadPart (k _ _ (X _ _ ho)) (wpAny_pure q))
    · cases hcD
  ne := fun h tp dd its n sl X htp => by
    obtain ⟨cdD, hcD, _⟩ := any_some hdct
    refine Bool.eq_false_iff.mpr fun q => ?_
    have e : D = tp := Value.ref.inj (beq_iff_eq.mp q)
    subst e
    unfold clsIn at hcD
    split at hcD
    · rename_i c' d' cd' sl' ho
      have z := (X _ _ ho).symm.trans htp
      cases z
    · cases hcD
  ca := fun X ⟨_, I⟩ k => kin_classO hga hgt hsub hdct ha hn htk hm X I k
end
/-- isinstance(e, c), e the exception with a dict that the suite holds -/
def rIsD (K : PySem.W.Frag) (a : Addr) (cls : Value) (d : Option Addr) (D : Addr) : List V → Hp → VK → Prop := fun xs H Q => ∃ (c : V) (cv : Value) (b : Bool) (dd : Addr) (fs : List (Str × V)), cls = .ref D ∧ d = some dd ∧ H dd = some (.xd fs) ∧ xs = [.ref a, c] ∧ (∀ u, RelV c u → u = cv) ∧ PySem.W.kitOne K (.ref D) cv = some b ∧ Q (.bl b) H
theorem call_isD {X : Cx} {a D : Addr} {oe : Obj} {cls : Value} {d : Option Addr} {pn : List (Addr × Obj)} (C : ExcC X.K D) (hz : Zc cls d oe) (hf : ∃ vs, oe.data = .fields vs) : CallR (X.suite a ((a, oe) :: pn)) (.builtin "isinstance") (rIsD X.K a cls d D) := by
  intro pins s σ H xs us Q I r h
  obtain ⟨c, cv, b, dd, fs, rfl, rfl, hdd, rfl, hcv, e, q⟩ := h
  cases r with
  | cons rx rr =>
    cases rr with
    | cons rt rr =>
      cases rr
      cases rx
      have ec := hcv _ rt
      subst ec
      obtain ⟨hget, _⟩ := I.pin (a, oe) (List.mem_append.mpr (.inl List.mem_cons_self))
      obtain ⟨vs, hv⟩ := hf
      obtain ⟨mA, hns, hr⟩ := (show ObjOk X.prog X.w H s.heap dd (.xd fs) from I.hok dd _ hdd)
      obtain ⟨od, ho, hl⟩ := L2.lookIn_ns hns
      have J : PySem.W.InstAt s.heap a oe D (some od) := ⟨hget, hz.1, by unfold PySem.W.notCls; rw [hv] <;> rfl, by rw [hz.2]; exact ho⟩
      exact PySem.W.kia_one (kitx_excO C.hg C.hk C.hs C.hd C.ha C.hn C.ht C.hm) I.kIn ⟨_, J⟩ e (fun z => nomatch z) fun tk => ⟨.bl b, H, I.kept (t' := tk) fun _ _ z => z, rfl, q⟩
end TM

/-! what came out of a call: the laws' _law_came_out -/
namespace CO
open PySem PySem.Spec PyProof.Rows L2 My
/-- a class of errors that a clause names -/
structure ErrT (K : PySem.W.Frag) (mg : Str → Option Value) (CI : Addr) (nm fd : Str) where
  C : Addr
  g : mg nm = some (.ref C)
  X : XfC K C
  no : PySem.W.findIn K (.ref C) fd = some none
  E : ExcC K C
  iE : PySem.W.kitOne K (.ref C) (.ref CI) = some true
  vE : PySem.W.kitOne K (.ref C) (.type "ValueError") = some true
abbrev tSuite (K : PySem.W.Frag) (CI C : Addr) (nm fd : Str) (a : Addr) (cls : Value) (d : Option Addr) : TS :=
  tRet (tLst (tCons (tC (.str nm)) (tCons (tXf a cls d C fd (tVar 2)) (tCons (tAndV (tCB (TM.rIsD K a cls d C) (tCons (tVar 2) (tCons (tC (.ref CI)) tNil))) (tCB (TM.rIsD K a cls d C) (tCons (tVar 2) (tCons (tC (.ty "ValueError")) tNil)))) tNil))))
/-- one clause: its class, what it returns -/
def hdl (K : PySem.W.Frag) (CI : Addr) (c : Addr × Str × Str) : Value × (Addr → Value → Option Addr → TS) := (.ref c.1, fun a cls d => tSuite K CI c.1 c.2.1 c.2.2 a cls d)
theorem takes_len {X : Cx} {W : WX} (t : Takes X W) : Takes X (fun cls d σ H => σ.length = X.N.length → W cls d σ H) := fun u s' ⟨a, B, sI, pins, σ, H, cls, d, e, I, nb, up, sky, na, os, ag, w⟩ =>
  t u s' ⟨a, B, sI, pins, σ, H, cls, d, e, I, nb, up, sky, na, os, ag, w I.len⟩
/-- the clause of the class that came is met -/
theorem met {K : PySem.W.Frag} {CI C dd : Addr} {nm fd : Str} {v : V} {σ : L2.St} {H : Hp} {D : Ends} {Wout : WX} (iE : PySem.W.kitOne K (.ref C) (.ref CI) = some true) (vE : PySem.W.kitOne K (.ref C) (.type "ValueError") = some true) (hl : σ.length = 3) (hd : H dd = some (.xd [(fd, v)]))
    (hQ : ∀ p, H p = none → D.rt (.ref p) (upd H p (.lst [.str nm, v, .bl true]))) :
    ∀ cs : List (Addr × Str × Str), (C, nm, fd) ∈ cs → (∀ c ∈ cs, PySem.W.exmOne K (.ref C) (.ref c.1) = some (nm == c.2.1)) → (∀ c ∈ cs, (nm == c.2.1) = true → c = (C, nm, fd)) → TM.wManyAs K 2 Wout D (cs.map (hdl K CI)) (.ref C) (some dd) σ H
  | [], hm, _, _ => nomatch hm
  | c :: r, hm, hx, hu => by
    refine ⟨nm == c.2.1, hx c (List.mem_cons_self ..), fun hb a na => ?_, fun hb => ?_⟩
    · have e := hu c (List.mem_cons_self ..) hb
      subst e
      have s2 : (σ.set 2 (some (V.ref a)))[2]? = some (some (V.ref a)) := by
        rw [List.getElem?_set_self (by omega)]
      refine ⟨.ref a, s2, rfl, rfl, dd, _, v, rfl, hd, ?_, ?_⟩
      · simp [List.lookup]
      · refine ⟨.ref a, s2, .ref CI, .ref CI, true, dd, _, rfl, rfl, hd, rfl, fun u h => h, iE, true, rfl, iteT ?_⟩
        refine ⟨.ref a, s2, .ty "ValueError", .type "ValueError", true, dd, _, rfl, rfl, hd, rfl, fun u h => h, vE, ?_⟩
        exact ⟨by show 3 ≤ sizeLine; decide, fun p np => hQ p np⟩
    · rcases List.mem_cons.mp hm with e | hm
      · rw [← e] at hb
        simp at hb
      · exact met iE vE hl hd hQ r hm (fun c hc => hx c (List.mem_cons_of_mem _ hc)) fun c hc => hu c (List.mem_cons_of_mem _ hc)
theorem pe_mono {X : Cx} {e : Expr} {te : TE} (h : PE X e te) : PE X e (fun σ H Q => ∃ Q1 : VK, te σ H Q1 ∧ ∀ v H', Q1 v H' → Q v H') :=
  ⟨fun pins s σ H Q I ⟨Q1, h1, h2⟩ => thn (h.run pins s σ H Q1 I h1) fun u s1 ⟨v, H1, I1, r, q⟩ => ⟨v, H1, I1, r, h2 v H1 q⟩⟩
section
variable {X : Cx} {CI : Addr} {nm fd : Str}
/-- the suite of a clause -/
theorem suite_ok {a : Addr} {oe : Obj} {cls : Value} {d : Option Addr} {pn : List (Addr × Obj)} {p1 p2 p3 p4 p5 p6 p7 p8 p9 p10 p11 p12 p13 p14 : Pos} {k1 : Nat} (T : ErrT X.K X.mg CI nm fd) (hz : Zc cls d oe) (hf : ∃ vs, oe.data = .fields vs)
    (hN : X.N[2]? = some ("e" : Str)) (hv : Vis X.env.scope ("e" : Str)) (gi : Gl X "isinstance") (bi : X.mg "isinstance" = none) (gI : Gl X "InputError") (hI : X.mg "InputError" = some (.ref CI)) (gV : Gl X "ValueError") (bV : X.mg "ValueError" = none) :
    PSs (X.suite a ((a, oe) :: pn)) [.Return (some (.List [.Constant (.str nm) k1 p1, .Attribute (.Name "e" p2) fd p3, .BoolOp .And [.Call (.Name "isinstance" p4) [.Name "e" p5, .Name "InputError" p6] [] p7, .Call (.Name "isinstance" p8) [.Name "e" p9, .Name "ValueError" p10] [] p11] p12] p13)) p14] (tSuite X.K CI T.C nm fd a cls d) := by
  have ve : ∀ p : Pos, PE (X.suite a ((a, oe) :: pn)) (.Name "e" p) (tVar 2) := fun p => pe_var (i := 2) hN hv
  exact pss_one (ps_ret (pe_lst (pa_cons pe_str (pa_cons (pe_xf T.X T.no hz hf (ve p2)) (pa_cons (pe_and (pe_callB (TM.call_isD T.E hz hf) gi bi (by decide +kernel) (pa_cons (ve p5) (pa_cons (pe_glob (v := .ref CI) gI hI rfl) pa_nil)))
    (pe_one (pe_callB (TM.call_isD T.E hz hf) gi bi (by decide +kernel) (pa_cons (ve p9) (pa_cons (pe_bltn (v := .ty "ValueError") gV bV (by decide +kernel) rfl) pa_nil))))) pa_nil)))))
/-- what _law_came_out makes of a call's promise -/
def TCame (K : PySem.W.Frag) (cs : List (Addr × Str × Str)) : (XK → Hp → VK → Prop) → Hp → VK → Prop := fun tl H Q =>
  tl (fun cls d H' => ∃ (C : Addr) (nm fd : Str) (v : V) (dd : Addr), (C, nm, fd) ∈ cs ∧ cls = .ref C ∧ d = some dd ∧ H' dd = some (.xd [(fd, v)]) ∧ ∀ p, H' p = none → Q (.ref p) (upd H' p (.lst [.str nm, v, .bl true]))) H
    (fun v H' => ∀ p, H' p = none → Q (.ref p) (upd H' p (.lst [.str "given", v])))
/-- the classes that the clauses name: each is met by itself alone -/
structure CsOk (K : PySem.W.Frag) (CI : Addr) (cs : List (Addr × Str × Str)) : Prop where
  iE : ∀ c ∈ cs, PySem.W.kitOne K (.ref c.1) (.ref CI) = some true
  vE : ∀ c ∈ cs, PySem.W.kitOne K (.ref c.1) (.type "ValueError") = some true
  exm : ∀ c ∈ cs, ∀ c' ∈ cs, PySem.W.exmOne K (.ref c.1) (.ref c'.1) = some (c.2.1 == c'.2.1)
  one : ∀ c ∈ cs, ∀ c' ∈ cs, (c.2.1 == c'.2.1) = true → c' = c
theorem body_ok {Ng : List Str} {sg : Scope} {g : Addr} {cdg : Value} {a q : Str} {h₀ : ExceptHandler} {hds : List ExceptHandler} {cs : List (Addr × Str × Str)} {p1 p2 p3 p4 p5 p6 p7 p8 p9 : Pos} {kc : Nat} {x : Str} (ok : CsOk X.K CI cs) (hN0 : Ng.Nodup) (h3 : Ng.length = 3) (h1 : Ng[1]? = some ("_law_given" : Str)) (h2 : Ng[2]? = some ("e" : Str))
    (l1 : Loc sg "_law_given") (f1 : sg.names.lookup ("_law_given" : Str) = some .local) (v1 : Vis sg "_law_given") (ke : ∀ s f, (envOfC x sg s f cdg).kindOf "e" = some .local)
    (hst : ∀ f : Addr, L2.start Ng [V.ref f] = [some (.ref f), none, none])
    (hh : ∀ (s : Shared) (H : Hp), TM.HdsAs (cxOf C8.CX0 X.prog X.w X.K X.mg X.base Ng x sg g cdg X.A X.stack s H C8.E0).nox "e" (h₀ :: hds) (cs.map (hdl X.K CI))) (hsw : ∀ (env : Env), swapsWith (.Call (.Name a p1) [] [] p2) (some (.Name "_law_given" p3)) p4.line env = pure false := by intro env; rfl) :
    LamX.GivesTo X Ng x sg g cdg [.Try [.Assign [.Name "_law_given" p3] (.Call (.Name a p1) [] [] p2) p4] (h₀ :: hds) [] [] p5, .Return (some (.List [.Constant (.str "given") kc p6, .Name "_law_given" p7] p8)) p9] a q (TCame X.K cs) := by
  intro f c' s H Q tl act hc h
  let Y := (cxOf C8.CX0 X.prog X.w X.K X.mg X.base Ng x sg g cdg X.A X.stack s H C8.E0).nox
  refine ⟨_, pss_cons (TM.ps_try_manyAs (X := Y) (i := 2) (tb := fun W D σ H => ∃ Ech : XK, (∀ cls d σ' H', Ech cls d H' → σ'.length = 3 → W cls d σ' H') ∧ σ[0]? = some (some (.ref f)) ∧ H c' = some (LamX.CodeO c' q) ∧ ∃ Q1 : VK, tl Ech H Q1 ∧ ∀ v H', Q1 v H' → D.nx (σ.set 1 (some v)) H')
      rfl rfl hN0 h2 (ke _ _) LamX.takes0 (fun W pn xe tk _ => ?_) (hh s H)) (pss_one (ps_ret (pe_lst (pa_cons pe_str (pa_cons (pe_var (i := 1) h1 v1) pa_nil))))), ?_⟩
  · refine ⟨fun pins s' σ H' D I h' => ?_⟩
    obtain ⟨Ech, hW, e1, e2, e3⟩ := h'
    have hp := act (fun cls d σ H => σ.length = 3 → W cls d σ H) pn xe Ech p1 p2 (by
      have := takes_len tk
      rw [show (Y.tr pn xe).N.length = 3 from h3] at this
      exact this) hW
    have hq := pss_one (ps_set (X := Y.tr pn xe) (i := 1) (pos := p4) (pos' := p3) hN0 h1 l1 (pe_mono hp) (hsw _) (.inr f1))
    obtain ⟨Q1, k1, k2⟩ := e3
    exact hq.run pins s' σ H' D I ⟨Q1, ⟨e1, e2, k1⟩, k2⟩
  · refine ⟨fun cls d H' => ∃ (C : Addr) (nm fd : Str) (v : V) (dd : Addr), (C, nm, fd) ∈ cs ∧ cls = .ref C ∧ d = some dd ∧ H' dd = some (.xd [(fd, v)]) ∧ ∀ p, H' p = none → Q (.ref p) (upd H' p (.lst [.str nm, v, .bl true])), ?_, by rw [hst]; rfl, hc, ?_⟩
    · rintro cls d σ' H' ⟨C, nm, fd, v, dd, hm, rfl, rfl, hd, hQ⟩ hl
      exact met (ok.iE _ hm) (ok.vE _ hm) hl hd (fun p np => hQ p np) cs hm (fun c hc => ok.exm _ hm c hc) fun c hc hb => ok.one _ hm c hc hb
    · refine ⟨_, h, fun v H' hv => ?_⟩
      rw [hst]
      exact ⟨v, rfl, by show 2 ≤ sizeLine; decide, fun p np => hv p np⟩
end
end CO

/-! the head where _law_right makes lambdas: one table of code objects, and no display under way -/
namespace HT1
open PySem PySem.Spec PyProof.Rows L2 My
/-- nothing but the script and the table is tracked -/
def OnlyT (P : Addr) (M : Hp) : Prop := ∀ b, M b = none ∨ b = P ∨ ∃ ob xs, M b = some (.frz ob (.lst xs))
theorem head_T {P : Program} {w : World} {K : PySem.W.Frag} {mg mb : Str → Option Value} {k : Nat} {fa a c T : Addr} {fd : FuncData} {x : Str} {sp : Sp} {s1 : Shared} {vs : List Value} {ns : List Int}
    (inK : K.In s1.heap) (top : s1.heap.Ns mainGlobals mg) (blt : s1.heap.Ns builtinsNs mb) (boot : ∀ y : Str, y ≠ "__name__" → mb y = bootBuiltins y) (free : s1.heap.NoLimit) (quiet : s1.gens = #[])
    (tab : s1.heap.get? T = some { cls := .none, data := .fields #[] }) (noK : K.lookup T = none) (cod : PySem.W.CodeHd s1.heap c T)
    (main : ∃ (bm : Addr) (ob : Obj), mg "__builtins__" = some (.ref bm) ∧ bm ≠ builtinsNs ∧ s1.heap.get? bm = some ob ∧ ob.cls = .type "module" ∧ ob.dict = some builtinsNs ∧ ob.data = .plain)
    (obj : s1.heap.get? a = some { cls := .type "list", data := .seq vs.toArray }) (isI : IntsAre vs ns) (size : ns.length ≤ sizeLine) (room : Room k callerA)
    (F : ∀ base : Heap, K.In base → base.Ns mainGlobals mg → LamX.TabB base mg c T → FnG P w K mg base k fa fd [x] sp) (bind : ∀ (s : Shared) (u : Value), BindsTo s fd ⟨[u], []⟩ [(x, u)])
    (want : ∀ M : Hp, M T = some (.tbl #[]) → SqL K M a (ns.map V.int) → sp [.ref a] M (fun v _ => v = .bl true) fun _ _ _ => False) :
    codeAny (model P w) callerA (.call (.ref fa) ⟨[.ref a], []⟩) (fun r s' => r = .ok (.ret (.bool true)) ∧ OldK s1.heap s'.heap ∧ s'.os = s1.os ∧ AllBare s'.gens) s1 := by
  have rel := ints_vals isI
  have aT : a ≠ T := fun z => by
    rw [z, tab] at obj
    have q := congrArg Obj.data (Option.some.inj obj)
    cases q
  have go : ∀ M : Hp, OnlyT T M → M T = some (.tbl #[]) → SqL K M a (ns.map V.int) → HOk P w M s1.heap → (∀ b, M b ≠ none → b = T ∨ (b = a ∧ K.lookup a = none)) →
      codeAny (model P w) callerA (.call (.ref fa) ⟨[.ref a], []⟩) (fun r s' => r = .ok (.ret (.bool true)) ∧ OldK s1.heap s'.heap ∧ s'.os = s1.os ∧ AllBare s'.gens) s1 := by
    intro M only atT seq ok just
    have clear : ∀ {b : Addr} {o : Obj}, s1.heap.get? b = some o → (o = { cls := .type "list", data := .seq vs.toArray } → K.lookup a = none → False) → (o = { cls := .none, data := .fields #[] } → False) → M b = none := fun {b o} e n1 n2 => by
      rcases hb : M b with _ | y
      · rfl
      · rcases just b (by rw [hb]; exact fun z => nomatch z) with rfl | ⟨rfl, z⟩
        · rw [tab] at e
          exact (n2 (Option.some.inj e).symm).elim
        · rw [obj] at e
          exact (n1 (Option.some.inj e).symm z).elim
    have spaces : ∀ {b : Addr} {m : Str → Option Value}, s1.heap.Ns b m → (hidT s1.heap M).Ns b m := by
      rintro b m ⟨o, es, n, e, d, rest⟩
      refine ⟨o, es, n, hidT_get e (clear e (fun eo _ => ?_) fun eo => ?_), d, rest⟩ <;> (rw [eo] at d; cases d)
    have inB : K.In (hidT s1.heap M) := fun b o e => hidT_get (inK b o e) (by
      rcases hb : M b with _ | y
      · rfl
      · rcases just b (by rw [hb]; exact fun z => nomatch z) with rfl | ⟨rfl, z⟩
        · rw [noK] at e
          cases e
        · rw [z] at e
          cases e)
    have lim : ∃ mc, (hidT s1.heap M).Ns _ mc ∧ _ := free.elim fun mc z => ⟨mc, spaces z.1, z.2⟩
    have TB : LamX.TabB (hidT s1.heap M) mg c T := by
      refine ⟨?_, ?_, fun z => ?_⟩
      · obtain ⟨o, us, f1, f2, f3, f4, f5, f6, f7, e1, r1, r2, r3, rest⟩ := cod
        refine ⟨o, us, f1, f2, f3, f4, f5, f6, f7, hidT_get e1 (clear e1 (fun eo _ => ?_) fun eo => ?_), r1, r2, r3, rest⟩
        · rw [eo] at r2
          cases r2
        · rw [eo] at r2
          cases r2
          simp at r3
      · obtain ⟨bm, ob, b1, b2, b3, b4, b5, b6⟩ := main
        refine ⟨bm, ob, b1, b2, fun q => ?_, fun q => ?_, hidT_get b3 (clear b3 (fun eo _ => ?_) fun eo => ?_), b4, b5, b6⟩
        · obtain ⟨o, es, n, e, d, _⟩ := top
          rw [q, e] at b3
          cases b3
          rw [d] at b6
          cases b6
        · rw [q, tab] at b3
          cases b3
          cases b6
        · rw [eo] at b6
          cases b6
        · rw [eo] at b6
          cases b6
      · obtain ⟨o, es, n, e, d, _⟩ := top
        rw [z, tab] at e
        cases e
        cases d
    have en : Env0 P w K mg (hidT s1.heap M) callerA [] s1 M :=
      ⟨rfl, ⟨inB, spaces top, ⟨mb, spaces blt, boot⟩, lim⟩, fun _ _ e => of_hidT e, Nat.le_of_eq (hidT_size _ _), trivial, fun b z => absurd (show b ∈ ([] : List Addr) from z) List.not_mem_nil, ok, .of_eq quiet⟩
    have ran := (F _ inB (spaces top) TB).run callerA [] s1 M ⟨[.ref a], []⟩ [.ref a] [.ref a] _ _ rfl room en (bind s1 (.ref a)) (.cons rfl .nil) (want M atT seq)
    refine codeAny_mono ran fun r s' z => ?_
    rcases r with e | fl
    · exact False.elim z
    · rcases fl with _ | _ | _ | u
      · exact z.elim
      · exact z.elim
      · exact z.elim
      · obtain ⟨v, M', os, bare, un, ok', rv, hv⟩ := z
        have hv : v = .bl true := hv
        subst hv
        have hu : u = Value.bool true := rv
        subst hu
        obtain ⟨more, grown⟩ := un.tbls T #[] atT
        have grown : s'.heap.get? T = some { cls := .none, data := .fields (#[] ++ more) } := ok' T _ grown
        have same : ∀ b o, b ≠ T → s1.heap.get? b = some o → s'.heap.get? b = some o := fun b o nb e => by
          rcases hb : M b with _ | y
          · exact un.keep b o e hb (fun z => absurd (show b ∈ ([] : List Addr) from z) List.not_mem_nil) List.not_mem_nil
          · rcases only b with z | z | ⟨ob, xs, z⟩
            · rw [hb] at z
              cases z
            · exact absurd z nb
            · have still := (ok' b _ (un.frzs b _ _ z)).1
              have old := (ok b _ z).1
              rw [e] at old
              cases old
              exact still
        refine ⟨rfl, ⟨fun b o e => ?_, fun b o e => ?_⟩, os, bare⟩
        · by_cases hb : b = T
          · subst hb
            rw [tab] at e
            cases e
            exact .inr (.inl ⟨(cod.tab tab).isCodeTable, rfl, #[], _, rfl, grown⟩)
          · exact .inl (same b o hb e)
        · by_cases hb : b = T
          · subst hb
            exact ⟨_, grown⟩
          · exact ⟨o, same b o hb e⟩
  rcases known : K.lookup a with _ | o
  · let M : Hp := fun b => if b = T then some (.tbl #[]) else if b = a then some (.frz { cls := .type "list", data := .seq vs.toArray } (.lst (ns.map V.int))) else none
    have at_T : M T = some (.tbl #[]) := if_pos rfl
    have at_a : M a = some (.frz { cls := .type "list", data := .seq vs.toArray } (.lst (ns.map V.int))) := (if_neg aT).trans (if_pos rfl)
    have off : ∀ b, b ≠ T → b ≠ a → M b = none := fun b h1 h2 => (if_neg h1).trans (if_neg h2)
    refine go M (fun b => ?_) at_T (.inl (.inr ⟨_, at_a⟩)) (fun b u z => ?_) (fun b z => ?_)
    · by_cases h1 : b = T
      · exact .inr (.inl h1)
      · by_cases h2 : b = a
        · exact .inr (.inr ⟨_, _, by rw [h2]; exact at_a⟩)
        · exact .inl (off b h1 h2)
    · by_cases h1 : b = T
      · subst h1
        have z' := at_T.symm.trans z
        cases z'
        exact tab
      · by_cases h2 : b = a
        · subst h2
          have z' := at_a.symm.trans z
          cases z'
          exact ⟨obj, by rw [List.length_map]; exact size, vs, _, rel, obj⟩
        · rw [off b h1 h2] at z
          cases z
    · by_cases h1 : b = T
      · exact .inl h1
      · by_cases h2 : b = a
        · exact .inr ⟨h2, known⟩
        · exact (z (off b h1 h2)).elim
  · have e := inK a o known
    rw [obj] at e
    cases e
    let M : Hp := fun b => if b = T then some (.tbl #[]) else none
    have at_T : M T = some (.tbl #[]) := if_pos rfl
    have off : ∀ b, b ≠ T → M b = none := fun b h => if_neg h
    refine go M (fun b => ?_) at_T (.inr ⟨_, vs.toArray, _, known, rfl, rfl, rfl, by rw [List.size_toArray, isI.length]; exact size, by simpa using rel⟩) (fun b u z => ?_) (fun b z => ?_)
    · by_cases h1 : b = T
      · exact .inr (.inl h1)
      · exact .inl (off b h1)
    · by_cases h1 : b = T
      · subst h1
        have z' := at_T.symm.trans z
        cases z'
        exact tab
      · rw [off b h1] at z
        cases z
    · by_cases h1 : b = T
      · exact .inl h1
      · exact (z (off b h1)).elim
theorem walk_T {l : PySem.W.OpenLaw} {n k : Nat} {q : Program} {loose : List Str} {XP : (Str → Option Value) → Heap → Prop} {YP : World → Heap → Prop} {d : DefRec} {K : Params → PySem.W.Frag} {sp : World → Addr → Sp} {x maker : Str}
    (most : l.most = some n) (most2 : n ≤ sizeLine) (plain : d.params.defaults = []) (room : Room k callerA) (part : ∀ (w : World) (h : Heap), YP w h → (K w.params).In h) (recd : ((recsOf q).find? (fun e => e.name == maker)).isSome = true)
    (F : ∀ (w : World) (mg : Str → Option Value) (fa : Addr) (h : Heap), (K w.params).In h → h.Ns mainGlobals mg → mg d.name = some (.ref fa) → ∃ (fd : FuncData) (c T : Addr), PySem.W.tabIn (K w.params) maker = some (c, T) ∧ (K w.params).lookup T = none ∧
      (∀ (s : Shared) (u : Value), BindsTo s fd ⟨[u], []⟩ [(x, u)]) ∧ ∀ base : Heap, (K w.params).In base → base.Ns mainGlobals mg → LamX.TabB base mg c T → FnG l.prog w (K w.params) mg base k fa fd [x] (sp w T))
    (want : ∀ (w : World) (T : Addr) (M : Hp) (a : Addr) (ns : List Int), ns.length ≤ n → M T = some (.tbl #[]) → SqL (K w.params) M a (ns.map V.int) → sp w T [.ref a] M (fun v _ => v = .bl true) fun _ _ _ => False) :
    PySem.W.WalkO q loose XP YP l.row.toRowW d [] (fun f vs => PySem.call f vs) := by
  refine Att.attach_call most plain fun w s₀ s₁ mg mb fa o pm cd doc a vs ns G Y ho hd hcd hmg hobj hints hlen hg => ?_
  have inK := part w _ Y
  obtain ⟨dr, hdr⟩ := Option.isSome_iff_exists.mp recd
  obtain ⟨fd, c, T, ht, noK, bind, run⟩ := F w mg fa _ inK G.T.g hmg
  obtain ⟨cod, tab⟩ := PySem.W.tab_of G.T inK hdr ht
  exact head_T inK G.T.g G.T.b G.T.builtins G.T.nolimit hg tab noK cod G.T.bmain hobj hints (Nat.le_trans hlen most2) room run bind fun M hM seq => want w T M a ns hlen hM seq
end HT1

namespace My
open PySem PySem.Spec PyProof.Rows L2
/-! ### laws whose _law_right makes lambdas -/
/-- the name of a lambda of _law_right -/
def lamQ : Str := "_law_right.<locals>.<lambda>"
abbrev Tb (T : Addr) : List (Addr × Str) := [(T, lamQ)]
/-- all that was tracked stands, but a and the tables -/
def ButN (a : Addr) (H H' : Hp) : Prop := ∀ b o, H b = some o → b ≠ a → (∀ ps, o ≠ .tbl ps) → H' b = some o
theorem But.n {a : Addr} {H H' : Hp} (x : But a H H') : ButN a H H' := fun b o e n _ => x b o e n
theorem ButN.trans {a : Addr} {H H1 H2 : Hp} (x : ButN a H H1) (y : ButN a H1 H2) : ButN a H H2 := fun b o e n t => y b o (x b o e n t) n t
theorem extN_but {a : Addr} {H H' : Hp} (x : LamX.ExtN H H') : ButN a H H' := fun b o e _ t => x b o e t
theorem same_extN {H H' : Hp} (x : Same H H') : LamX.ExtN H H' := fun b o e _ => x b o e
theorem extN_sql {K : PySem.W.Frag} {a : Addr} {xs : List V} {H H' : Hp} (x : LamX.ExtN H H') (h : SqL K H a xs) : SqL K H' a xs := by
  rcases h with (h | ⟨o, h⟩) | h
  · exact .inl (.inl (x _ _ h fun _ z => by cases z))
  · exact .inl (.inr ⟨o, x _ _ h fun _ z => by cases z⟩)
  · exact .inr h
theorem extN_sqt {K : PySem.W.Frag} {a : Addr} {xs : List V} {H H' : Hp} (x : LamX.ExtN H H') (h : SqT K H a xs) : SqT K H' a xs := by
  rcases h with (h | ⟨o, h⟩) | h
  · exact .inl (.inl (x _ _ h fun _ z => by cases z))
  · exact .inl (.inr ⟨o, x _ _ h fun _ z => by cases z⟩)
  · exact .inr h
theorem tabs_upd {T D : Addr} {o : HO} {H : Hp} (t : LamX.Tabs (Tb T) H) (h : ∀ o', H D = some o' → (∀ ps, o' ≠ .tbl ps) ∧ ∀ q, o' ≠ LamX.CodeO D q) : LamX.Tabs (Tb T) (upd H D o) := by
  intro p hp
  obtain ⟨ps, h1, h2, h3⟩ := t p hp
  have n1 : p.1 ≠ D := fun z => by
    rw [z] at h1
    exact (h _ h1).1 ps rfl
  refine ⟨ps, by rw [upd_ne n1]; exact h1, h2, fun pos cv hc => ?_⟩
  obtain ⟨c, e1, e2⟩ := h3 pos cv hc
  refine ⟨c, e1, ?_⟩
  have n2 : c ≠ D := fun z => by
    rw [z] at e2
    exact (h _ e2).2 _ rfl
  rw [upd_ne n2]
  exact e2
theorem tabs_but {T a : Addr} {H H' : Hp} (t : LamX.Tabs (Tb T) H) (x : But a H H') (h : ∀ o', H a = some o' → (∀ ps, o' ≠ .tbl ps) ∧ ∀ q, o' ≠ LamX.CodeO a q) : LamX.Tabs (Tb T) H' := by
  intro p hp
  obtain ⟨ps, h1, h2, h3⟩ := t p hp
  refine ⟨ps, x _ _ h1 fun z => ?_, h2, fun pos cv hc => ?_⟩
  · rw [z] at h1
    exact (h _ h1).1 ps rfl
  · obtain ⟨c, e1, e2⟩ := h3 pos cv hc
    refine ⟨c, e1, x _ _ e2 fun z => ?_⟩
    rw [z] at e2
    exact (h _ e2).2 _ rfl
theorem lst_not {D : Addr} {H : Hp} {xs : List V} (h : H D = some (.lst xs)) : ∀ o', H D = some o' → (∀ ps, o' ≠ .tbl ps) ∧ ∀ q, o' ≠ LamX.CodeO D q := fun o' e => by
  rw [h] at e
  cases e
  exact ⟨fun _ z => (by cases z), fun _ z => by unfold LamX.CodeO at z; cases z⟩
theorem none_not {D : Addr} {H : Hp} (h : H D = none) : ∀ o', H D = some o' → (∀ ps, o' ≠ .tbl ps) ∧ ∀ q, o' ≠ LamX.CodeO D q := fun o' e => by
  rw [h] at e
  cases e
theorem tabs_spr {T a : Addr} {H H' : Hp} (t : LamX.Tabs (Tb T) H) (x : But a H H') (h : Spr H a) : LamX.Tabs (Tb T) H' := by
  obtain ⟨_, _, _, e⟩ := h
  exact tabs_but t x (lst_not e)
theorem tabs_same {T : Addr} {H H' : Hp} (t : LamX.Tabs (Tb T) H) (x : Same H H') : LamX.Tabs (Tb T) H' := t.ext x
/-- what such a _law_right promises -/
def spRightT (T : Addr) : Sp := fun vs H Q _ => ∃ a : Addr, vs = [.ref a] ∧ Spr H a ∧ LamX.Tabs (Tb T) H ∧ ∀ H', ButN a H H' → LamX.Tabs (Tb T) H' → Q (.bl true) H'
def spLawT (K : PySem.W.Frag) (T : Addr) : Sp := fun vs H Q _ => ∃ (a : Addr) (ns : List Int), vs = [.ref a] ∧ SqL K H a (ns.map V.int) ∧ ns.length ≤ 63 ∧ LamX.Tabs (Tb T) H ∧ ∀ H', Q (.bl true) H'
section
variable {P : Program} {w : World} {K : PySem.W.Frag} {mg : Str → Option Value} {base : Heap}
theorem ok_lawT {kR : Nat} {f fS fR T : Addr} {fd fdS fdR : FuncData} (F : Fun K "law" "law" sLaw f fd) (FS : Fun K "_law_spring" "_law_spring" sSpring fS fdS) (bS : Binds K fdS ["_law_script", "_law_k"] []) (gS : mg "_law_spring" = some (.ref fS))
    (kpR : PySem.W.keepIn K (.ref fR) = true) (GR : FnG P w K mg base (kR + 2) fR fdR ["_law_spring_here"] (spRightT T)) (bR : Binds K fdR ["_law_spring_here"] []) (gR : mg "_law_right" = some (.ref fR)) (B : Bt mg) :
    FnG P w K mg base (kR + 3) f fd ["_law_script"] (spLawT K T) := by
  have GS : FnOk P w K mg base CX0 2 fS fdS ["_law_script", "_law_k"] (spSpring K) := ok_spring FS B
  refine Fun_okG F scLaw (fun vs H Q E h => ?_) (fun cdv A outer s H vs Q E gd hr h => ?_)
  · obtain ⟨a, xs, rfl, _⟩ := h
    rfl
  · obtain ⟨a, ns, rfl, hs, hlen, hT, q⟩ := h
    have hr1 : Room 2 _ := hr.mono (by omega)
    refine ⟨_, pss_one (ps_ret (pe_callB (cr_all rfl) (by rfl) B.all (by decide +kernel) (pa_cons
      (pe_lc (own := [("_law_k", 1)]) (g := gName 1) (tt := tYes) rfl scLaw.nd
        (pi_range1 (by rfl) B.range (pa_cons (pe_callB (call_max2 rfl) (by rfl) B.max (by decide +kernel) (pa_cons pe_int (pa_cons (pe_callB (call_min2 rfl) (by rfl) B.min (by decide +kernel) (pa_cons (pe_callB call_len_seq (by rfl) B.len PySem.boot_len (pa_cons (pv 0) pa_nil)) (pa_cons pe_int pa_nil))) pa_nil))) pa_nil))
        (blkOk_by (own := [("_law_k", 1)]) (N := ["_law_script", "_law_k"]) (sc := defScope sLaw) (by decide +kernel)) (fun _ _ _ _ _ => pg_name (i := 1) scLaw.nd rfl (Or.inl rfl)) (fun _ _ _ _ _ => pts_nil)
        (fun _ _ _ _ _ => pe_callG GR gd hr (by rfl) gR kpR bR pass0 (pa_cons (pe_call GS hr1 (by rfl) gS FS.kp bS .nil pass0 (pa_cons (pv 0) (pa_cons (pv 1) pa_nil))) pa_nil)))
      pa_nil))), ?_⟩
    refine ⟨.ref a, rfl, a, _, rfl, .inl hs, _, 5, rfl, 2, _, rfl, _, rfl, ?_, ?_, ?_⟩
    · split <;> (try split) <;> rw [List.length_map] at * <;> omega
    · split <;> (try split) <;> rw [List.length_map] at * <;> omega
    · intro D nD
      refine lc_range (n := _) (fun i H2 => LamX.ExtN H H2 ∧ LamX.Tabs (Tb T) H2 ∧ H2 D = some (.lst (List.replicate i (V.bl true)))) ⟨same_extN (same_upd nD), tabs_same hT (same_upd nD), upd_same⟩ ?_ ?_
      · rintro i H2 hi ⟨sm, hT2, hD⟩
        refine ⟨rfl, .ref a, rfl, .int (0 + (i : Int)), rfl, a, _, ns, rfl, extN_sql sm hs, by omega, hlen, fun p H3 sm3 np hp => ?_⟩
        have nDp : D ≠ p := ne_of_none hD np
        refine ⟨p, rfl, hp, tabs_same hT2 sm3, fun H4 b4 hT4 => ?_⟩
        have hD4 : H4 D = some (.lst (List.replicate i (V.bl true))) := b4 _ _ (sm3 _ _ hD) nDp fun _ z => by cases z
        refine ⟨_, hD4, ?_, fun b o e t => ?_, tabs_upd hT4 (lst_not hD4), ?_⟩
        · rw [List.length_replicate]
          have hi2 : i < 6 := by
            revert hi
            split <;> (try split) <;> omega
          exact Nat.lt_of_lt_of_le hi2 (by decide)
        · have nbD : b ≠ D := ne_of_none e nD
          rw [upd_ne nbD]
          exact b4 _ _ (sm3 _ _ (sm _ _ e t)) (ne_of_none (sm _ _ e t) np) t
        · rw [upd_same, List.replicate_succ']
      · rintro H2 ⟨sm, _, hD⟩
        obtain ⟨n, hD⟩ : ∃ n, H2 D = some (.lst (List.replicate n (V.bl true))) := ⟨_, hD⟩
        refine ⟨D, List.replicate n true, rfl, ?_, ?_⟩
        · rw [List.map_replicate]
          exact SqL.of hD
        · have e : (List.replicate n true).all id = true := by simp
          rw [e]
          exact q _
end
end My
namespace My
open PySem PySem.Spec PyProof.Rows L2
section
variable {P : Program} {w : World} {K : PySem.W.Frag} {mg : Str → Option Value} {base : Heap}
/-- a def called while nothing is displayed, its code object known -/
theorem Fun_okGc {x qual : Str} {st : Stmt} {f c : Addr} {fd : FuncData} {N ps : List Str} {k : Nat} {sp : Sp} (F : Fun K x qual st f fd) (hcode : fd.code = .ref c) (S : FnScope N ps (defScope st)) (len : ∀ xs M Q E, sp xs M Q E → xs.length = ps.length)
    (body : ∀ (A : Around) (up : List Env) (s : Shared) (M : Hp) (xs : List V) (Q : VK) (E : XK), A.guards = some [] → Room k (A.deeper (envOfC qual (defScope st) s.heap.objs.size f (.ref c))) → sp xs M Q E →
      ∃ t, PSs (cxOf CX0 P w K mg base N qual (defScope st) f (.ref c) A up s M E).nox (defBody st) t ∧ t { nx := fun _ M' => Q .non M', rt := Q } (start N xs) M) : FnG P w K mg base (k + 1) f fd ps sp := by
  obtain ⟨oc, od, kV, doc, pm, an, cdv, ct, osl, rfl, look, hc⟩ := F.ex
  have e : cdv = .ref c := hcode
  subst e
  refine ⟨len, fun A up s M given us xs Q E gd room en bd rel want => ?_⟩
  have inK : K.In s.heap := en.mod.kin.keeps fun b o e => (en.bs b o e).1
  have free := en.mod.nolimit.keeps (h' := s.heap) fun b o e => (en.bs b o e).1
  have many := len _ _ _ _ want
  have kinds : ∀ y ∈ ps.zip us, (defScope st).names.lookup y.1 = some .local ∨ ((defScope st).names.lookup y.1 = some .cell ∧ ((cellsFrom (s.heap.objs.size + 1) (defScope st).names []).lookup y.1).isSome = true) := by
    rintro ⟨n, v⟩ hy
    rcases S.par n (List.of_mem_zip hy).1 with z | z
    · exact .inl z
    · exact .inr ⟨z, PySem.W.cellsFrom_some _ _ _ (.inl z)⟩
  refine codeAny_call_function room.depth (inK _ _ look) rfl S.co S.gen rfl (PySem.W.codeRec_of inK hc) (bd _ _ _ _ ?_)
  refine wpAny_newFunctionEnv_cells S.kind kinds fun env same s1 made => ?_
  subst same
  refine ⟨free.keeps made.toInCall.keep, codeAny_func ?_⟩
  obtain ⟨t, h0, q⟩ := body A up s M xs Q E gd (room.deeper _) want
  have h1 := h0.nox
  have J := inv_start (CX := CX0) (E := E) S room.hd en many rel made
  refine wpAny_mono (h1.run [] s1 (start N xs) M _ J q) (fun fl s' z => ?_) fun e s' z => z
  cases fl with
  | ret u =>
    obtain ⟨v, σ', M', I, rv, hq⟩ := z
    exact ⟨v, M', I.os, I.bare, I.base, I.hok, rv, hq⟩
  | next =>
    obtain ⟨σ', M', I, hq⟩ := z
    exact ⟨V.non, M', I.os, I.bare, I.base, I.hok, rfl, hq⟩
  | brk => exact z.elim fun _ z => z.elim fun _ z => z.2.elim
  | cont => exact z.elim fun _ z => z.elim fun _ z => z.2.elim
end
end My

namespace My
open PySem PySem.Spec PyProof.Rows L2
/-! ### things of any kind -/
inductive Th where
  | non
  | bl (b : Bool)
  | int (i : Int)
  | str (s : Str)
  | lst (xs : List Th)
  | tup (xs : List Th)
  | dic
  | lad (us : List (Str × Int)) (d : Nat) (s : Str) (c : Bool) (l : Int)
mutual
/-- the value v is such a thing -/
inductive Ta (K : PySem.W.Frag) (C : Addr) (H : Hp) : V → Th → Prop
  | non : Ta K C H .non .non
  | bl (b : Bool) : Ta K C H (.bl b) (.bl b)
  | int (i : Int) : Ta K C H (.int i) (.int i)
  | str (s : Str) (h : s.length ≤ 1000) : Ta K C H (.str s) (.str s)
  | lst {a : Addr} {vs : List V} {ds : List Th} (h : H a = some (.lst vs)) (t : TaAll K C H vs ds) : Ta K C H (.ref a) (.lst ds)
  | tup {a : Addr} {vs : List V} {ds : List Th} (h : SqT K H a vs) (t : TaAll K C H vs ds) : Ta K C H (.ref a) (.tup ds)
  | dic {a : Addr} (h : H a = some (.dK [])) : Ta K C H (.ref a) .dic
  | lad {a : Addr} {us : List (Str × Int)} {d : Nat} {s : Str} {c : Bool} {l : Int} (h : LadAt K C H a us d s c l) (g : Good us d s l) : Ta K C H (.ref a) (.lad us d s c l)
inductive TaAll (K : PySem.W.Frag) (C : Addr) (H : Hp) : List V → List Th → Prop
  | nil : TaAll K C H [] []
  | cons {v : V} {t : Th} {vs : List V} {ts : List Th} (h : Ta K C H v t) (r : TaAll K C H vs ts) : TaAll K C H (v :: vs) (t :: ts)
end
theorem UA.extN {K : PySem.W.Frag} {H H' : Hp} {a : Addr} {us : List (Str × Int)} (s : LamX.ExtN H H') (h : UA K H a us) : UA K H' a us := by
  obtain ⟨ps, h1, h2⟩ := h
  exact ⟨ps, extN_sqt s h1, paired_imp (fun _ _ => extN_sqt s) h2⟩
theorem LadAt.extN {K : PySem.W.Frag} {C : Addr} {H H' : Hp} {p : Addr} {us : List (Str × Int)} {d : Nat} {s : Str} {c : Bool} {l : Int} (k : LamX.ExtN H H') (h : LadAt K C H p us d s c l) : LadAt K C H' p us d s c l := by
  obtain ⟨dx, ua, t, st, th, h1, h2, h3, h4, h5⟩ := h
  exact ⟨dx, ua, t, st, th, k _ _ h1 (fun _ z => by cases z), h2.extN k, extN_sqt k h3, extN_sqt k h4, extN_sqt k h5⟩
mutual
theorem Ta.extN {K : PySem.W.Frag} {C : Addr} {H H' : Hp} (k : LamX.ExtN H H') : ∀ (t : Th) (v : V), Ta K C H v t → Ta K C H' v t
  | .non, _, h => by
    cases h
    exact .non
  | .bl _, _, h => by
    cases h
    exact .bl _
  | .int _, _, h => by
    cases h
    exact .int _
  | .str _, _, h => by
    cases h with
    | str _ h => exact .str _ h
  | .lst ds, _, h => by
    cases h with
    | lst h t => exact .lst (k _ _ h fun _ z => by cases z) (TaAll.extN k ds _ t)
  | .tup ds, _, h => by
    cases h with
    | tup h t => exact .tup (extN_sqt k h) (TaAll.extN k ds _ t)
  | .dic, _, h => by
    cases h with
    | dic h => exact .dic (k _ _ h fun _ z => by cases z)
  | .lad .., _, h => by
    cases h with
    | lad h g => exact .lad (h.extN k) g
theorem TaAll.extN {K : PySem.W.Frag} {C : Addr} {H H' : Hp} (k : LamX.ExtN H H') : ∀ (ts : List Th) (vs : List V), TaAll K C H vs ts → TaAll K C H' vs ts
  | [], _, h => by
    cases h
    exact .nil
  | t :: ts, _, h => by
    cases h with
    | cons h1 h2 => exact .cons (Ta.extN k t _ h1) (TaAll.extN k ts _ h2)
end
theorem Ta.to {K : PySem.W.Frag} {C : Addr} {H H' : Hp} {v : V} {t : Th} (h : Ta K C H v t) (k : LamX.ExtN H H') : Ta K C H' v t := Ta.extN k t v h
theorem Ta.sm {K : PySem.W.Frag} {C : Addr} {H H' : Hp} {v : V} {t : Th} (h : Ta K C H v t) (k : Same H H') : Ta K C H' v t := h.to (same_extN k)
theorem TaAll.to {K : PySem.W.Frag} {C : Addr} {H H' : Hp} {vs : List V} {ts : List Th} (h : TaAll K C H vs ts) (k : LamX.ExtN H H') : TaAll K C H' vs ts := TaAll.extN k ts vs h
theorem TaAll.sm {K : PySem.W.Frag} {C : Addr} {H H' : Hp} {vs : List V} {ts : List Th} (h : TaAll K C H vs ts) (k : Same H H') : TaAll K C H' vs ts := h.to (same_extN k)
theorem TaAll.len {K : PySem.W.Frag} {C : Addr} {H : Hp} : ∀ {vs : List V} {ts : List Th}, TaAll K C H vs ts → vs.length = ts.length
  | _, _, .nil => rfl
  | _, _, .cons _ r => by rw [List.length_cons, List.length_cons, r.len]
theorem TaAll.at {K : PySem.W.Frag} {C : Addr} {H : Hp} : ∀ {vs : List V} {ts : List Th} {i : Nat} {v : V}, TaAll K C H vs ts → vs[i]? = some v → ∃ t, ts[i]? = some t ∧ Ta K C H v t
  | _, _, i, v, .nil, e => by simp at e
  | _, _, 0, v, .cons h _, e => by
    simp at e
    subst e
    exact ⟨_, rfl, h⟩
  | _, _, i + 1, v, .cons _ r, e => by
    obtain ⟨t, h1, h2⟩ := TaAll.at (i := i) (v := v) r (by simpa using e)
    exact ⟨t, by simpa using h1, h2⟩
theorem TaAll.app {K : PySem.W.Frag} {C : Addr} {H : Hp} : ∀ {vs ws : List V} {ts us : List Th}, TaAll K C H vs ts → TaAll K C H ws us → TaAll K C H (vs ++ ws) (ts ++ us)
  | _, _, _, _, .nil, h => h
  | _, _, _, _, .cons h r, k => .cons h (r.app k)
theorem TaAll.mem {K : PySem.W.Frag} {C : Addr} {H : Hp} {vs : List V} {ts : List Th} {v : V} (h : TaAll K C H vs ts) (hv : v ∈ vs) : ∃ t ∈ ts, Ta K C H v t := by
  obtain ⟨i, hi⟩ := List.getElem?_of_mem hv
  obtain ⟨t, h1, h2⟩ := h.at hi
  exact ⟨t, List.mem_of_getElem? h1, h2⟩
/-! ### what kind of thing it is -/
def Th.is (n : String) : Th → Bool
  | .non => n == "NoneType"
  | .bl _ => n == "bool" || n == "int"
  | .int _ => n == "int"
  | .str _ => n == "str"
  | .lst _ => n == "list"
  | .tup _ => n == "tuple"
  | .dic => n == "dict"
  | .lad .. => false
def Th.isLad : Th → Bool
  | .lad .. => true
  | _ => false
/-- what the questions about kinds ask of the class -/
structure KitO (K : PySem.W.Frag) (C : Addr) : Prop where
  own : ∀ n ∈ ["int", "bool", "str", "tuple"], PySem.W.kitOne K (.ref C) (.type n) = some false
  typ : ∀ n ∈ ["NoneType", "bool", "int", "str", "list", "tuple", "dict"], PySem.W.kitOne K (.type n) (.ref C) = some false
theorem tyx_lst {K : PySem.W.Frag} {H : Hp} {p : Addr} {xs : List V} (h : SqL K H p xs) : TyX K H (.ref p) (.type "list") := by
  rcases h with (h | ⟨o, h⟩) | ⟨o, its, n, h1, h2, _⟩
  · exact .base (.lst h)
  · exact .base (.frz h)
  · exact .kList h1 h2
theorem Ta.ty {K : PySem.W.Frag} {mg : Str → Option Value} {H : Hp} {v : V} {t : Th} (L : LadC K mg) (I : LadI K L.C) (k : KitO K L.C) (h : Ta K L.C H v t) :
    ∃ T, TyX K H v T ∧ (∀ n ∈ ["int", "bool", "str", "tuple"], PySem.W.kitOne K T (.type n) = some (t.is n)) ∧ PySem.W.kitOne K T (.ref L.C) = some t.isLad := by
  cases h with
  | non =>
    refine ⟨_, .base .non, fun n hn => ?_, k.typ _ (by simp)⟩
    simp only [List.mem_cons, List.not_mem_nil, or_false] at hn
    rcases hn with rfl | rfl | rfl | rfl <;> first | exact kit_ty (r := true) (by decide +kernel) | exact kit_ty (r := false) (by decide +kernel)
  | bl b =>
    refine ⟨_, .base (.bl b), fun n hn => ?_, k.typ _ (by simp)⟩
    simp only [List.mem_cons, List.not_mem_nil, or_false] at hn
    rcases hn with rfl | rfl | rfl | rfl <;> first | exact kit_ty (r := true) (by decide +kernel) | exact kit_ty (r := false) (by decide +kernel)
  | int i =>
    refine ⟨_, .base (.int i), fun n hn => ?_, k.typ _ (by simp)⟩
    simp only [List.mem_cons, List.not_mem_nil, or_false] at hn
    rcases hn with rfl | rfl | rfl | rfl <;> first | exact kit_ty (r := true) (by decide +kernel) | exact kit_ty (r := false) (by decide +kernel)
  | str s _ =>
    refine ⟨_, .base (.str s), fun n hn => ?_, k.typ _ (by simp)⟩
    simp only [List.mem_cons, List.not_mem_nil, or_false] at hn
    rcases hn with rfl | rfl | rfl | rfl <;> first | exact kit_ty (r := true) (by decide +kernel) | exact kit_ty (r := false) (by decide +kernel)
  | lst h _ =>
    refine ⟨_, .base (.lst h), fun n hn => ?_, k.typ _ (by simp)⟩
    simp only [List.mem_cons, List.not_mem_nil, or_false] at hn
    rcases hn with rfl | rfl | rfl | rfl <;> first | exact kit_ty (r := true) (by decide +kernel) | exact kit_ty (r := false) (by decide +kernel)
  | tup h _ =>
    refine ⟨_, tyx_tup h, fun n hn => ?_, k.typ _ (by simp)⟩
    simp only [List.mem_cons, List.not_mem_nil, or_false] at hn
    rcases hn with rfl | rfl | rfl | rfl <;> first | exact kit_ty (r := true) (by decide +kernel) | exact kit_ty (r := false) (by decide +kernel)
  | dic h =>
    refine ⟨_, .base (.dK h), fun n hn => ?_, k.typ _ (by simp)⟩
    simp only [List.mem_cons, List.not_mem_nil, or_false] at hn
    rcases hn with rfl | rfl | rfl | rfl <;> first | exact kit_ty (r := true) (by decide +kernel) | exact kit_ty (r := false) (by decide +kernel)
  | lad h _ =>
    obtain ⟨dx, ua, t, st, th, hp, _⟩ := h
    exact ⟨_, .base (.ins hp L.cl I.i1 I.i2 I.i3 I.i4), k.own, I.i5⟩
theorem iteB {c : Bool} {P Q : Prop} (h : c = true) (p : P) : if c = true then P else Q := by
  subst h
  exact iteT p
def Th.isI : Th → Bool
  | .int _ => true
  | _ => false
def Th.within (lo hi : Int) : Th → Bool
  | .int i => decide (lo ≤ i ∧ i ≤ hi)
  | _ => false
def Th.isName : Th → Bool
  | .str z => decide (z.length ≤ 3) && decide (Txt.stripChars z letters = "")
  | _ => false
def Th.isUnit : Th → Bool
  | .tup [a, b] => a.isName && b.within 1 1000000000000000000
  | _ => false
theorem Th.tup_or (t : Th) : (∃ ds, t = .tup ds) ∨ (t.is "tuple" = false ∧ t.isUnit = false) := by
  cases t with
  | tup ds => exact .inl ⟨ds, rfl⟩
  | _ => exact .inr ⟨by rfl, by rfl⟩
theorem Ta.tup_inv {K : PySem.W.Frag} {C : Addr} {H : Hp} {v : V} {ds : List Th} (h : Ta K C H v (.tup ds)) : ∃ (a : Addr) (vs : List V), v = .ref a ∧ SqT K H a vs ∧ TaAll K C H vs ds := by
  cases h with
  | tup h t => exact ⟨_, _, rfl, h, t⟩
theorem TaAll.two {K : PySem.W.Frag} {C : Addr} {H : Hp} {vs : List V} {ds : List Th} (h : TaAll K C H vs ds) (h2 : vs.length = 2) : ∃ x y a b, vs = [x, y] ∧ ds = [a, b] ∧ Ta K C H x a ∧ Ta K C H y b := by
  match vs, ds, h, h2 with
  | [x, y], [a, b], .cons hx (.cons hy .nil), _ => exact ⟨x, y, a, b, rfl, rfl, hx, hy⟩
theorem TaAll.three {K : PySem.W.Frag} {C : Addr} {H : Hp} {vs : List V} {ds : List Th} (h : TaAll K C H vs ds) (h3 : vs.length = 3) : ∃ x y z a b c, vs = [x, y, z] ∧ ds = [a, b, c] ∧ Ta K C H x a ∧ Ta K C H y b ∧ Ta K C H z c := by
  match vs, ds, h, h3 with
  | [x, y, z], [a, b, c], .cons hx (.cons hy (.cons hz .nil)), _ => exact ⟨x, y, z, a, b, c, rfl, rfl, hx, hy, hz⟩
theorem unit_two {ds : List Th} (h : ds.length ≠ 2) : (Th.tup ds).isUnit = false := by
  match ds, h with
  | [], _ => rfl
  | [_], _ => rfl
  | [_, _], h => exact absurd rfl h
  | _ :: _ :: _ :: _, _ => rfl
theorem len_ne {n m : Nat} (h : n ≠ m) : (!decide (V.int (n : Int) = V.int (m : Int))) = true := by
  rw [decide_eq_false (fun w => h (by have := V.int.inj w; omega))]
  rfl
theorem len_eq {n m : Nat} (h : n = m) : (!decide (V.int (n : Int) = V.int (m : Int))) = false := by
  rw [h, decide_eq_true rfl]
  rfl
def spIntT (K : PySem.W.Frag) (C : Addr) : Sp := fun vs H Q _ => ∃ (v : V) (t : Th), vs = [v] ∧ Ta K C H v t ∧ Q (.bl t.isI) H
def spWithinT (K : PySem.W.Frag) (C : Addr) : Sp := fun vs H Q _ => ∃ (v : V) (t : Th) (lo hi : Int), vs = [v, .int lo, .int hi] ∧ Ta K C H v t ∧ Q (.bl (t.within lo hi)) H
def spUNameT (K : PySem.W.Frag) (C : Addr) : Sp := fun vs H Q _ => ∃ (v : V) (t : Th), vs = [v] ∧ Ta K C H v t ∧ Q (.bl t.isName) H
def spUnitT (K : PySem.W.Frag) (C : Addr) : Sp := fun vs H Q _ => ∃ (v : V) (t : Th), vs = [v] ∧ Ta K C H v t ∧ Q (.bl t.isUnit) H
section
variable {P : Program} {w : World} {K : PySem.W.Frag} {mg : Str → Option Value} {base : Heap}
theorem ok_integerT (d : Dd K mg "is_integer" sInteger ["value"]) (L : LadC K mg) (I : LadI K L.C) (k : KitO K L.C) (B : Bt mg) : FnOk P w K mg base CX0 1 d.f d.fd ["value"] (spIntT K L.C) := by
  refine d.F.ok scInteger (fun vs H Q E h => ?_) (fun cdv A outer s H vs Q E hr h => ?_)
  · obtain ⟨_, _, rfl, _⟩ := h
    rfl
  · obtain ⟨v, t, rfl, ht, q⟩ := h
    obtain ⟨T, h1, h2, _⟩ := ht.ty L I k
    refine ⟨_, pss_one (ps_ret (pe_and (pe_callB call_isi (by rfl) B.isinstance (by decide +kernel) (pa_cons (pv 0) (pa_cons (pe_bltn (v := .ty "int") (by rfl) B.int (by decide +kernel) rfl) pa_nil)))
      (pe_one (pe_not (pe_callB call_isi (by rfl) B.isinstance (by decide +kernel) (pa_cons (pv 0) (pa_cons (pe_bltn (v := .ty "bool") (by rfl) B.bool (by decide +kernel) rfl) pa_nil))))))), ?_⟩
    refine ⟨_, rfl, _, _, _, _, _, rfl, .ty "int", h1, h2 "int" (by simp), _, rfl, ?_⟩
    cases t with
    | int i => exact iteT ⟨_, rfl, _, _, _, _, _, rfl, .ty "bool", h1, h2 "bool" (by simp), _, rfl, q⟩
    | bl b => exact iteT ⟨_, rfl, _, _, _, _, _, rfl, .ty "bool", h1, h2 "bool" (by simp), _, rfl, q⟩
    | _ => exact iteF q
theorem ok_withinT (d : DdW K mg) (L : LadC K mg) (I : LadI K L.C) (k : KitO K L.C) (B : Bt mg) : FnOk P w K mg base CX0 2 d.f d.fd ["value", "low", "high"] (spWithinT K L.C) := by
  have GI : FnOk P w K mg base CX0 1 d.dI.f d.dI.fd ["value"] (spIntT K L.C) := ok_integerT d.dI L I k B
  refine d.F.ok scWithin (fun vs H Q E h => ?_) (fun cdv A outer s H vs Q E hr h => ?_)
  · obtain ⟨_, _, _, _, rfl, _⟩ := h
    rfl
  · obtain ⟨v, t, lo, hi, rfl, ht, q⟩ := h
    refine ⟨_, pss_one (ps_ret (pe_and (pe_call GI hr (by rfl) d.dI.g d.dI.F.kp d.dI.b .nil pass0 (pa_cons (pv 0) pa_nil))
        (pe_one (pe_chain op_le op_le (pv 1) (pv 0) (pv 2))))), ?_⟩
    refine ⟨v, rfl, v, t, rfl, ht, _, rfl, ?_⟩
    cases t with
    | int v =>
      cases ht
      refine iteT ⟨.int lo, rfl, .int v, rfl, lo, v, rfl, rfl, _, rfl, ite2 (fun e => ?_) (fun e => ?_)⟩
      · have h1 : lo ≤ v := of_decide_eq_true e
        refine ⟨.int hi, rfl, v, hi, rfl, rfl, ?_⟩
        have e2 : decide (v ≤ hi) = (Th.int v).within lo hi := by simp [Th.within, h1]
        show Q (.bl (decide (v ≤ hi))) H
        rw [← e2] at q
        exact q
      · have h1 : ¬ lo ≤ v := fun z => e (decide_eq_true z)
        have e2 : false = (Th.int v).within lo hi := by simp [Th.within, h1]
        rw [← e2] at q
        exact q
    | _ => exact iteF q
theorem ok_unameT (d : Dd K mg "is_unit_name" sUName ["name"]) (L : LadC K mg) (I : LadI K L.C) (k : KitO K L.C) (B : Bt mg) (G : Gc K mg) : FnOk P w K mg base CX0 2 d.f d.fd ["name"] (spUNameT K L.C) := by
  obtain ⟨t1, g1⟩ := G.mlet
  obtain ⟨t2, g2⟩ := G.letters
  refine d.F.ok scUName (fun vs H Q E h => ?_) (fun cdv A outer s H vs Q E hr h => ?_)
  · obtain ⟨_, _, rfl, _⟩ := h
    rfl
  · obtain ⟨v, t, rfl, ht, q⟩ := h
    obtain ⟨T, h1, h2, _⟩ := ht.ty L I k
    refine ⟨_, pss_one (ps_ret (pe_and (pe_callB call_isi (by rfl) B.isinstance (by decide +kernel) (pa_cons (pv 0) (pa_cons (pe_bltn (v := .ty "str") (by rfl) B.str (by decide +kernel) rfl) pa_nil)))
      (pe_and (pe_cmpR op_le (pe_callB call_len_str (by rfl) B.len PySem.boot_len (pa_cons (pv 0) pa_nil)) (pe_glob (v := .int 3) (by rfl) g1 ⟨_, rfl⟩) (nomark _))
        (pe_one (pe_cmpR op_eq (pe_bm PySem.F.plainAttrs_str PySem.F.slot_str_strip PySem.F.type_str_strip mt_stripChars (pv 0) (pa_cons (pe_glob (v := .str letters) (by rfl) g2 ⟨_, rfl⟩) pa_nil)) pe_str (nomark _)))))), ?_⟩
    refine ⟨_, rfl, _, _, _, _, _, rfl, .ty "str", h1, h2 "str" (by simp), _, rfl, ?_⟩
    cases t with
    | str z =>
      cases ht with
      | str _ hz =>
      refine iteT ⟨.str z, rfl, z, rfl, Nat.le_trans hz (by decide), _, _, rfl, rfl, _, rfl, ite2 (fun e => ?_) (fun e => ?_)⟩
      · have h3 : z.length ≤ 3 := by
          have h := of_decide_eq_true e
          omega
        refine ⟨.str z, rfl, rfl, z, _, rfl, rfl, Nat.le_trans hz (by decide), rfl, ?_⟩
        have e2 : decide (V.str (Txt.stripChars z letters) = V.str "") = (Th.str z).isName := by
          simp [Th.isName, h3]
        rw [← e2] at q
        exact q
      · have h3 : ¬ z.length ≤ 3 := fun h => e (decide_eq_true (by omega))
        have e2 : false = (Th.str z).isName := by simp [Th.isName, h3]
        rw [← e2] at q
        exact q
    | _ => exact iteF q
theorem ok_unitT (d : Dd K mg "is_unit" sUnit ["unit"]) (dN : Dd K mg "is_unit_name" sUName ["name"]) (dW : DdW K mg) (L : LadC K mg) (I : LadI K L.C) (k : KitO K L.C) (B : Bt mg) (G : Gc K mg) : FnOk P w K mg base CX0 3 d.f d.fd ["unit"] (spUnitT K L.C) := by
  obtain ⟨t1, g1⟩ := G.num
  have GN : FnOk P w K mg base CX0 2 dN.f dN.fd ["name"] (spUNameT K L.C) := ok_unameT dN L I k B G
  have GW : FnOk P w K mg base CX0 2 dW.f dW.fd ["value", "low", "high"] (spWithinT K L.C) := ok_withinT dW L I k B
  refine d.F.ok scUnit (fun vs H Q E h => ?_) (fun cdv A outer s H vs Q E hr h => ?_)
  · obtain ⟨_, _, rfl, _⟩ := h
    rfl
  · obtain ⟨v, t, rfl, ht, q⟩ := h
    obtain ⟨T, h1, h2, _⟩ := ht.ty L I k
    refine ⟨_, pss_cons (ps_if (PW.pt (pw_or (pt_not (pt_val (pe_callB call_isi (by rfl) B.isinstance (by decide +kernel) (pa_cons (pv 0) (pa_cons (pe_bltn (v := .ty "tuple") (by rfl) B.tuple (by decide +kernel) rfl) pa_nil)))))
        (pw_or1 (pt_cmpR op_ne (pe_callB call_len_seq (by rfl) B.len PySem.boot_len (pa_cons (pv 0) pa_nil)) pe_int (nomark _))))) (pss_one (ps_ret pe_bl)) pss_nil)
      (pss_one (ps_ret (pe_and (pe_call GN hr (by rfl) dN.g dN.F.kp dN.b .nil pass0 (pa_cons (pe_ix ix_tup (pv 0) pe_int (fun _ _ => rfl)) pa_nil))
        (pe_one (pe_call GW hr (by rfl) dW.g dW.F.kp dW.b .nil pass0 (pa_cons (pe_ix ix_tup (pv 0) pe_int (fun _ _ => rfl)) (pa_cons pe_int (pa_cons (pe_glob (v := .int 1000000000000000000) (by rfl) g1 ⟨_, rfl⟩) pa_nil)))))))), ?_⟩
    refine ⟨_, rfl, _, _, _, _, _, rfl, .ty "tuple", h1, h2 "tuple" (by simp), _, rfl, ?_⟩
    rcases t.tup_or with ⟨ds, rfl⟩ | ⟨et, eu⟩
    · obtain ⟨a, vs, rfl, hp, hd⟩ := ht.tup_inv
      have hl := hd.len
      refine iteF ⟨.ref a, rfl, a, _, rfl, .inr hp, rfl, _, rfl, ?_⟩
      by_cases hv : vs.length = 2
      · obtain ⟨x, y, a1, a2, rfl, rfl, hx, hy⟩ := hd.two hv
        refine iteE (len_eq (m := 2) hv) ⟨.ref a, rfl, a, _, 0, x, rfl, rfl, hp, rfl, x, a1, rfl, hx, _, rfl, ?_⟩
        have e2 : (Th.tup [a1, a2]).isUnit = (a1.isName && a2.within 1 1000000000000000000) := rfl
        rw [e2] at q
        cases hn : a1.isName with
        | false =>
          rw [hn] at q
          exact iteF q
        | true =>
          rw [hn] at q
          exact iteT ⟨.ref a, rfl, a, _, 1, y, rfl, rfl, hp, rfl, y, a2, 1, _, rfl, hy, q⟩
      · rw [unit_two (fun z => hv (by omega))] at q
        exact iteB (len_ne (m := 2) hv) q
    · rw [eu] at q
      exact iteB (by rw [et]; rfl) q
end
end My

namespace My
open PySem PySem.Spec PyProof.Rows L2
/-! ### written data -/
/-- all but a -/
def hid (a : Addr) (H : Hp) : Hp := fun b => if b = a then none else H b
theorem hid_same (a : Addr) (H : Hp) : Same (hid a H) H := fun b o e => by
  unfold hid at e
  split at e
  · cases e
  · exact e
theorem hid_at {a b : Addr} {H : Hp} (n : b ≠ a) : hid a H b = H b := if_neg n
theorem but_hid {a : Addr} {H H' : Hp} (x : But a H H') : Same (hid a H) (hid a H') := fun b o e => by
  have n : b ≠ a := fun z => by
    rw [z] at e
    unfold hid at e
    rw [if_pos rfl] at e
    cases e
  rw [hid_at n] at e ⊢
  exact x b o e n
theorem same_hid {a : Addr} {H H' : Hp} (x : Same H H') : Same (hid a H) (hid a H') := but_hid (Same.but x)
theorem PE.weak {X : Cx} {e : Expr} {t t' : TE} (h : PE X e t) (w : ∀ σ H Q, t' σ H Q → t σ H Q) : PE X e t' := ⟨fun pins s σ H Q I q => h.run pins s σ H Q I (w σ H Q q)⟩
theorem PA.weak {X : Cx} {es : List Expr} {t t' : TA} (h : PA X es t) (w : ∀ σ H Q, t' σ H Q → t σ H Q) : PA X es t' := ⟨fun pos pins s σ H Q I q => h.run pos pins s σ H Q I (w σ H Q q)⟩
/-- what stands in a list or a tuple -/
abbrev tl : Th → List Th
  | .lst xs => xs
  | .tup xs => xs
  | _ => []
theorem Ta.lst_inv {K : PySem.W.Frag} {C : Addr} {H : Hp} {v : V} {ds : List Th} (h : Ta K C H v (.lst ds)) : ∃ (p : Addr) (vs : List V), v = .ref p ∧ H p = some (.lst vs) ∧ TaAll K C H vs ds := by
  cases h with
  | lst h t => exact ⟨_, _, rfl, h, t⟩
theorem TaAll.rep {K : PySem.W.Frag} {C : Addr} {H : Hp} {vs : List V} {ds : List Th} (h : TaAll K C H vs ds) : ∀ n : Nat, TaAll K C H (List.replicate n vs).flatten (List.replicate n ds).flatten
  | 0 => .nil
  | n + 1 => by
    rw [List.replicate_succ, List.replicate_succ, List.flatten_cons, List.flatten_cons]
    exact h.app (h.rep n)
/-- what the slots hold, by ρ -/
def Lok (K : PySem.W.Frag) (C a : Addr) (us : List Nat) (ρ : Nat → Th) (σ : L2.St) (H : Hp) : Prop := Spr H a ∧ ∀ i ∈ us, ∃ v, σ[i]? = some (some v) ∧ Ta K C (hid a H) v (ρ i)
theorem Lok.sm {K : PySem.W.Frag} {C a : Addr} {us : List Nat} {ρ : Nat → Th} {σ : L2.St} {H H' : Hp} (h : Lok K C a us ρ σ H) (s : Same H H') : Lok K C a us ρ σ H' := by
  obtain ⟨h1, h2⟩ := h
  refine ⟨h1.same s, fun p hp => ?_⟩
  obtain ⟨v, e, t⟩ := h2 p hp
  exact ⟨v, e, t.sm (same_hid s)⟩
theorem Lok.ne {K : PySem.W.Frag} {C a p : Addr} {us : List Nat} {ρ : Nat → Th} {σ : L2.St} {H : Hp} (h : Lok K C a us ρ σ H) (n : H p = none) : p ≠ a := fun z => by
  obtain ⟨⟨_, _, _, h1⟩, _⟩ := h
  rw [z, h1] at n
  cases n
theorem Lok.fst {K : PySem.W.Frag} {C a : Addr} {u1 u2 : List Nat} {ρ : Nat → Th} {σ : L2.St} {H : Hp} (h : Lok K C a (u1 ++ u2) ρ σ H) : Lok K C a u1 ρ σ H := ⟨h.1, fun i hi => h.2 i (List.mem_append_left _ hi)⟩
theorem Lok.snd {K : PySem.W.Frag} {C a : Addr} {u1 u2 : List Nat} {ρ : Nat → Th} {σ : L2.St} {H : Hp} (h : Lok K C a (u1 ++ u2) ρ σ H) : Lok K C a u2 ρ σ H := ⟨h.1, fun i hi => h.2 i (List.mem_append_right _ hi)⟩
abbrev Gf := (Nat → Th) → Th
/-- data, as the slots us make it: g; ok: what it asks of them -/
def tLit (K : PySem.W.Frag) (C a : Addr) (us : List Nat) (ok : (Nat → Th) → Prop) (g : Gf) : TE := fun σ H Q => ∃ ρ, ok ρ ∧ Lok K C a us ρ σ H ∧ ∀ v H', Same H H' → Ta K C (hid a H') v (g ρ) → Q v H'
def tLits (K : PySem.W.Frag) (C a : Addr) (us : List Nat) (ok : (Nat → Th) → Prop) (gs : (Nat → Th) → List Th) : TA := fun σ H Q => ∃ ρ, ok ρ ∧ Lok K C a us ρ σ H ∧ ∀ vs H', Same H H' → TaAll K C (hid a H') vs (gs ρ) → Q vs H'
section
variable {X : Cx} {C a : Addr} {us u1 u2 : List Nat} {ok ok1 ok2 : (Nat → Th) → Prop} {g g1 g2 : Gf} {gs : (Nat → Th) → List Th}
/-- a value that costs nothing: v, of the kind d -/
theorem li_val {e : Expr} {te : TE} {v : V} {d : Th} (h : PE X e te) (w : ∀ σ H (Q : VK), Q v H → te σ H Q) (k : ∀ H, Ta X.K C H v d) : PE X e (tLit X.K C a [] (fun _ => True) fun _ => d) :=
  PE.weak h fun σ H Q ⟨_, _, _, q⟩ => w σ H Q (q v H (Same.refl _) (k _))
theorem li_str {s : Str} {k : Nat} {p : Pos} (h : s.length ≤ 1000 := by decide) : PE X (.Constant (.str s) k p) (tLit X.K C a [] (fun _ => True) fun _ => .str s) := li_val pe_str (fun _ _ _ q => q) fun _ => .str _ h
theorem li_int {i : Int} {k : Nat} {p : Pos} : PE X (.Constant (.int i) k p) (tLit X.K C a [] (fun _ => True) fun _ => .int i) := li_val pe_int (fun _ _ _ q => q) fun _ => .int _
theorem li_neg {i : Int} {k : Nat} {p p2 : Pos} : PE X (.UnaryOp .USub (.Constant (.int i) k p) p2) (tLit X.K C a [] (fun _ => True) fun _ => .int (-i)) := li_val (pe_un un_neg pe_int) (fun _ _ _ q => ⟨i, rfl, q⟩) fun _ => .int _
theorem li_bl {b : Bool} {k : Nat} {p : Pos} : PE X (.Constant (.bool b) k p) (tLit X.K C a [] (fun _ => True) fun _ => .bl b) := li_val pe_bl (fun _ _ _ q => q) fun _ => .bl _
theorem li_non {k : Nat} {p : Pos} : PE X (.Constant .none k p) (tLit X.K C a [] (fun _ => True) fun _ => .non) := li_val pe_non (fun _ _ _ q => q) fun _ => .non
theorem li_pow {b n : Int} {k1 k2 : Nat} {p1 p2 p : Pos} (h : CPow b n := by exact ⟨by decide, by decide, by decide⟩) : PE X (.BinOp (.Constant (.int b) k1 p1) .Pow (.Constant (.int n) k2 p2) p) (tLit X.K C a [] (fun _ => True) fun _ => .int (b ^ n.toNat)) :=
  li_val (pe_op op_pow pe_int pe_int) (fun _ _ _ q => ⟨b, n, rfl, rfl, h, q⟩) fun _ => .int _
theorem li_pow1 {b n m : Int} {k1 k2 k3 : Nat} {p1 p2 p3 p p' : Pos} (h : CPow b n := by exact ⟨by decide, by decide, by decide⟩) : PE X (.BinOp (.BinOp (.Constant (.int b) k1 p1) .Pow (.Constant (.int n) k2 p2) p) .Add (.Constant (.int m) k3 p3) p') (tLit X.K C a [] (fun _ => True) fun _ => .int (b ^ n.toNat + m)) :=
  li_val (pe_op op_add (pe_op op_pow pe_int pe_int) pe_int) (fun _ _ _ q => ⟨b, n, rfl, rfl, h, _, m, rfl, rfl, q⟩) fun _ => .int _
/-- a name that the frame holds -/
theorem li_var {e : Expr} {i : Nat} (h : PE X e (tVar i)) : PE X e (tLit X.K C a [i] (fun _ => True) fun ρ => ρ i) :=
  PE.weak h fun σ H Q ⟨ρ, _, o, q⟩ => by
    obtain ⟨v, e, t⟩ := o.2 i (List.mem_singleton.mpr rfl)
    exact ⟨v, e, q v H (Same.refl _) t⟩
theorem lis_nil : PA X [] (tLits X.K C a [] (fun _ => True) fun _ => []) := PA.weak pa_nil fun σ H Q ⟨_, _, _, q⟩ => q [] H (Same.refl _) .nil
theorem lis_cons {e : Expr} {es : List Expr} (h : PE X e (tLit X.K C a u1 ok1 g)) (r : PA X es (tLits X.K C a u2 ok2 gs)) (he : starEach (e :: es) X.env = (false, eval e X.env) :: starEach es X.env := by rfl) : PA X (e :: es) (tLits X.K C a (u1 ++ u2) (fun ρ => ok1 ρ ∧ ok2 ρ) fun ρ => g ρ :: gs ρ) :=
  PA.weak (pa_cons h r he) fun σ H Q ⟨ρ, ho, o, q⟩ => ⟨ρ, ho.1, o.fst, fun v H1 s1 t1 => ⟨ρ, ho.2, o.snd.sm s1, fun vs H2 s2 t2 => q _ _ (s1.trans s2) (.cons (t1.sm (same_hid s2)) t2)⟩⟩
theorem li_tup {es : List Expr} {x : Nat} {p : Pos} (h : PA X es (tLits X.K C a us ok gs)) (hl : ∀ ρ, Nat.ble (gs ρ).length 1000 = true := by intro _; rfl) : PE X (.Tuple es x p) (tLit X.K C a us ok fun ρ => .tup (gs ρ)) :=
  PE.weak (pe_tup h) fun σ H Q ⟨ρ, ho, o, q⟩ => ⟨ρ, ho, o, fun vs H1 s1 t1 => ⟨by rw [t1.len]; exact Nat.le_trans (Nat.le_of_ble_eq_true (hl ρ)) (by decide), fun p np => q _ _ (s1.trans (same_upd np)) (.tup (SqT.of (by rw [hid_at ((o.sm s1).ne np)]; exact upd_same)) (t1.sm (same_hid (same_upd np))))⟩⟩
theorem li_lst {es : List Expr} {p : Pos} (h : PA X es (tLits X.K C a us ok gs)) (hl : ∀ ρ, Nat.ble (gs ρ).length 1000 = true := by intro _; rfl) : PE X (.List es p) (tLit X.K C a us ok fun ρ => .lst (gs ρ)) :=
  PE.weak (pe_lst h) fun σ H Q ⟨ρ, ho, o, q⟩ => ⟨ρ, ho, o, fun vs H1 s1 t1 => ⟨by rw [t1.len]; exact Nat.le_trans (Nat.le_of_ble_eq_true (hl ρ)) (by decide), fun p np => q _ _ (s1.trans (same_upd np)) (.lst (by rw [hid_at ((o.sm s1).ne np)]; exact upd_same) (t1.sm (same_hid (same_upd np))))⟩⟩
/-- two tuples put together -/
theorem li_catT {e1 e2 : Expr} {p : Pos} (h1 : PE X e1 (tLit X.K C a u1 ok1 g1)) (h2 : PE X e2 (tLit X.K C a u2 ok2 g2)) :
    PE X (.BinOp e1 .Add e2 p) (tLit X.K C a (u1 ++ u2) (fun ρ => ok1 ρ ∧ ok2 ρ ∧ g1 ρ = .tup (tl (g1 ρ)) ∧ g2 ρ = .tup (tl (g2 ρ)) ∧ Nat.ble ((tl (g1 ρ)).length + (tl (g2 ρ)).length) 1000 = true) fun ρ => .tup (tl (g1 ρ) ++ tl (g2 ρ))) := by
  refine PE.weak (pe_op (r := rCatA X.K) op_catA h1 h2) fun σ H Q ⟨ρ, ⟨o1, o2, k1, k2, hl⟩, o, q⟩ => ⟨ρ, o1, o.fst, fun x H1 s1 t1 => ⟨ρ, o2, o.snd.sm s1, fun y H2 s2 t2 => ?_⟩⟩
  have hl := Nat.le_of_ble_eq_true hl
  rw [k1] at t1
  rw [k2] at t2
  obtain ⟨b, vs, rfl, hb, tb⟩ := t1.tup_inv
  obtain ⟨c, ws, rfl, hc, tc⟩ := t2.tup_inv
  have hb2 := same_sqt (same_hid s2) hb
  have tb2 := tb.sm (same_hid (a := a) s2)
  have app := TaAll.app tb2 tc
  refine ⟨b, c, vs, ws, rfl, rfl, same_sqt (hid_same a H2) hb2, same_sqt (hid_same a H2) hc, ?_, fun e => ?_, fun _ e => ?_, fun _ _ p np => ?_⟩
  · rw [tb.len, tc.len]
    exact Nat.le_trans hl (by decide)
  · subst e
    exact q _ _ (s1.trans s2) (.tup hc app)
  · subst e
    rw [List.append_nil] at app
    exact q _ _ (s1.trans s2) (.tup hb2 app)
  · exact q _ _ ((s1.trans s2).trans (same_upd np)) (.tup (SqT.of (by rw [hid_at (((o.sm s1).sm s2).ne np)]; exact upd_same)) (app.sm (same_hid (same_upd np))))
/-- two lists put together -/
theorem li_catL {e1 e2 : Expr} {p : Pos} (h1 : PE X e1 (tLit X.K C a u1 ok1 g1)) (h2 : PE X e2 (tLit X.K C a u2 ok2 g2)) :
    PE X (.BinOp e1 .Add e2 p) (tLit X.K C a (u1 ++ u2) (fun ρ => ok1 ρ ∧ ok2 ρ ∧ g1 ρ = .lst (tl (g1 ρ)) ∧ g2 ρ = .lst (tl (g2 ρ)) ∧ Nat.ble ((tl (g1 ρ)).length + (tl (g2 ρ)).length) 1000 = true) fun ρ => .lst (tl (g1 ρ) ++ tl (g2 ρ))) := by
  refine PE.weak (pe_op (r := rCat) op_cat h1 h2) fun σ H Q ⟨ρ, ⟨o1, o2, k1, k2, hl⟩, o, q⟩ => ⟨ρ, o1, o.fst, fun x H1 s1 t1 => ⟨ρ, o2, o.snd.sm s1, fun y H2 s2 t2 => ?_⟩⟩
  have hl := Nat.le_of_ble_eq_true hl
  rw [k1] at t1
  rw [k2] at t2
  obtain ⟨b, vs, rfl, hb, tb⟩ := t1.lst_inv
  obtain ⟨c, ws, rfl, hc, tc⟩ := t2.lst_inv
  have hb2 := hid_same a H2 _ _ (same_hid s2 _ _ hb)
  have tb2 := tb.sm (same_hid (a := a) s2)
  refine ⟨b, c, vs, ws, rfl, rfl, hb2, hid_same a H2 _ _ hc, ?_, fun p np => ?_⟩
  · rw [tb.len, tc.len]
    exact Nat.le_trans hl (by decide)
  · exact q _ _ ((s1.trans s2).trans (same_upd np)) (.lst (by rw [hid_at (((o.sm s1).sm s2).ne np)]; exact upd_same) ((TaAll.app tb2 tc).sm (same_hid (same_upd np))))
/-- a tuple several times -/
theorem li_repT {e1 : Expr} {n : Int} {k : Nat} {p p2 : Pos} (h1 : PE X e1 (tLit X.K C a us ok g)) (h2 : 2 ≤ n := by decide) (h3 : n ≤ 1000 := by decide) :
    PE X (.BinOp e1 .Mult (.Constant (.int n) k p) p2) (tLit X.K C a us (fun ρ => ok ρ ∧ g ρ = .tup (tl (g ρ)) ∧ Nat.ble 1 (tl (g ρ)).length = true ∧ Nat.ble (tl (g ρ)).length 1000 = true) fun ρ => .tup (List.replicate n.toNat (tl (g ρ))).flatten) := by
  refine PE.weak (pe_op (r := rRepT X.K) op_repT h1 pe_int) fun σ H Q ⟨ρ, ⟨o1, k1, l1, l2⟩, o, q⟩ => ⟨ρ, o1, o, fun x H1 s1 t1 => ?_⟩
  have l1 := Nat.le_of_ble_eq_true l1
  have l2 := Nat.le_of_ble_eq_true l2
  rw [k1] at t1
  obtain ⟨b, vs, rfl, hb, tb⟩ := t1.tup_inv
  refine ⟨b, n, vs, rfl, rfl, same_sqt (hid_same a H1) hb, fun e => ?_, h2, h3, by rw [tb.len]; exact l2, fun p np => ?_⟩
  · rw [← tb.len, e] at l1
    cases l1
  · exact q _ _ (s1.trans (same_upd np)) (.tup (SqT.of (by rw [hid_at ((o.sm s1).ne np)]; exact upd_same)) ((tb.rep n.toNat).sm (same_hid (same_upd np))))
theorem li_dic {p : Pos} : PE X (.Dict [] [] p) (tLit X.K C a [] (fun _ => True) fun _ => .dic) :=
  PE.weak pe_dnewK fun σ H Q ⟨ρ, _, o, q⟩ => fun p np => q _ _ (same_upd np) (.dic (by rw [hid_at (o.ne np)]; exact upd_same))
/-- a list several times -/
theorem li_repL {e1 : Expr} {n : Int} {k : Nat} {p p2 : Pos} (h1 : PE X e1 (tLit X.K C a us ok g)) (h2 : 0 ≤ n ∧ n ≤ 100 := by decide) :
    PE X (.BinOp e1 .Mult (.Constant (.int n) k p) p2) (tLit X.K C a us (fun ρ => ok ρ ∧ g ρ = .lst (tl (g ρ)) ∧ Nat.ble (tl (g ρ)).length 1000 = true) fun ρ => .lst (List.replicate n.toNat (tl (g ρ))).flatten) := by
  refine PE.weak (pe_op (r := rRep) op_rep h1 pe_int) fun σ H Q ⟨ρ, ⟨o1, k1, l2⟩, o, q⟩ => ⟨ρ, o1, o, fun x H1 s1 t1 => ?_⟩
  have l2 := Nat.le_of_ble_eq_true l2
  rw [k1] at t1
  obtain ⟨b, vs, rfl, hb, tb⟩ := t1.lst_inv
  refine ⟨b, n, vs, rfl, rfl, hid_same a H1 _ _ hb, by omega, by omega, ?_, fun p np => ?_⟩
  · rw [tb.len]
    exact Nat.le_trans (Nat.mul_le_mul l2 (show n.toNat ≤ 100 by omega)) (by decide)
  · exact q _ _ (s1.trans (same_upd np)) (.lst (by rw [hid_at ((o.sm s1).ne np)]; exact upd_same) ((tb.rep n.toNat).sm (same_hid (same_upd np))))
end
end My

namespace My
open PySem PySem.Spec PyProof.Rows L2
/-! ### _law_came_out of a lambda of _law_right -/
abbrev nCame : List Str := ["_law_ask", "_law_given", "e"]
/-! ### the rows of what came out -/
/-- the list at D, new behind H1, holds rows, each a list of its own -/
def Rows (T : Addr) (H1 H : Hp) (D : Addr) (rs : List (List V)) : Prop := LamX.ExtN H1 H ∧ LamX.Tabs (Tb T) H ∧ (∀ o, H1 D = some o → ∃ ps, o = .tbl ps) ∧ ∃ ps : List Addr, H D = some (.lst (ps.map V.ref)) ∧ PySem.Paired (fun p r => p ≠ D ∧ H p = some (.lst r)) ps rs
theorem Rows.ext {T : Addr} {H1 H H' : Hp} {D : Addr} {rs : List (List V)} (h : Rows T H1 H D rs) (x : LamX.ExtN H H') (t : LamX.Tabs (Tb T) H') : Rows T H1 H' D rs := by
  obtain ⟨h1, _, h3, ps, h4, h5⟩ := h
  exact ⟨h1.trans x, t, h3, ps, x _ _ h4 (fun _ z => by cases z), paired_imp (fun _ _ ⟨a, b⟩ => ⟨a, x _ _ b (fun _ z => by cases z)⟩) h5⟩
theorem Rows.nil {T D : Addr} {H1 H : Hp} (x : LamX.ExtN H1 H) (t : LamX.Tabs (Tb T) H) (nD : H D = none) : Rows T H1 (upd H D (.lst [])) D [] := by
  refine ⟨x.trans (same_extN (same_upd nD)), tabs_same t (same_upd nD), fun o e => ?_, [], upd_same, .nil⟩
  refine Classical.byContradiction fun hz => ?_
  have := x _ _ e (fun ps z => hz ⟨ps, z⟩)
  rw [nD] at this
  cases this
/-- one row more: the new list stands, it is put behind -/
theorem Rows.more {T D p : Addr} {H1 H : Hp} {rs : List (List V)} {r : List V} (h : Rows T H1 H D rs) (np : H p = none) (hl : rs.length < 1000) :
    ∃ acc, (upd H p (.lst r)) D = some (.lst acc) ∧ acc.length < sizeLine ∧ Rows T H1 (upd (upd H p (.lst r)) D (.lst (acc ++ [.ref p]))) D (rs ++ [r]) := by
  have s := same_upd np (o := .lst r)
  obtain ⟨h1, h2, h3, ps, h4, h5⟩ := h.ext (same_extN s) (tabs_same h.2.1 s)
  have npD : p ≠ D := fun z => by
    obtain ⟨_, _, _, ps', h4', _⟩ := h
    rw [z, h4'] at np
    cases np
  refine ⟨_, h4, ?_, fun b o e t => ?_, tabs_upd h2 (lst_not h4), h3, ps ++ [p], ?_, ?_⟩
  · rw [List.length_map, h5.length]
    exact Nat.lt_trans hl (by decide)
  · have nb : b ≠ D := fun z => by
      rw [z] at e
      obtain ⟨q, hq⟩ := h3 o e
      exact t q hq
    rw [upd_ne nb]
    exact h1 _ _ e t
  · rw [upd_same, List.map_append]
    rfl
  · refine PySem.Paired.snoc (paired_imp (fun q r ⟨a, b⟩ => ⟨a, by rw [upd_ne a]; exact b⟩) h5) ⟨npD, ?_⟩
    rw [upd_ne npD]
    exact upd_same
/-- the first row, within the display -/
theorem Rows.one {T D p : Addr} {H1 H : Hp} {r : List V} (x : LamX.ExtN H1 H) (t : LamX.Tabs (Tb T) H) (np : H p = none) (nD : (upd H p (.lst r)) D = none) : Rows T H1 (upd (upd H p (.lst r)) D (.lst [.ref p])) D [r] := by
  have s := same_upd np (o := .lst r)
  have npD : p ≠ D := fun z => by
    rw [z, upd_same] at nD
    cases nD
  have n1 : H D = none := s.free nD
  refine ⟨(x.trans (same_extN s)).trans (same_extN (same_upd nD)), tabs_same (tabs_same t s) (same_upd nD), ?_, [p], upd_same, .cons ⟨npD, ?_⟩ .nil⟩
  · intro o e
    refine Classical.byContradiction fun hz => ?_
    have := x _ _ e (fun ps z => hz ⟨ps, z⟩)
    rw [n1] at this
    cases this
  · rw [upd_ne npD]
    exact upd_same
end My

namespace My
open PySem PySem.Spec PyProof.Rows L2
/-! ### the state of a _law_right that draws things and asks -/
abbrev LEnv := List (Nat × Th)
/-- what the frame holds -/
abbrev lk (env : LEnv) : Nat → Th := fun i => (env.lookup i).getD .non
abbrev has (env : LEnv) (us : List Nat) : Bool := us.all fun i => (env.lookup i).isSome
theorem lk_mem {i : Nat} {d : Th} : ∀ {env : LEnv}, env.lookup i = some d → (i, d) ∈ env
  | [], h => by cases h
  | (j, e) :: r, h => by
    rw [List.lookup_cons] at h
    cases hb : i == j with
    | true =>
      rw [hb] at h
      cases h
      rw [eq_of_beq hb]
      exact List.mem_cons_self ..
    | false =>
      rw [hb] at h
      exact List.mem_cons_of_mem _ (lk_mem h)
structure Jx (K : PySem.W.Frag) (C a T : Addr) (n : Nat) (H0 : Hp) (env : LEnv) (σ : L2.St) (H : Hp) : Prop where
  n : σ.length = n
  s0 : σ[0]? = some (some (.ref a))
  ok : (∃ o, H a = some o) ∧ ∀ p ∈ env, ∃ v, σ[p.1]? = some (some v) ∧ Ta K C (hid a H) v p.2
  b : ButN a H0 H
  t : LamX.Tabs (Tb T) H
  sp : Spr H a
/-- env' is a part of env, without the slot i -/
inductive Sub (i : Nat) : LEnv → LEnv → Prop
  | nil {e : LEnv} : Sub i [] e
  | keep {p : Nat × Th} {e' e : LEnv} (h : Sub i e' e) (n : (p.1 == i) = false := by rfl) : Sub i (p :: e') (p :: e)
  | drop {p : Nat × Th} {e' e : LEnv} (h : Sub i e' e) : Sub i e' (p :: e)
theorem Sub.mem {i : Nat} {e' e : LEnv} (h : Sub i e' e) : ∀ p ∈ e', p ∈ e ∧ p.1 ≠ i := by
  induction h with
  | nil => exact fun p hp => nomatch hp
  | keep h n ih =>
    intro q hq
    rcases List.mem_cons.mp hq with rfl | hq
    · exact ⟨List.mem_cons_self .., fun z => by rw [z] at n; simp at n⟩
    · exact ⟨List.mem_cons_of_mem _ (ih q hq).1, (ih q hq).2⟩
  | drop h ih => exact fun q hq => ⟨List.mem_cons_of_mem _ (ih q hq).1, (ih q hq).2⟩
section
variable {K : PySem.W.Frag} {C a T : Addr} {n : Nat} {H0 : Hp} {env env' : LEnv} {σ : L2.St} {H H' : Hp}
theorem Jx.same (h : Jx K C a T n H0 env σ H) (s : Same H H') : Jx K C a T n H0 env σ H' :=
  ⟨h.n, h.s0, ⟨h.ok.1.elim fun o e => ⟨o, s _ _ e⟩, fun p hp => (h.ok.2 p hp).elim fun v ⟨e, t⟩ => ⟨v, e, t.sm (same_hid s)⟩⟩, h.b.trans (Same.but s).n, tabs_same h.t s, h.sp.same s⟩
theorem Jx.lok {us : List Nat} (h : Jx K C a T n H0 env σ H) (hu : has env us = true) : Lok K C a us (lk env) σ H := by
  refine ⟨h.sp, fun i hi => ?_⟩
  have := List.all_eq_true.mp hu i hi
  obtain ⟨d, hd⟩ := Option.isSome_iff_exists.mp this
  obtain ⟨v, e, t⟩ := h.ok.2 (i, d) (lk_mem hd)
  refine ⟨v, e, ?_⟩
  show Ta K C (hid a H) v ((env.lookup i).getD .non)
  rw [hd]
  exact t
theorem Jx.ext (h : Jx K C a T n H0 env σ H) (s : LamX.ExtN H H') (t : LamX.Tabs (Tb T) H') : Jx K C a T n H0 env σ H' := by
  obtain ⟨x, y, z, e⟩ := h.sp
  have ea := s _ _ e (fun _ w => by cases w)
  refine ⟨h.n, h.s0, ⟨⟨_, ea⟩, fun p hp => ?_⟩, h.b.trans (extN_but s), t, ⟨x, y, z, ea⟩⟩
  obtain ⟨v, e1, t1⟩ := h.ok.2 p hp
  refine ⟨v, e1, t1.to fun b o eb tb => ?_⟩
  have nb : b ≠ a := fun w => by
    rw [w] at eb
    unfold hid at eb
    rw [if_pos rfl] at eb
    cases eb
  rw [hid_at nb] at eb ⊢
  exact s _ _ eb tb
theorem Jx.but (h : Jx K C a T n H0 env σ H) (s : But a H H') (sp : Spr H' a) : Jx K C a T n H0 env σ H' := by
  obtain ⟨x, y, z, e⟩ := id sp
  refine ⟨h.n, h.s0, ⟨⟨_, e⟩, fun p hp => ?_⟩, h.b.trans s.n, tabs_spr h.t s h.sp, sp⟩
  obtain ⟨v, e1, t1⟩ := h.ok.2 p hp
  exact ⟨v, e1, t1.sm (but_hid s)⟩
theorem Jx.setV (h : Jx K C a T n H0 env σ H) {i : Nat} {v : V} (hi : 0 < i) (sub : Sub i env' env) : Jx K C a T n H0 env' (σ.set i (some v)) H := by
  refine ⟨by rw [List.length_set]; exact h.n, ?_, ⟨h.ok.1, fun p hp => ?_⟩, h.b, h.t, h.sp⟩
  · rw [List.getElem?_set_ne (by omega)]
    exact h.s0
  · obtain ⟨m, ne⟩ := sub.mem p hp
    obtain ⟨u, e, t⟩ := h.ok.2 p m
    exact ⟨u, by rw [List.getElem?_set_ne (fun z => ne z.symm)]; exact e, t⟩
theorem Jx.set (h : Jx K C a T n H0 env σ H) {i : Nat} {v : V} {d : Th} (t : Ta K C (hid a H) v d) (hi : 0 < i ∧ i < n) (sub : Sub i env' env) : Jx K C a T n H0 ((i, d) :: env') (σ.set i (some v)) H := by
  have j := h.setV (v := v) hi.1 sub
  refine ⟨j.n, j.s0, ⟨j.ok.1, fun p hp => ?_⟩, j.b, j.t, j.sp⟩
  rcases List.mem_cons.mp hp with rfl | hp
  · exact ⟨v, List.getElem?_set_self (by rw [h.n]; exact hi.2), t⟩
  · exact j.ok.2 p hp
theorem Jx.less (h : Jx K C a T n H0 env σ H) (m : ∀ p ∈ env', p ∈ env) : Jx K C a T n H0 env' σ H := ⟨h.n, h.s0, ⟨h.ok.1, fun p hp => h.ok.2 p (m p hp)⟩, h.b, h.t, h.sp⟩
theorem Jx.got (h : Jx K C a T n H0 env σ H) {i : Nat} {d : Th} (m : (i, d) ∈ env) : ∃ v, σ[i]? = some (some v) ∧ Ta K C H v d := by
  obtain ⟨v, e, t⟩ := h.ok.2 _ m
  exact ⟨v, e, t.sm (hid_same a H)⟩
variable {D : Ends} {us : List Nat} {ok : (Nat → Th) → Prop} {g : Gf}
theorem st_lit {i : Nat} {d : Th} (h : Jx K C a T n H0 env σ H) (hu : has env us = true) (ho : ok (lk env)) (hd : g (lk env) = d) (hi : 0 < i ∧ i < n) (sub : Sub i env' env) (k : ∀ σ' H', Jx K C a T n H0 ((i, d) :: env') σ' H' → D.nx σ' H') : tAsg (tLit K C a us ok g) (gName i) D σ H :=
  ⟨lk env, ho, h.lok hu, fun v H' s t => k _ _ ((h.same s).set (by rw [← hd]; exact t) hi sub)⟩
theorem st_two {i j : Nat} {d1 d2 : Th} {env1 env2 : LEnv} (h : Jx K C a T n H0 env σ H) (hu : has env us = true) (ho : ok (lk env)) (hd : g (lk env) = .tup [d1, d2]) (hi : 0 < i ∧ i < n) (hj : 0 < j ∧ j < n) (s1 : Sub i env1 env) (s2 : Sub j env2 ((i, d1) :: env1)) (k : ∀ σ' H', Jx K C a T n H0 ((j, d2) :: env2) σ' H' → D.nx σ' H') :
    tAsg (tLit K C a us ok g) (gTup K 2 (gCons (gName i) (gCons (gName j) gNil))) D σ H := by
  refine ⟨lk env, ho, h.lok hu, fun v H' s t => ?_⟩
  rw [hd] at t
  clear hd
  have h' := h.same s
  obtain ⟨p, vs, rfl, hp, hd⟩ := t.tup_inv
  obtain ⟨x, y, a1, a2, rfl, e, hx, hy⟩ := hd.two (by rw [hd.len]; rfl)
  cases e
  exact ⟨p, _, rfl, same_sqt (hid_same a H') hp, rfl, x, [y], rfl, y, [], rfl, rfl, k _ _ ((h'.set hx hi s1).set hy hj s2)⟩
theorem st_par {i j : Nat} {gs : (Nat → Th) → List Th} {d1 d2 : Th} {env1 env2 : LEnv} (h : Jx K C a T n H0 env σ H) (hu : has env us = true) (ho : ok (lk env)) (hd : gs (lk env) = [d1, d2]) (hi : 0 < i ∧ i < n) (hj : 0 < j ∧ j < n) (s1 : Sub i env1 env) (s2 : Sub j env2 ((i, d1) :: env1)) (k : ∀ σ' H', Jx K C a T n H0 ((j, d2) :: env2) σ' H' → D.nx σ' H') :
    tPar i j (tLits K C a us ok gs) D σ H := by
  refine ⟨lk env, ho, h.lok hu, fun vs H' s t => ?_⟩
  rw [hd] at t
  have h' := h.same s
  obtain ⟨x, y, a1, a2, rfl, e, hx, hy⟩ := t.two (by rw [t.len]; rfl)
  cases e
  exact ⟨x, y, rfl, k _ _ ((h'.set hx hi s1).set hy hj s2)⟩
theorem st_pair {i j : Nat} {ds : List Th} {R : Th → Th → Prop} {E : XK} {env1 : LEnv} (h : Jx K C a T n H0 env σ H) (hu : has env us = true) (ho : ok (lk env)) (hg : g (lk env) = .lst ds) (hR : ∀ t ∈ ds, ∃ x y, t = .tup [x, y] ∧ R x y) (hne : ds ≠ []) (hlen : ds.length < 1000) (hi : 0 < i ∧ i < n) (hj : 0 < j ∧ j < n) (s1 : Sub i env1 env) (nij : i ≠ j) (s2 : Sub j env' env1)
    (k : ∀ x y σ' H', R x y → Jx K C a T n H0 ((j, y) :: (i, x) :: env') σ' H' → D.nx σ' H') :
    tAsg (tCall (spSome K) [] E (tCons (tVar 0) (tCons (tLit K C a us ok g) tNil))) (gTup K 2 (gCons (gName i) (gCons (gName j) gNil))) D σ H := by
  refine ⟨_, h.s0, lk env, ho, h.lok hu, fun v H' s t => ?_⟩
  rw [hg] at t
  have h' := h.same s
  obtain ⟨l, vs, rfl, hl, hd⟩ := t.lst_inv
  have nl : l ≠ a := fun z => by
    rw [z] at hl
    unfold hid at hl
    rw [if_pos rfl] at hl
    cases hl
  refine ⟨a, l, vs, rfl, h'.sp, .inl (SqL.of (hid_same a H' _ _ hl)), nl, fun e => hne ?_, by rw [hd.len]; exact hlen, fun u H2 hu s2' b2 => ?_⟩
  · rw [e] at hd
    cases hd
    rfl
  · obtain ⟨tt, htt, ht⟩ := hd.mem hu
    obtain ⟨x, y, rfl, r⟩ := hR tt htt
    have h2 := h'.but b2 s2'
    obtain ⟨p, ws, rfl, hp, hw⟩ := (ht.sm (but_hid b2)).tup_inv
    obtain ⟨vx, vy, a1, a2, rfl, e, hx, hy⟩ := hw.two (by rw [hw.len]; rfl)
    cases e
    exact ⟨p, _, rfl, same_sqt (hid_same a H2) hp, rfl, vx, [vy], rfl, vy, [], rfl, rfl, k x y _ _ r ((h2.set hx hi s1).set hy hj (.keep s2 (by show (i == j) = false; exact beq_eq_false_iff_ne.mpr nij)))⟩
theorem st_some {i : Nat} {ds : List Th} {E : XK} (h : Jx K C a T n H0 env σ H) (hu : has env us = true) (ho : ok (lk env)) (hg : g (lk env) = .lst ds) (hne : ds ≠ []) (hlen : ds.length < 1000) (hi : 0 < i ∧ i < n) (s1 : Sub i env' env)
    (k : ∀ d σ' H', d ∈ ds → Jx K C a T n H0 ((i, d) :: env') σ' H' → D.nx σ' H') :
    tAsg (tCall (spSome K) [] E (tCons (tVar 0) (tCons (tLit K C a us ok g) tNil))) (gName i) D σ H := by
  refine ⟨_, h.s0, lk env, ho, h.lok hu, fun v H' s t => ?_⟩
  rw [hg] at t
  have h' := h.same s
  obtain ⟨l, vs, rfl, hl, hd⟩ := t.lst_inv
  have nl : l ≠ a := fun z => by
    rw [z] at hl
    unfold hid at hl
    rw [if_pos rfl] at hl
    cases hl
  refine ⟨a, l, vs, rfl, h'.sp, .inl (SqL.of (hid_same a H' _ _ hl)), nl, fun e => hne ?_, by rw [hd.len]; exact hlen, fun u H2 hu s2' b2 => ?_⟩
  · rw [e] at hd
    cases hd
    rfl
  · obtain ⟨tt, htt, ht⟩ := hd.mem hu
    exact k tt _ _ htt ((h'.but b2 s2').set (ht.sm (but_hid b2)) hi s1)
/-- .. and the list that is asked into -/
structure J2 (K : PySem.W.Frag) (C a T : Addr) (n i : Nat) (H0 H1 : Hp) (env : LEnv) (L : Addr) (rs : List (List V)) (σ : L2.St) (H : Hp) : Prop where
  j1 : Jx K C a T n H0 env σ H1
  r : Rows T H1 H L rs
  d : σ[i]? = some (some (.ref L))
variable {cs : List (Addr × Str × Str)} {t : XK → TE} {CE : Addr} {nm fd : Str} {v : V}
theorem J2.j {i : Nat} {L : Addr} {H1 : Hp} {rs : List (List V)} (h : J2 K C a T n i H0 H1 env L rs σ H) : Jx K C a T n H0 env σ H := h.j1.ext h.r.1 h.r.2.1
theorem J2.ne {i : Nat} {L : Addr} {H1 : Hp} {rs : List (List V)} (h : J2 K C a T n i H0 H1 env L rs σ H) (sp : Spr H1 a) : L ≠ a := fun z => by
  obtain ⟨x, y, w, e⟩ := sp
  obtain ⟨q, hq⟩ := h.r.2.2.1 _ (by rw [z]; exact e)
  cases hq
theorem st_first {i : Nat} (h : Jx K C a T n H0 env σ H) (hi : 0 < i ∧ i < n) (sub : Sub i env' env) (mem : (CE, nm, fd) ∈ cs)
    (call : ∀ H2 (E : XK) (Q : VK), LamX.ExtN H H2 → Jx K C a T n H0 env σ H2 → (∀ dd H3, Same H2 H3 → H3 dd = some (.xd [(fd, v)]) → E (.ref CE) (some dd) H3) → t E σ H2 Q)
    (k : ∀ L σ' H', J2 K C a T n i H0 H env' L [[.str nm, v, .bl true]] σ' H' → D.nx σ' H') : tAsg (tLst (tCons (LamX.tLam (Tb T) (CO.TCame K cs) t) tNil)) (gName i) D σ H := by
  refine ⟨h.t, fun H2 x t2 => ?_⟩
  have h2 := h.ext x t2
  refine call H2 _ _ x h2 fun dd H3 s3 hv => ⟨CE, nm, fd, v, dd, mem, rfl, rfl, hv, fun p np => ⟨by show 1 ≤ sizeLine; decide, fun L nL => ?_⟩⟩
  have t3 := tabs_same t2 s3
  have h3 := h2.same s3
  refine k L _ _ ⟨h.setV hi.1 sub, Rows.one (x.trans (same_extN s3)) t3 np nL, List.getElem?_set_self (by rw [h.n]; exact hi.2)⟩
theorem st_more {i : Nat} {L : Addr} {H1 : Hp} {rs : List (List V)} (h : J2 K C a T n i H0 H1 env L rs σ H) (hl : rs.length < 1000) (mem : (CE, nm, fd) ∈ cs)
    (call : ∀ H2 (E : XK) (Q : VK), LamX.ExtN H H2 → Jx K C a T n H0 env σ H2 → (∀ dd H3, Same H2 H3 → H3 dd = some (.xd [(fd, v)]) → E (.ref CE) (some dd) H3) → t E σ H2 Q)
    (k : ∀ H', J2 K C a T n i H0 H1 env L (rs ++ [[.str nm, v, .bl true]]) σ H' → D.nx σ H') : tDrop (tBM K "list" rAppend (tVar i) (tCons (LamX.tLam (Tb T) (CO.TCame K cs) t) tNil)) D σ H := by
  obtain ⟨ps, hL, _⟩ := h.r.2.2.2
  refine ⟨_, h.d, .inl ⟨rfl, _, SqL.of hL⟩, h.j.t, fun H2 x t2 => ?_⟩
  refine call H2 _ _ x (h.j.ext x t2) fun dd H3 s3 hv => ⟨CE, nm, fd, v, dd, mem, rfl, rfl, hv, fun p np => ?_⟩
  obtain ⟨acc, a1, a2, a3⟩ := (h.r.ext (x.trans (same_extN s3)) (tabs_same t2 s3)).more (r := [.str nm, v, .bl true]) np hl
  exact ⟨L, acc, _, rfl, rfl, a1, a2, k _ ⟨h.j1, a3, h.d⟩⟩
/-- what is given, not raised -/
theorem st_moreG {i : Nat} {L : Addr} {H1 : Hp} {rs : List (List V)} (h : J2 K C a T n i H0 H1 env L rs σ H) (hl : rs.length < 1000)
    (call : ∀ H2 (E : XK) (Q : VK), LamX.ExtN H H2 → Jx K C a T n H0 env σ H2 → (∀ H3, Same H2 H3 → Q v H3) → t E σ H2 Q)
    (k : ∀ H', J2 K C a T n i H0 H1 env L (rs ++ [[.str "given", v]]) σ H' → D.nx σ H') : tDrop (tBM K "list" rAppend (tVar i) (tCons (LamX.tLam (Tb T) (CO.TCame K cs) t) tNil)) D σ H := by
  obtain ⟨ps, hL, _⟩ := h.r.2.2.2
  refine ⟨_, h.d, .inl ⟨rfl, _, SqL.of hL⟩, h.j.t, fun H2 x t2 => ?_⟩
  refine call H2 _ _ x (h.j.ext x t2) fun H3 s3 p np => ?_
  obtain ⟨acc, a1, a2, a3⟩ := (h.r.ext (x.trans (same_extN s3)) (tabs_same t2 s3)).more (r := [.str "given", v]) np hl
  exact ⟨L, acc, _, rfl, rfl, a1, a2, k _ ⟨h.j1, a3, h.d⟩⟩
theorem st_litR {i j : Nat} {L : Addr} {H1 : Hp} {rs : List (List V)} {d : Th} (h : J2 K C a T n i H0 H1 env L rs σ H) (hu : has env us = true) (ho : ok (lk env)) (hd : g (lk env) = d) (hi : 0 < j ∧ j < n) (nij : i ≠ j) (sub : Sub j env' env)
    (k : ∀ σ' H', Jx K C a T n H0 ((j, d) :: env') σ' H' → Rows T H1 H' L rs → σ'[i]? = some (some (.ref L)) → D.nx σ' H') : tAsg (tLit K C a us ok g) (gName j) D σ H :=
  ⟨lk env, ho, h.j.lok hu, fun v H' s t => k _ _ ((h.j.same s).set (by rw [← hd]; exact t) hi sub) (h.r.ext (same_extN s) (tabs_same h.j.t s)) (by rw [List.getElem?_set_ne (fun z => nij z.symm)]; exact h.d)⟩
end
/-! ### the rows as data -/
mutual
def thD : Th → PyData
  | .non => .none
  | .bl b => .bool b
  | .int i => .int i
  | .str s => .str s
  | .lst xs => .list (thDs xs)
  | .tup xs => .tuple (thDs xs)
  | .dic => .none
  | .lad .. => .none
def thDs : List Th → List PyData
  | [] => []
  | x :: r => thD x :: thDs r
end
mutual
def Th.dat : Th → Bool
  | .lst xs => Th.dats xs
  | .tup xs => Th.dats xs
  | .dic => false
  | .lad .. => false
  | _ => true
def Th.dats : List Th → Bool
  | [] => true
  | x :: r => x.dat && Th.dats r
end
mutual
theorem ta_dp {K : PySem.W.Frag} {C : Addr} {H : Hp} : ∀ (t : Th) (v : V), t.dat = true → Ta K C H v t → Dp K H v (thD t)
  | .non, _, _, h => by
    cases h
    rw [thD]
    exact .non
  | .bl _, _, _, h => by
    cases h
    rw [thD]
    exact .bl _
  | .int _, _, _, h => by
    cases h
    rw [thD]
    exact .int _
  | .str _, _, _, h => by
    cases h
    rw [thD]
    exact .str _
  | .lst ds, _, e, h => by
    rw [Th.dat] at e
    rw [thD]
    cases h with
    | lst h t => exact .lst (SqL.of h) (tas_dp ds _ e t)
  | .tup ds, _, e, h => by
    rw [Th.dat] at e
    rw [thD]
    cases h with
    | tup h t => exact .tup h (tas_dp ds _ e t)
  | .dic, _, e, h => by
    rw [Th.dat] at e
    cases e
  | .lad .., _, e, h => by
    rw [Th.dat] at e
    cases e
theorem tas_dp {K : PySem.W.Frag} {C : Addr} {H : Hp} : ∀ (ts : List Th) (vs : List V), Th.dats ts = true → TaAll K C H vs ts → DpAll K H vs (thDs ts)
  | [], _, _, h => by
    cases h
    rw [thDs]
    exact .nil
  | t :: ts, _, e, h => by
    rw [Th.dats, Bool.and_eq_true] at e
    rw [thDs]
    cases h with
    | cons h1 h2 => exact .cons (ta_dp t _ e.1 h1) (tas_dp ts _ e.2 h2)
end
/-- the rows, each of such things, are such a thing -/
theorem rows_ta {K : PySem.W.Frag} {C T L : Addr} {H1 H : Hp} {rs : List (List V)} (h : Rows T H1 H L rs) {ts : List (List Th)} (e : PySem.Paired (fun r t => TaAll K C H r t) rs ts) : Ta K C H (.ref L) (.lst (ts.map Th.lst)) := by
  obtain ⟨_, _, _, ps, h4, h5⟩ := h
  refine .lst h4 ?_
  clear h4
  induction h5 generalizing ts with
  | nil => cases e; exact .nil
  | cons a r ih =>
    cases e with
    | cons e1 e2 => exact .cons (.lst a.2 e1) (ih e2)
end My

namespace My
open PySem PySem.Spec PyProof.Rows L2
/-! ### repr of things of any kind, also {} and own ladders -/
/-- a ladder's own text -/
abbrev LadW := List (Str × Int) → Nat → Str → Str
mutual
def thX (W : LadW) : Th → Str
  | .non => "None"
  | .bl b => if b then "True" else "False"
  | .int i => Str.ofString (toString i)
  | .str s => reprText s
  | .lst xs => listText (thXs W xs)
  | .tup xs => tupleText (thXs W xs)
  | .dic => dictText []
  | .lad us d s _ _ => W us d s
def thXs (W : LadW) : List Th → List Str
  | [] => []
  | x :: r => thX W x :: thXs W r
end
mutual
def Th.ht : Th → Nat
  | .lst xs => Th.hts xs + 1
  | .tup xs => Th.hts xs + 1
  | _ => 0
def Th.hts : List Th → Nat
  | [] => 0
  | x :: r => max x.ht (Th.hts r)
end
mutual
def Th.shw : Th → Bool
  | .int i => decide (i.natAbs.log2 < 1920)
  | .lst xs => Th.shws xs
  | .tup xs => Th.shws xs
  | _ => true
def Th.shws : List Th → Bool
  | [] => true
  | x :: r => x.shw && Th.shws r
end
theorem thXs_len (W : LadW) : ∀ ts : List Th, (thXs W ts).length = ts.length
  | [] => by rw [thXs]; rfl
  | x :: r => by rw [thXs, List.length_cons, List.length_cons, thXs_len W r]
theorem thXs_at (W : LadW) : ∀ {ts : List Th} {i : Nat} {t : Th}, ts[i]? = some t → (thXs W ts)[i]? = some (thX W t)
  | [], i, t, e => by simp at e
  | x :: r, 0, t, e => by
    simp at e
    subst e
    rw [thXs]
    rfl
  | x :: r, i + 1, t, e => by
    rw [thXs]
    simpa using thXs_at W (ts := r) (i := i) (by simpa using e)
theorem hts_mem : ∀ {ts : List Th} {t : Th}, t ∈ ts → t.ht ≤ Th.hts ts
  | x :: r, t, h => by
    rw [Th.hts]
    rcases List.mem_cons.mp h with rfl | h
    · exact Nat.le_max_left _ _
    · exact Nat.le_trans (hts_mem h) (Nat.le_max_right _ _)
theorem shws_mem : ∀ {ts : List Th} {t : Th}, Th.shws ts = true → t ∈ ts → t.shw = true
  | x :: r, t, e, h => by
    rw [Th.shws, Bool.and_eq_true] at e
    rcases List.mem_cons.mp h with rfl | h
    · exact e.1
    · exact shws_mem e.2 h
section
variable {X : Cx} {C : Addr} {pins : List (Addr × Obj)} {σ : L2.St} {H : Hp} {s : Shared}
/-! ### one value tells one thing (its height, at least) -/
theorem seq_lt (I : Inv X pins σ H s) {a : Addr} {xs ys : List V} (h : H a = some (.lst xs)) (h' : SqT X.K H a ys) : False := by
  obtain ⟨_, _, ⟨o, n, e, c, _, _⟩, _⟩ := I.list (SqL.of h)
  obtain ⟨_, _, ⟨o', e', c', _⟩, _⟩ := I.tuple h'
  rw [e] at e'
  cases e'
  rw [c] at c'
  exact absurd (Value.type.inj c') (by decide)
theorem dic_tup (I : Inv X pins σ H s) {a : Addr} {ys : List V} (h : H a = some (.dK [])) (h' : SqT X.K H a ys) : False := by
  obtain ⟨_, _, vs, _, o, es, ep, eo, exd, _⟩ := dk_of I.hok h
  obtain ⟨_, _, ⟨o', e', c', _⟩, _⟩ := I.tuple h'
  rw [eo] at e'
  cases e'
  rw [exd.1] at c'
  exact absurd (Value.type.inj c') (by decide)
theorem ins_tup (I : Inv X pins σ H s) {a dx : Addr} {fs : List (Str × V)} {ys : List V} (h : H a = some (.ins C dx fs)) (h' : SqT X.K H a ys) : False := by
  obtain ⟨mA, O, _⟩ := ins_get I.hok h
  obtain ⟨_, _, ⟨o', e', c', _⟩, _⟩ := I.tuple h'
  have eo := O.obj
  rw [eo] at e'
  cases e'
  cases c'
mutual
theorem ta_ht (I : Inv X pins σ H s) : ∀ (t : Th) (v : V) (t' : Th), Ta X.K C H v t → Ta X.K C H v t' → t.ht = t'.ht
  | .lst ds, _, t', h, h' => by
    cases h with
    | lst e r =>
      cases h' with
      | lst e' r' =>
        rw [e] at e'
        cases e'
        rw [Th.ht, Th.ht, tas_ht I ds _ _ r r']
      | tup e' r' => exact (seq_lt I e e').elim
      | dic e' =>
        rw [e] at e'
        cases e'
      | lad e' g =>
        obtain ⟨_, _, _, _, _, e', _⟩ := e'
        rw [e] at e'
        cases e'
  | .tup ds, _, t', h, h' => by
    cases h with
    | tup e r =>
      cases h' with
      | tup e' r' =>
        have q := I.tuple_inj e e'
        subst q
        rw [Th.ht, Th.ht, tas_ht I ds _ _ r r']
      | lst e' r' => exact (seq_lt I e' e).elim
      | dic e' => exact (dic_tup I e' e).elim
      | lad e' g =>
        obtain ⟨_, _, _, _, _, e', _⟩ := e'
        exact (ins_tup I e' e).elim
  | .non, _, t', h, h' => by
    cases h
    cases h'
    rfl
  | .bl _, _, t', h, h' => by
    cases h
    cases h'
    rfl
  | .int _, _, t', h, h' => by
    cases h
    cases h'
    rfl
  | .str _, _, t', h, h' => by
    cases h
    cases h'
    rfl
  | .dic, _, t', h, h' => by
    cases h with
    | dic e =>
      cases h' with
      | dic e' => rfl
      | lst e' r' =>
        rw [e] at e'
        cases e'
      | tup e' r' => exact (dic_tup I e e').elim
      | lad e' g =>
        obtain ⟨_, _, _, _, _, e', _⟩ := e'
        rw [e] at e'
        cases e'
  | .lad .., _, t', h, h' => by
    cases h with
    | lad e g =>
      obtain ⟨_, _, _, _, _, e, _⟩ := e
      cases h' with
      | dic e' =>
        rw [e] at e'
        cases e'
      | lst e' r' =>
        rw [e] at e'
        cases e'
      | tup e' r' => exact (ins_tup I e e').elim
      | lad e' g => rfl
theorem tas_ht (I : Inv X pins σ H s) : ∀ (ts : List Th) (vs : List V) (ts' : List Th), TaAll X.K C H vs ts → TaAll X.K C H vs ts' → Th.hts ts = Th.hts ts'
  | [], _, _, h, h' => by
    cases h
    cases h'
    rfl
  | t :: ts, _, _, h, h' => by
    cases h with
    | cons a r =>
      cases h' with
      | cons a' r' => rw [Th.hts, Th.hts, ta_ht I t _ _ a a', tas_ht I ts _ _ r r']
end
/-- what is under way is none of those whose height is at most n -/
def Clr (K : PySem.W.Frag) (C : Addr) (H : Hp) (g : List Code) (n : Nat) : Prop := ∀ (b : Addr) (t : Th), Ta K C H (.ref b) t → t.ht ≤ n → Clear g b
theorem Clr.cons (I : Inv X pins σ H s) {g : List Code} {n : Nat} {a : Addr} {t : Th} (ta : Ta X.K C H (.ref a) t) (hn : t.ht ≤ n) {id : String} {rest : List Value} {kw : List (Str × Value)} {m : Nat} (hm : t.ht = m + 1)
    (h : Clr X.K C H g n) : Clr X.K C H (.builtin id ⟨.ref a :: rest, kw⟩ :: g) m := fun b t' tb hb => (h b t' tb (by omega)).cons fun e => by
  subst e
  have := ta_ht I t _ _ ta tb
  omega
/-- repr of such a value, within what is under way -/
def RepT (X : Cx) (C : Addr) (W : LadW) (k : Nat) (H : Hp) (t : Th) : Prop :=
  ∀ (v : V) (u : Value), Ta X.K C H v t → RelV v u → ∀ (n : Nat) (pins : List (Addr × Obj)) (σ : L2.St) (A : Around) (g : List Code) (base : Nat) (s : Shared) (Q : Str → Shared → Prop) (E : Value → Shared → Prop),
    t.ht ≤ n → base + (thX W t).length ≤ sizeLine → A.guards = some g → Clr X.K C H g n → Room (k + n + 1) A → A.frames = some X.stack → Inv X pins σ H s → (∀ s', Inv X pins σ H s' → Q (thX W t) s') → wpAny (model X.prog X.w) A (pyReprUnder base u) Q E s
theorem rep_is {W : LadW} {k : Nat} {t : Th} (h : ∀ v u, Ta X.K C H v t → RelV v u → (thX W t).length ≤ sizeLine → ReprIs X.prog X.w u (thX W t)) : RepT X C W k H t :=
  fun v u ta r n pins σ A g base s Q E hn hz hg hc hr hf I q => h v u ta r (by omega) base hz A E s Q fun tk => q _ (I.tok tk)
/-- what the class's __repr__ promises -/
def spLRepr (K : PySem.W.Frag) (C : Addr) (W : LadW) : Sp := fun vs H Q _ => ∃ (a : Addr) (us : List (Str × Int)) (d : Nat) (s : Str) (c : Bool) (l : Int), vs = [.ref a] ∧ LadAt K C H a us d s c l ∧ Good us d s l ∧ Q (.str (W us d s)) H
structure RepL (X : Cx) (C : Addr) (W : LadW) (k : Nat) where
  f : Addr
  find : PySem.W.findIn X.K (.ref C) "__repr__" = some (some (.ref f))
  isf : PySem.W.isFn X.K (.ref f) = true
  fn : FnR X.prog X.w X.K X.mg X.base CX0 k f (spLRepr X.K C W)
end
theorem under_room {k : Nat} {A : Around} {c : Code} (r : Room (k + 1) A) (hh : (A.under c).handled = A.handled) (hd : (A.under c).depth ≤ A.depth + 1) (hu : (A.under c).units = A.units + 1) : Room k (A.under c) :=
  ⟨hh.trans r.hd, by have := r.dp; omega, by have := r.un; omega⟩
theorem loop_depth {A : Around} {args : Args} : (A.under (.builtin "list.__repr__.loop" args)).depth ≤ A.depth + 1 := by
  first
    | exact Nat.le_refl _
    | exact Nat.le_succ _
    | simp [Around.under, Code.weight, Code.isCreation, Code.isGuard, Code.isCaller, Code.frames, Code.isFrame, guardIds]
theorem loop_frames {A : Around} {args : Args} : (A.under (.builtin "list.__repr__.loop" args)).frames = A.frames := by
  first | rfl | simp [Around.under, Code.envs, Code.isFrame, pushEnvs]
theorem tup_depth {A : Around} {args : Args} : (A.under (.builtin "tuple.__repr__.under" args)).depth ≤ A.depth + 1 := by
  first
    | exact Nat.le_refl _
    | exact Nat.le_succ _
    | simp [Around.under, Code.weight, Code.isCreation, Code.isGuard, Code.isCaller, Code.frames, Code.isFrame, guardIds]
theorem tup_frames {A : Around} {args : Args} : (A.under (.builtin "tuple.__repr__.under" args)).frames = A.frames := by
  first | rfl | simp [Around.under, Code.envs, Code.isFrame, pushEnvs]
theorem tup0_depth {A : Around} {args : Args} : (A.under (.builtin "tuple.__repr__" args)).depth ≤ A.depth + 1 := by
  first
    | exact Nat.le_refl _
    | exact Nat.le_succ _
    | simp [Around.under, Code.weight, Code.isCreation, Code.isGuard, Code.isCaller, Code.frames, Code.isFrame, guardIds]
theorem tup0_frames {A : Around} {args : Args} : (A.under (.builtin "tuple.__repr__" args)).frames = A.frames := by
  first | rfl | simp [Around.under, Code.envs, Code.isFrame, pushEnvs]
theorem bound_by {M : Model} {A : Around} {E : Value → Shared → Prop} {s : Shared} {K : PySem.W.Frag} {x C f : Addr} {ox : Obj} {od : Option Obj} {name : Str} {last : Value → List Value → Sem Value} {Q : Option Value → Shared → Prop}
    (X : K.In s.heap) (I : PySem.W.InstAt s.heap x ox C od) (hs : PySem.W.findIn K (.ref C) name = some (some (.ref f))) (hf : PySem.W.isFn K (.ref f) = true)
    (h : wpAny M A (last (.ref f) [.ref x]) (fun v => Q (some v)) E s) : wpAny M A (callSpecialIfBoundBy? last (.ref x) name) Q E s := by
  simp only [callSpecialIfBoundBy?, bindSpecialIfBound?]
  refine wpAny_holding (wpAny_bind (wpAny_bind (wpAny_bind (I.type.here ((PySem.W.looks_findIn X hs).here ?_)))))
  refine wpAny_bind (wpAny_askSetting (wpAny_ite ?_))
  have fin : wpAny M A (last (.ref f) [.ref x] >>= fun v => pure (some v)) Q E s := wpAny_bind (wpAny_mono h (fun v s' h' => wpAny_pure h') fun _ _ h' => h')
  split
  · exact wpAny_bind ((PySem.W.bind_fn X _ (beq_iff_eq.mp hf)).here (wpAny_pure (by exact fin)))
  · exact wpAny_tryCatch (wpAny_bind ((PySem.W.bind_fn X _ (beq_iff_eq.mp hf)).here (wpAny_pure (by exact fin))))
section
variable {X : Cx} {C : Addr} {H : Hp} {W : LadW} {k : Nat}
theorem rep_non : RepT X C W k H .non := rep_is fun v u ta r hz => by
  cases ta
  cases r
  rw [thX]
  exact ReprIs.none
theorem rep_bl {b : Bool} : RepT X C W k H (.bl b) := rep_is fun v u ta r hz => by
  cases ta
  cases r
  rw [thX]
  exact ReprIs.bool b
theorem rep_int {i : Int} (h : i.natAbs.log2 < 1920) : RepT X C W k H (.int i) := rep_is fun v u ta r hz => by
  cases ta
  obtain ⟨t, rfl⟩ := r
  rw [thX]
  exact ReprIs.int t h
theorem rep_str {x : Str} : RepT X C W k H (.str x) := rep_is fun v u ta r hz => by
  cases ta
  obtain ⟨t, rfl⟩ := r
  rw [thX] at hz ⊢
  exact ReprIs.str x t hz
theorem rep_dic : RepT X C W k H .dic := fun v u ta r n pins σ A g base s Q E hn hz hg hc hr hf I q => by
  cases ta with
  | dic e =>
    rename_i a
    cases r
    obtain ⟨z, hsys, vs, rel, o, es, ep, eo, exd, hd, _, hp, _⟩ := dk_of I.hok e
    have e0 : es.toList = [] := by
      cases rel
      generalize es.toList = L at hp
      cases hp
      rfl
    rw [thX] at hz q
    refine ReprK.dict (as := []) (d := 0) (h₀ := s.heap) (ps := []) eo exd.1 hd hsys (fun h => nomatch h) (by rw [e0]; exact .nil) base hz A g E s Q hg (fun b hb => ?_) (by have := hr.un; omega) (fun _ _ e => e) fun h' tk hk => q _ (I.kept hk)
    have hb : b = a := by simpa using hb
    rw [hb]
    exact hc a .dic (.dic e) (Nat.zero_le _)
theorem rep_lad {us : List (Str × Int)} {d : Nat} {x : Str} {c : Bool} {l : Int} (L : RepL X C W k) : RepT X C W k H (.lad us d x c l) := fun v u ta r n pins σ A g base s Q E hn hz hg hc hr hf I q => by
  cases ta with
  | lad h gd =>
    rename_i a
    cases r
    rw [thX] at hz q
    have h0 := h
    obtain ⟨dx, _, _, _, _, e, _⟩ := h0
    obtain ⟨mA, O, _⟩ := ins_get I.hok e
    obtain ⟨od, J, _⟩ := O.look
    have XI := I.kIn
    refine wpAny_pyReprUnder_ref (by omega) ?_
    unfold pyReprObjUnder pyReprObjBy
    refine wpAny_bind (wpAny_cRoomFor hr.units0 ?_)
    refine wpAny_bind (wpAny_bind (J.type.here ((PySem.W.looks_findIn XI L.find).here ?_)))
    show wpAny _ _ (if (some (Value.ref L.f)).isNone = true then _ else _) _ _ _
    rw [if_neg (by simp)]
    have main : wpAny (model X.prog X.w) A (call (.ref L.f) [.ref a]) (fun v s' => ∃ t, v = .str (W us d x) t ∧ Inv X pins σ H s') E s := by
      have e0 := I.env0
      have e1 : Env0 X.prog X.w X.K X.mg X.base A X.stack s H := ⟨hf, e0.mod, e0.bs, e0.bsz, e0.funs, e0.frf, e0.hok, e0.bare⟩
      refine wpAny_call (codeAny_mono (L.fn A X.stack s H [.ref a] [.ref a] (fun v H' => v = .str (W us d x) ∧ H' = H) (fun _ _ _ => False) (hr.mono (by omega)) e1 (.cons rfl .nil) ⟨a, us, d, x, c, l, rfl, h, gd, rfl, rfl⟩) fun rr s2 hrr => ?_)
      cases rr with
      | error e => exact False.elim hrr
      | ok fl =>
        cases fl with
        | next => exact False.elim hrr
        | brk => exact False.elim hrr
        | cont => exact False.elim hrr
        | ret v =>
          obtain ⟨v', H', os, bare, un, hok, rv', ev, eH⟩ := (show CE X.stack X.prog X.w H _ _ v s2 from hrr)
          subst ev
          subst eH
          obtain ⟨t, rfl⟩ := rv'
          exact ⟨t, rfl, I.call' os un hok bare (fun b y => absurd y List.not_mem_nil)⟩
    refine wpAny_bind (bound_by XI J L.find L.isf ?_)
    show wpAny _ _ (call (.ref L.f) [.ref a]) _ _ s
    refine wpAny_mono main (fun v s' hv => ?_) fun _ _ z => z
    obtain ⟨t, rfl, I'⟩ := hv
    exact wpAny_bind (wpAny_isInstance (T := "str") (b := true) (typeIs_str _ _ _) isSubtype_str_str (wpAny_pure ⟨_, _, rfl, q _ I'⟩))
theorem not_fs {pins : List (Addr × Obj)} {σ : L2.St} {s : Shared} {b : Addr} (I : Inv X pins σ H s) (h : b ∉ frs X.stack) : b ∉ X.fs := by
  rcases I.ok.stk with z | ⟨z, _⟩
  · rw [z] at h
    exact h
  · rw [z] at h
    intro hb
    refine h ?_
    show b ∈ (X.env :: X.outer).filterMap (·.frame)
    rw [List.filterMap_cons]
    split
    · exact hb
    · exact List.mem_cons_of_mem _ hb
theorem pin_rec {pins : List (Addr × Obj)} {σ : L2.St} {s : Shared} {P : Addr} {o : Obj} (I : Inv X pins σ H s) (r : FbM.Rec X pins P) (uP : H P = none) (e : s.heap.get? P = some o) (nc : ∀ v, o.data ≠ .cell v) : Inv X (pins ++ [(P, o)]) σ H s :=
  I.pins_of fun p hp => (List.mem_append.mp hp).elim (fun z => I.pin p (List.mem_append_right _ z)) fun z => by
    obtain rfl := List.mem_singleton.mp z
    exact ⟨e, uP, r.nl, not_fs I r.fr, nc⟩
theorem rep_loop {a P : Addr} {vs : List V} {ds : List Th} {pins : List (Addr × Obj)} {σ : L2.St} {A : Around} {g : List Code} {n base : Nat} {R : Result → Shared → Prop} (hv : H a = some (.lst vs)) (ht : TaAll X.K C H vs ds) (ih : ∀ t ∈ ds, RepT X C W k H t)
    (hg : A.guards = some g) (hc : Clr X.K C H g n) (hn : Th.hts ds + 1 ≤ n) (hr : Room (k + n + 1) A) (hf : A.frames = some X.stack) (hsz : base + (listText (thXs W ds)).length ≤ sizeLine) (rP : FbM.Rec X pins P) (uP : H P = none)
    (hR : ∀ s', Inv X pins σ H s' → ∀ u, R (.ok (.ret (.str (listText (thXs W ds)) u))) s') :
    ∀ (j i : Nat) (s : Shared) (acc : Array Value) (c : Nat) (done : List (Str × Tok)), ds.length - i = j → i ≤ ds.length → Inv X pins σ H s →
    s.heap.get? P = some { cls := .type "list", dict := none, data := .seq acc c, slots := #[] } → acc.toList = strValues done → done.map (·.1) = (thXs W ds).take i →
    codeAny (model X.prog X.w) A (.builtin "list.__repr__.loop" ⟨[.ref a, rawInt i, .ref P, rawInt ((base + piled ((thXs W ds).take i) : Nat) : Int)], []⟩) R s := by
  have hX : (listText (thXs W ds)).length = (textFrom 0 "[" (thXs W ds)).length + 1 := by
    show (textFrom 0 "[" (thXs W ds) ++ "]").length = _
    rw [strLen_append]
    rfl
  have hlen := thXs_len W ds
  have hL := textFrom_len (thXs W ds) 0 "["
  have hsz1 : ds.length ≤ sizeLine := by
    have h1 := hL.1
    rw [if_neg (Nat.lt_irrefl 0)] at h1
    omega
  have hsz2 : ∀ t ∈ thXs W ds, t.length ≤ sizeLine := fun t ht => by
    have h2 := hL.2.1 t ht
    omega
  have hsz3 : (listText (thXs W ds)).length ≤ sizeLine := by omega
  have hp3 := piled_le_listText (thXs W ds)
  have hvl := ht.len
  intro j
  induction j with
  | zero =>
    intro i s acc c done hk hi I hP hacc hdone
    have hin : i = ds.length := by omega
    obtain ⟨its, rel, ⟨oa, na, ha, _, _, hda⟩, _⟩ := I.list (SqL.of hv)
    have hits : its.length = ds.length := by rw [← rel.length, hvl]
    refine codeAny_builtin PySem.F.entry_list_repr_loop ?_
    show wpAny _ _ (Builtin.«list.__repr__.loop» ⟨[.ref a, .int i 0, .ref P, .int ((base + piled ((thXs W ds).take i) : Nat) : Int) 0], []⟩) _ _ s
    rw [repr_loop_tree]
    refine wpAny_bind (wpAny_listItems ha hda ?_)
    have hnone : its.toArray[(i : Int).toNat]? = none := by simp [hin, hits]
    simp only [hnone]
    unfold reprEnd
    refine wpAny_bind (wpAny_listItems hP rfl ?_)
    rw [hacc, repr_fold]
    refine wpAny_bind (wpAny_pure ?_)
    have hall : done.map (·.1) = thXs W ds := by rw [hdone, hin, ← hlen, List.take_length]
    rw [hall]
    refine wpAny_bind (wpAny_mkStr (wpAny_pure ?_) hsz3)
    exact hR _ (I.tok _) _
  | succ j jh =>
    intro i s acc c done hk hi I hP hacc hdone
    have hlt : i < ds.length := by omega
    obtain ⟨its, rel, ⟨oa, na, ha, _, _, hda⟩, _⟩ := I.list (SqL.of hv)
    have hits : its.length = ds.length := by rw [← rel.length, hvl]
    have hvi : vs[i]? = some vs[i] := List.getElem?_eq_getElem (by omega)
    obtain ⟨t, hti, hta⟩ := ht.at hvi
    obtain ⟨u, hui, hru⟩ := rel.get hvi
    have htx := thXs_at W hti
    have hmem := List.mem_of_getElem? hti
    have hp1 := piled_take_succ htx
    have hp2 := piled_take_le (thXs W ds) (i + 1)
    refine codeAny_builtin PySem.F.entry_list_repr_loop ?_
    show wpAny _ _ (Builtin.«list.__repr__.loop» ⟨[.ref a, .int i 0, .ref P, .int ((base + piled ((thXs W ds).take i) : Nat) : Int) 0], []⟩) _ _ s
    rw [repr_loop_tree]
    refine wpAny_bind (wpAny_listItems ha hda ?_)
    have hsome : its.toArray[(i : Int).toNat]? = some u := by simpa using hui
    simp only [hsome]
    rw [Int.toNat_natCast]
    have I1 := pin_rec I rP uP hP (fun v h => by cases h)
    refine wpAny_bind (wpAny_holding (ih t hmem vs[i] u hta hru (Th.hts ds) _ σ _ _ (base + piled ((thXs W ds).take i) + 1) s _ _ (hts_mem hmem) (by omega) (guards_under_guard (isGuard_list_loop _) hg) (Clr.cons I (.lst hv ht) (by rw [Th.ht]; exact hn) (by rw [Th.ht]) hc)
      (under_room (hr.mono (by omega)) rfl loop_depth (units_under_list_loop _ _)) (loop_frames.trans hf) I1 fun s' I2 => ?_))
    have hP2 : s'.heap.get? P = some { cls := .type "list", dict := none, data := .seq acc c, slots := #[] } := (I2.pin (P, _) (List.mem_append_right _ (List.mem_append_right _ (List.mem_singleton.mpr rfl)))).1
    have I3 : Inv X pins σ H s' := I2.unpinned
    refine wpAny_bind (wpAny_mkStr ?_ (hsz2 _ (List.mem_of_getElem? htx)))
    refine wpAny_bind ?_
    show wpAny _ _ (updateSeq P _) _ _ _
    have hasz : acc.size ≤ sizeLine := by
      have e1 : acc.toList.length = acc.size := by simp
      have e2 : (strValues done).length = done.length := by simp [strValues]
      have e3 : done.length = ((thXs W ds).take i).length := by rw [← hdone, List.length_map]
      have e4 : ((thXs W ds).take i).length ≤ i := by rw [List.length_take]; omega
      rw [hacc] at e1
      omega
    refine wpAny_updateSeq hP2 rfl (wpAny_pure ⟨PySem.F.quiet_list_repr_loop _, ?_⟩) hasz
    have e1 : ((i : Int) + 1) = ((i + 1 : Nat) : Int) := by omega
    have e2 : base + piled ((thXs W ds).take i) + ((thX W t).length + 2) = base + piled ((thXs W ds).take (i + 1)) := by omega
    rw [e1, e2]
    exact jh (i + 1) _ (acc.push (.str (thX W t) s'.toks)) _ (done ++ [(thX W t, s'.toks)]) (by omega) hlt (rP.turn (I3.tok (s'.toks + 1)) uP fun b o hb e => (Heap.get?_update_other _ _ (fun h : P = b => hb h.symm)).trans e) (Heap.get?_update_self _ hP2 rfl) (by simp [hacc, strValues]) (by simp [List.take_add_one, htx, hdone])
/-- list.__repr__ itself -/
theorem lst_at {ds : List Th} {a : Addr} {pins : List (Addr × Obj)} {σ : L2.St} {A : Around} {g : List Code} {n base : Nat} {s : Shared} {R : Result → Shared → Prop} (ih : ∀ t ∈ ds, RepT X C W k H t) (ta : Ta X.K C H (.ref a) (.lst ds)) (hn : (Th.lst ds).ht ≤ n)
    (hg : A.guards = some g) (hc : Clr X.K C H g n) (hr : Room (k + n + 1) A) (hf : A.frames = some X.stack) (I : Inv X pins σ H s) (hz : base + (listText (thXs W ds)).length ≤ sizeLine)
    (hR : ∀ s', Inv X pins σ H s' → ∀ u, R (.ok (.ret (.str (listText (thXs W ds)) u))) s') :
    wpAny (model X.prog X.w) A.in1 (Builtin.listReprAt base ⟨[.ref a], []⟩) (fun fin s' => match fin with | .done f => R (.ok f) s' | .again c' => c'.quiet = true ∧ codeAny (model X.prog X.w) A c' R s') (fun e s' => R (.error e) s') s := by
  have hca : Clear g a := hc a _ ta hn
  cases ta with
  | lst hv ht =>
    rename_i vs
    obtain ⟨its, rel, ⟨oa, na, ha, hcl, _, hda⟩, _⟩ := I.list (SqL.of hv)
    rw [Th.ht] at hn
    cases its with
    | nil =>
      have e0 : ds = [] := by
        have e := ht.len
        rw [rel.length] at e
        exact List.eq_nil_of_length_eq_zero e.symm
      subst e0
      rw [thXs, listText_nil] at hR
      exact wpAny_list_repr_empty ha hda (hR _ (I.tok _) _)
    | cons x l =>
      refine wpAny_list_repr_head (A := A.in1) hg (fun v rest kw hm => listSameRef_of_ne (hca _ _ _ _ hm)) ha hda ?_
      refine wpAny_bind (m := newList []) (wpAny_newObj_type ?_)
      refine wpAny_pure ⟨PySem.F.quiet_list_repr_loop _, ?_⟩
      exact rep_loop (P := s.heap.objs.size) hv ht ih hg hc hn hr hf hz (FbM.rec_new I (Nat.le_refl _)) (I.hok.fresh (Nat.le_refl _)) hR
        _ 0 _ #[] _ [] rfl (Nat.zero_le _) (I.kept (t' := s.toks) fun b o e => Heap.get?_push_of_some _ e) (Heap.get?_push_size _ rfl) rfl (by simp)
theorem lst_type {ds : List Th} {a : Addr} {pins : List (Addr × Obj)} {σ : L2.St} {s : Shared} (I : Inv X pins σ H s) (ta : Ta X.K C H (.ref a) (.lst ds)) : s.TypeIs (.ref a) "list" := by
  cases ta with
  | lst hv ht =>
    obtain ⟨its, rel, ⟨oa, na, ha, hcl, _, hda⟩, _⟩ := I.list (SqL.of hv)
    exact ⟨oa, ha, hcl⟩
theorem rep_lst {ds : List Th} (ih : ∀ t ∈ ds, RepT X C W k H t) : RepT X C W k H (.lst ds) := fun v u ta r n pins σ A g base s Q E hn hz hg hc hr hf I q => by
  obtain ⟨a, rfl⟩ : ∃ a, v = .ref a := by
    cases ta
    exact ⟨_, rfl⟩
  cases r
  rw [thX] at hz q
  have hT := lst_type I ta
  exact wpAny_pyReprUnder_ref (by omega) (wpAny_pyReprObjUnder_twin (T := "list") (id := "list.__repr__") (twin := "list.__repr__.under") hT PySem.F.slot_list_repr.toG rfl hr.units0
    (call_twin_plain PySem.F.plain_list_repr_under PySem.F.entry_list_repr_under PySem.F.check_list_repr_under hT PySem.F.slot_list_repr.toG (PySem.F.args_list_repr_1 _) (lst_at ih ta hn hg hc hr hf I hz fun s' I' u => ⟨⟨_, _, rfl⟩, _, _, rfl, q _ I'⟩)))
theorem rep_fold {pins : List (Addr × Obj)} {σ : L2.St} {A : Around} {g : List Code} {n : Nat} {E : Value → Shared → Prop} (hg : A.guards = some g) (hc : Clr X.K C H g n) (hr : Room (k + n + 1) A) (hf : A.frames = some X.stack) :
    ∀ (ds : List Th) (us : List Value) (vs : List V) (acc : Array Str) (m : Nat) (s : Shared) (Q : (Array Str × Nat) → Shared → Prop), Vals vs us → TaAll X.K C H vs ds → (∀ t ∈ ds, RepT X C W k H t) → Th.hts ds ≤ n → m + piled (thXs W ds) ≤ sizeLine → Inv X pins σ H s →
    (∀ s', Inv X pins σ H s' → Q ⟨acc ++ (thXs W ds).toArray, m + piled (thXs W ds)⟩ s') → wpAny (model X.prog X.w) A (forIn us (⟨acc, m⟩ : (Array Str × Nat)) tupBody) Q E s := by
  intro ds
  induction ds with
  | nil =>
    intro us vs acc m s Q rel ht ih hh hm I h
    cases ht
    cases rel
    have h0 := h s I
    rw [thXs] at h0
    simp only [List.forIn_nil]
    exact wpAny_pure (by simpa [piled] using h0)
  | cons d ds jh =>
    intro us vs acc m s Q rel ht ih hh hm I h
    cases ht with
    | cons h1 h2 =>
      cases rel with
      | cons r1 r2 =>
        rw [thXs, piled_cons] at hm
        rw [Th.hts] at hh
        rw [List.forIn_cons]
        refine wpAny_bind (wpAny_bind (ih d (List.mem_cons_self ..) _ _ h1 r1 n pins σ A g (m + 1) s _ _ (Nat.le_trans (Nat.le_max_left _ _) hh) (by omega) hg hc hr hf I fun s' I' => wpAny_pure ?_))
        refine jh _ _ (acc.push (thX W d)) (m + ((thX W d).length + 2)) _ Q r2 h2 (fun t ht => ih t (List.mem_cons_of_mem _ ht)) (Nat.le_trans (Nat.le_max_right _ _) hh) (by omega) I' fun s'' I'' => ?_
        have h1 := h s'' I''
        rw [thXs] at h1
        have e : m + piled (thX W d :: thXs W ds) = m + ((thX W d).length + 2) + piled (thXs W ds) := by rw [piled_cons]; omega
        rw [e] at h1
        simpa using h1
theorem rep_tup {ds : List Th} (ih : ∀ t ∈ ds, RepT X C W k H t) : RepT X C W k H (.tup ds) := fun v u ta r n pins σ A g base s Q E hn hz hg hc hr hf I q => by
  have ta0 := ta
  cases ta with
  | tup hv ht =>
    rename_i a vs
    cases r
    obtain ⟨its, rel, ⟨oa, ha, hcl, na, hda⟩, _⟩ := I.tuple hv
    have hca : Clear g a := hc a _ ta0 hn
    have hm : (Th.tup ds).ht = Th.hts ds + 1 := by rw [Th.ht]
    rw [thX] at hz q
    have hu : A.units < cLine := hr.units0
    have hlen : (thXs W ds).length = its.toArray.size := by
      have e := ht.len
      rw [rel.length] at e
      rw [thXs_len]
      simpa using e.symm
    have hp := piled_le_tupleText (thXs W ds)
    have hsz0 : (tupleText (thXs W ds)).length ≤ sizeLine := by omega
    refine wpAny_pyReprUnder_ref (by omega) (wpAny_pyReprObjUnder_twin (T := "tuple") (id := "tuple.__repr__") (twin := "tuple.__repr__.under") ⟨oa, ha, hcl⟩ PySem.F.slot_tuple_repr rfl hu
      (call_twin_own (PySem.F.quiet_tuple_repr_under _) PySem.F.entry_tuple_repr_under PySem.F.check_tuple_repr_under ⟨oa, ha, hcl⟩ PySem.F.slot_tuple_repr (PySem.F.args_tuple_repr_1 _) ?_))
    rw [tuple_repr_tree, tupleReprUnderWay_eq]
    refine wpOwn_bind (wpOwn_stackTailAny hg (tupGuardF_off _) (tupGuardF_pos _) ?_)
    have hnn : (g.any fun c => tupGuardF (.ref a) (c, default)) = false := by
      rw [List.any_eq_false]
      intro c hcm
      rw [tupGuardF_of_clear hca c hcm]
      exact Bool.false_ne_true
    rw [hnn]
    refine wpOwn_of_wpAny ?_
    show wpAny _ _ (tupleReprRest base (.ref a)) _ _ s
    unfold tupleReprRest Builtin.Tuple.tupleItemsOf
    refine wpAny_bind (wpAny_bind (wpAny_seqItems ha hda (wpAny_pure ?_)))
    rw [← Array.forIn_toList]
    refine wpAny_bind (rep_fold (guards_under_guard (isGuard_tuple_repr_under _) hg) (Clr.cons I ta0 hn hm hc) (under_room (hr.mono (by omega)) rfl tup_depth (units_under_tuple_repr_under _ _)) (tup_frames.trans hf) ds its vs _ _ _ _ rel ht ih (Nat.le_refl _) (by omega) I fun s' I' => ?_)
    refine wpAny_bind (wpAny_mkStr (wpAny_pure ?_) (by simpa [tupleText, hlen] using hsz0))
    have h1 := q _ (I'.tok (s'.toks + 1))
    have h2 : callEnd (fun v s' => (∃ x u, v = .str x u) ∧ ∃ x u, v = .str x u ∧ Q x s') E (.ok (.ret (.str (tupleText (thXs W ds)) s'.toks))) { s' with toks := s'.toks + 1 } := ⟨⟨_, _, rfl⟩, _, _, rfl, h1⟩
    simpa [tupleText, hlen] using h2
mutual
theorem rep_th (L : RepL X C W k) : ∀ t : Th, t.shw = true → RepT X C W k H t
  | .non, _ => rep_non
  | .bl _, _ => rep_bl
  | .int _, h => by
    rw [Th.shw] at h
    exact rep_int (of_decide_eq_true h)
  | .str _, _ => rep_str
  | .lst ds, h => by
    rw [Th.shw] at h
    exact rep_lst (rep_ths L ds h)
  | .tup ds, h => by
    rw [Th.shw] at h
    exact rep_tup (rep_ths L ds h)
  | .dic, _ => rep_dic
  | .lad .., _ => rep_lad L
theorem rep_ths (L : RepL X C W k) : ∀ ts : List Th, Th.shws ts = true → ∀ t ∈ ts, RepT X C W k H t
  | [], _ => nofun
  | x :: r, e => by
    rw [Th.shws, Bool.and_eq_true] at e
    exact List.forall_mem_cons.mpr ⟨rep_th L x e.1, rep_ths L r e.2⟩
end
/-- repr(xs), xs a list of such things, while nothing is being displayed -/
theorem call_reprX {m : Nat} (L : RepL X C W k) (gd : X.A.guards = some []) (hr : Room (k + m + 2) X.A) : CallR X (.builtin "repr") (fun xs M Q => ∃ (a : Addr) (ds : List Th), xs = [.ref a] ∧ Ta X.K C M (.ref a) (.lst ds) ∧ Th.shws ds = true ∧ (Th.lst ds).ht ≤ m ∧ (listText (thXs W ds)).length ≤ sizeLine ∧ Q (.str (listText (thXs W ds))) M) := by
  intro pins s σ M xs us Q I r h
  obtain ⟨a, ds, rfl, ta, h1, h2, h3, q⟩ := h
  obtain ⟨u, rfl, hu1⟩ := vals1 r
  cases hu1
  have hT := lst_type I ta
  have hr1 : Room (k + m + 1) X.A.in1 := hr.in1
  exact call_repr_slot (by have := hr.un; omega) hT PySem.F.slot_list_repr.toG (wpAny_call (codeAny_call_builtin PySem.F.slot_list_repr.plain PySem.F.entry_list_repr (PySem.F.slot_list_repr.check _ _ _ _ _ _ _ _ hT (PySem.F.args_list_repr_1 _)
    (lst_at (base := 0) (R := callEnd _ _) (rep_ths L ds h1) ta h2 gd (fun _ _ _ _ => Clear.nil _) hr1 I.ok.frames I (by omega) fun s' I' u => ⟨_, _, rfl, .str _, M, I', ⟨u, rfl⟩, q⟩))))
end
end My

namespace My
open PySem PySem.Spec PyProof.Rows L2
/-! ### a ladder's own __repr__ -/
abbrev sLRepr : Stmt := inClass (top 24) 3
theorem scLRepr : FnScope ["self"] ["self"] (defScope sLRepr) := ⟨rfl, rfl, rfl, by decide +kernel, rfl, by decide +kernel, by decide +kernel⟩
def ladW : LadW := fun us d s => ((((((Str.empty ++ "Ladder(") ++ Str.ofString (toString (us.length : Int))) ++ " units, ") ++ Str.ofString (toString (d : Int))) ++ " decimals, ") ++ s) ++ ")"
structure RprC (K : PySem.W.Frag) (C : Addr) where
  f : Addr
  fd : FuncData
  find : PySem.W.findIn K (.ref C) "__repr__" = some (some (.ref f))
  isf : PySem.W.isFn K (.ref f) = true
  F : Fun K "__repr__" "Ladder.__repr__" sLRepr f fd
  b : Binds K fd ["self"] []
def mkRpr {K : PySem.W.Frag} {C f : Addr} {oc : Value} {od an : Option Addr} {sl : Array (Option Value)} {kV dc pm cd ct : Value} (hb : ∀ (kV doc pm : Value) (an : Option Addr) (cdv ct : Value) (us : List Value), us.length = 1 → bindArgs (PySem.W.fnOf "__repr__" "Ladder.__repr__" (defArgs sLRepr) (defBody sLRepr) (defScope sLRepr) .none kV doc pm an cdv ct) ⟨us, []⟩ = pure ((["self"] : List Str).zip us))
    (a : PySem.W.findIn K (.ref C) "__repr__" = some (some (.ref f))) (i : PySem.W.isFn K (.ref f) = true)
    (l : K.lookup f = some ⟨oc, od, .func (PySem.W.fnOf "__repr__" "Ladder.__repr__" (defArgs sLRepr) (defBody sLRepr) (defScope sLRepr) .none kV dc pm an cd ct), sl⟩) (c : PySem.W.codeIn K cd "Ladder.__repr__" = true) (k : PySem.W.keepIn K (.ref f) = true) : RprC K C :=
  ⟨f, _, a, i, fun_mk l c k, (fun_mk l c k).binds hb⟩
section
variable {P : Program} {w : World} {K : PySem.W.Frag} {mg : Str → Option Value} {base : Heap}
theorem ok_lrepr (L : LadC K mg) (R : RprC K L.C) (B : Bt mg) : FnOk P w K mg base CX0 1 R.f R.fd ["self"] (spLRepr K L.C ladW) := by
  refine R.F.ok scLRepr (fun vs H Q E h => ?_) (fun cdv A outer s H vs Q E hr h => ?_)
  · obtain ⟨_, _, _, _, _, _, rfl, _⟩ := h
    rfl
  · obtain ⟨a, us, d, x, c, l, rfl, ⟨dx, ua, t, st, th, hp, ⟨ps, hU, hu⟩, _⟩, g, q⟩ := h
    refine ⟨_, pss_one (ps_ret (L2.pe_joined (.cons pe_str (.cons (pe_fmt (pe_callB call_len_seq (by rfl) B.len PySem.boot_len (pa_cons (pe_fld (pv 0) rfl) pa_nil))) (.cons pe_str (.cons (pe_fmt (pe_fld (pv 0) rfl)) (.cons pe_str (.cons (pe_fmt (pe_fld (pv 0) rfl)) (.cons pe_str .nil))))))))), ?_⟩
    have el := UP.len hu
    have hl : us.length ≤ 6 := g.u.hi
    have hd : d ≤ 3 := g.d3
    have hx : x.length ≤ 4 := by
      have h := g.srt
      simp only [sorts, List.mem_cons, List.not_mem_nil, or_false] at h
      rcases h with rfl | rfl | rfl | rfl <;> decide
    have n1 : ((us.length : Int)).natAbs < 10 ^ 40 := Nat.lt_of_le_of_lt (m := 6) (by omega) (by decide)
    have n2 : ((d : Int)).natAbs < 10 ^ 40 := Nat.lt_of_le_of_lt (m := 6) (by omega) (by decide)
    have t1 : (Str.ofString (toString (us.length : Int))).length ≤ 41 := by
      rw [PySem.ofString_length]
      exact int_text_length_le10 (a := (us.length : Int)) (k := 40) (by decide) n1
    have t2 : (Str.ofString (toString (d : Int))).length ≤ 41 := by
      rw [PySem.ofString_length]
      exact int_text_length_le10 (a := (d : Int)) (k := 40) (by decide) n2
    have fit : ∀ {n : Nat}, n ≤ 1000 → n ≤ sizeLine := fun h => Nat.le_trans h (by decide)
    have c1 : ("Ladder(" : Str).length = 7 := rfl
    have c2 : (" units, " : Str).length = 8 := rfl
    have c3 : (" decimals, " : Str).length = 11 := rfl
    have c4 : (")" : Str).length = 1 := rfl
    have c0 : Str.empty.length = 0 := rfl
    have p1 : ((us.length : Int)).natAbs.log2 < 1920 := by
      have p := plain_show (.int (us.length : Int)) (by simp only [plainD]; exact decide_eq_true n1)
      simp only [PyData.showable] at p
      exact of_decide_eq_true p
    have p2 : ((d : Int)).natAbs.log2 < 1920 := by
      have p := plain_show (.int (d : Int)) (by simp only [plainD]; exact decide_eq_true n2)
      simp only [PyData.showable] at p
      exact of_decide_eq_true p
    refine ⟨_, rfl, fit (by simp only [strLen_append, c0, c1]; omega), ?_⟩
    refine ⟨.ref a, rfl, a, L.C, dx, _, _, rfl, hp, L.cl, L.nUnits, fl_units .., ua, _, rfl, .inr hU, .inr ⟨(us.length : Int), by rw [List.length_map, el], p1, ?_⟩⟩
    refine ⟨_, rfl, fit (by simp only [strLen_append, c0, c1]; omega), ?_⟩
    refine ⟨_, rfl, fit (by simp only [strLen_append, c0, c1, c2]; omega), ?_⟩
    refine ⟨.ref a, rfl, a, L.C, dx, _, _, rfl, hp, L.cl, L.nDec, fl_dec .., .inr ⟨(d : Int), rfl, p2, ?_⟩⟩
    refine ⟨_, rfl, fit (by simp only [strLen_append, c0, c1, c2]; omega), ?_⟩
    refine ⟨_, rfl, fit (by simp only [strLen_append, c0, c1, c2, c3]; omega), ?_⟩
    refine ⟨.ref a, rfl, a, L.C, dx, _, _, rfl, hp, L.cl, L.nRnd, fl_rnd .., .inl ⟨x, rfl, fit (by omega), ?_⟩⟩
    refine ⟨_, rfl, fit (by simp only [strLen_append, c0, c1, c2, c3]; omega), ?_⟩
    refine ⟨_, rfl, fit (by simp only [strLen_append, c0, c1, c2, c3, c4]; omega), ?_⟩
    exact q
def repL {X : Cx} (L : LadC X.K X.mg) (R : RprC X.K L.C) (B : Bt X.mg) : RepL X L.C ladW 1 :=
  ⟨R.f, R.find, R.isf, (ok_lrepr (P := X.prog) (w := X.w) (base := X.base) L R B).raw R.b .nil |>.imp fun vs H Q E h => by rw [List.append_nil]; exact h⟩
end
section
variable {X : Cx} {C : Addr} {W : LadW} {k : Nat}
/-- repr(p), p a ladder -/
theorem call_reprL (L : RepL X C W k) (hr : Room (k + 2) X.A) : CallR X (.builtin "repr") (fun xs M Q => ∃ (a : Addr) (us : List (Str × Int)) (d : Nat) (x : Str) (c : Bool) (l : Int), xs = [.ref a] ∧ LadAt X.K C M a us d x c l ∧ Good us d x l ∧ Q (.str (W us d x)) M) := by
  intro pins s σ M xs us' Q I r h
  obtain ⟨a, us, d, x, c, l, rfl, hL, gd, q⟩ := h
  obtain ⟨u, rfl, hu1⟩ := vals1 r
  cases hu1
  have hr1 : Room (k + 1) X.A.in1 := hr.in1
  obtain ⟨dx, _, _, _, _, e, _⟩ := id hL
  obtain ⟨mA, O, _⟩ := ins_get I.hok e
  obtain ⟨od, J, _⟩ := O.look
  obtain ⟨m, F⟩ := I.fr
  refine PySem.W.repr_K hr1.units0 F I.mod.kin J L.find L.isf ?_
  have e0 := I.env0
  have e1 : Env0 X.prog X.w X.K X.mg X.base X.A.in1 X.stack s M := e0.in1
  refine wpAny_call (codeAny_mono (L.fn X.A.in1 X.stack s M [.ref a] [.ref a] (fun v H' => v = .str (W us d x) ∧ H' = M) (fun _ _ _ => False) (hr1.mono (by omega)) e1 (.cons rfl .nil) ⟨a, us, d, x, c, l, rfl, hL, gd, rfl, rfl⟩) fun rr s2 hrr => ?_)
  cases rr with
  | error e => exact False.elim hrr
  | ok fl =>
    cases fl with
    | next => exact False.elim hrr
    | brk => exact False.elim hrr
    | cont => exact False.elim hrr
    | ret v =>
      obtain ⟨v', H', os, bare, un, hok, rv', ev, eH⟩ := (show CE X.stack X.prog X.w M _ _ v s2 from hrr)
      subst ev
      subst eH
      obtain ⟨t, rfl⟩ := rv'
      exact ⟨.str (W us d x), _, I.call' os un hok bare (fun b y => absurd y List.not_mem_nil), ⟨t, rfl⟩, q⟩
end
end My

/-! == and != of ladders by their own __eq__ -/
namespace PySem
namespace NeK
open Builtin
section
variable {prog : Program} {w : World} {A : Around} {E : Value → Shared → Prop} {s : Shared} {K : W.Frag} {x C L f : Addr} {h₀ : Heap} {m : Str → Option Value} {ox : Obj} {od : Option Obj} {b : Value} {tb : Value}
theorem ifBound_B {M : Model} {id : String} {name : Str} {args : List Value} {Q : Option Value → Shared → Prop} (X : K.In s.heap) (I : W.InstAt s.heap x ox C od) (hs : W.findIn K (.ref C) name = some (some (.builtin id))) (hb : ∀ self, bindSpecial (.builtin id) self = pure (.builtin id, [self]))
    (h : wpAny M A (call (.builtin id) (.ref x :: args)) (fun v => Q (some v)) E s) : wpAny M A (callSpecialIfBound? (.ref x) name args) Q E s := by
  simp only [callSpecialIfBound?, bindSpecialIfBound?]
  refine wpAny_holding (wpAny_bind (wpAny_bind (wpAny_bind (I.type.here ((W.looks_findIn X hs).here ?_)))))
  simp only [hb]
  refine wpAny_bind (wpAny_askSetting (wpAny_ite ?_))
  have fin : wpAny M A (call (.builtin id) ([.ref x] ++ args) >>= fun v => pure (some v)) Q E s := wpAny_bind (wpAny_mono h (fun v s' h' => wpAny_pure h') fun _ _ h' => h')
  split
  · exact wpAny_bind (wpAny_pure (wpAny_pure fin))
  · exact wpAny_tryCatch (wpAny_bind (wpAny_pure (wpAny_pure fin)))
theorem objNe_K {Q : Fin → Shared → Prop} (X : K.In s.heap) (I : W.InstAt s.heap x ox C od) (hu : A.units < cLine) (hs : W.findIn K (.ref C) "__eq__" = some (some (.ref f))) (hf : W.isFn K (.ref f) = true)
    (h : wpAny (model prog w) A (call (.ref f) [.ref x, b]) (fun v s' => ∃ c, v = .bool c ∧ Q (.done (.ret (.bool (!c)))) s') E s) : wpAny (model prog w) A (Builtin.«object.__ne__» ⟨[.ref x, b], []⟩) Q E s := by
  unfold Builtin.«object.__ne__»
  repeat (first
    | with_reducible refine wpAny_cRoomFor hu ?_
    | (refine wpAny_bind (m := callSpecialIfBound? (.ref x) (Str.ofString "__eq__") [b]) (W.ifBound_K X I hs hf (wpAny_mono h (fun r s' hr => by
          obtain ⟨c, rfl, hq⟩ := hr
          repeat (first | exact hq | exact wpAny_pure hq | exact wpAny_truthy_bool hq | (refine wpAny_bind (m := truthy (.bool _)) (wpAny_truthy_bool ?_)) | wp_step)) fun _ _ e => e)))
    | wp_step)
theorem ne_K {Q : Value → Shared → Prop} (hu : A.units + 1 < cLine) (F : PyProof.Rows.Fr h₀ L s.heap m) (X₀ : K.In h₀) (I : W.InstAt s.heap x ox C od) (hb : W.Looks (model prog w) s.heap (typeOf b) tb) (hn : W.notFirst K C tb = true) (ob : W.mroIn K C (.type "object") = some true)
    (hs : W.findIn K (.ref C) "__eq__" = some (some (.ref f))) (hne : W.findIn K (.ref C) "__ne__" = some (some (.builtin "object.__ne__"))) (hf : W.isFn K (.ref f) = true)
    (h : wpAny (model prog w) A.in1 (call (.ref f) [.ref x, b]) (fun v s' => ∃ c, v = .bool c ∧ Q (.bool (!c)) s') E s) : wpAny (model prog w) A (richCompare .NotEq (.ref x) b) Q E s := by
  have X := X₀.keeps F.keep
  have isO : W.Looks (model prog w) s.heap (isInstance (.ref x) (.type "object")) true := I.type.andThen (W.looks_mroIn X ob)
  have hu0 : A.units < cLine := Nat.lt_of_succ_lt hu
  have hu1 : A.in1.units < cLine := hu
  have one : wpAny (model prog w) A (tryCompare (.ref x) "__ne__" b) (fun r s' => ∃ v, r = some v ∧ Q v s') E s := by
    unfold tryCompare
    refine wpAny_bind (ifBound_B X I hne PySem.F.cmp_object.ne.bind (wpAny_call (codeAny_call_builtin PySem.F.cmp_object.ne.plain PySem.F.cmpEntry_ne (W.check_slot PySem.F.cmpKind_ne PySem.F.cmpSplit_ne isO (PySem.F.cmpArgs_ne _ _)
      (objNe_K X I hu1 hs hf (wpAny_mono h (fun v s' hv => ?_) fun _ _ e => e))))))
    obtain ⟨c, rfl, hq⟩ := hv
    first | exact ⟨c, rfl, wpAny_pure ⟨_, rfl, hq⟩⟩ | exact ⟨c, rfl, wpAny_pure (wpAny_pure ⟨_, rfl, hq⟩)⟩
  unfold richCompare
  simp only [oneThing_ref]
  refine wpAny_holding (wpAny_bind (wpAny_cRoomFor hu0 ?_))
  refine wpAny_bind (I.type.here (wpAny_bind (hb.here ?_)))
  split
  · rename_i q
    have e : W.subIn K tb (.ref C) = some false := by
      rcases Bool.or_eq_true_iff.mp hn with e | e
      · rw [beq_iff_eq.mp e] at q; simp at q
      · exact beq_iff_eq.mp e
    refine wpAny_bind ((W.looks_subIn X e).here ?_)
    simp only [Bool.false_eq_true, if_false]
    refine wpAny_bind (wpAny_mono one (fun r s' z => ?_) fun _ _ e => e)
    obtain ⟨v, rfl, hq⟩ := z
    exact wpAny_pure hq
  · refine wpAny_bind (wpAny_pure ?_)
    simp only [Bool.false_eq_true, if_false]
    refine wpAny_bind (wpAny_mono one (fun r s' z => ?_) fun _ _ e => e)
    obtain ⟨v, rfl, hq⟩ := z
    exact wpAny_pure hq
end
end NeK
end PySem
namespace My
open PySem PySem.Spec PyProof.Rows L2
/-! what a ladder tells -/
def unitsDB (us : List (Str × Int)) : List PyData := us.map fun u => .tuple [.str u.1, .int u.2]
def toldDB (A : Lad) : PyData := .tuple [.tuple (unitsDB A.us), .int (A.d : Int), .str A.s, .bool A.c, .int A.l]
theorem units_dpB {K : PySem.W.Frag} {H : Hp} : ∀ {ps : List Addr} {us : List (Str × Int)}, UP K H ps us → DpAll K H (ps.map V.ref) (unitsDB us)
  | _, _, .nil => .nil
  | _, _, .cons h t => .cons (.tup h (.cons (.str _) (.cons (.int _) .nil))) (units_dpB t)
theorem told_dpB {K : PySem.W.Frag} {H : Hp} {r : Addr} {A : Lad} (h : ToldAt K H r A.us A.d A.s A.c A.l) : Dp K H (.ref r) (toldDB A) := by
  obtain ⟨ua, h1, ps, h2, h3⟩ := h
  exact .tup h1 (.cons (.tup h2 (units_dpB h3)) (.cons (.int _) (.cons (.str _) (.cons (.bl _) (.cons (.int _) .nil)))))
theorem units_okB {us : List (Str × Int)} (g : GoodUs us) : plainDs (unitsDB us) = true ∧ lenBs (unitsDB us) ≤ 700 ∧ PyData.depthAll (unitsDB us) ≤ 2 := by
  have hh : ∀ u ∈ us, GoodN u.1 ∧ 1 ≤ u.2 ∧ u.2 ≤ 1000000000000000000 := fun u hu => by
    obtain ⟨i, hi⟩ := List.getElem?_of_mem hu
    obtain ⟨h1, h2, h3, _⟩ := g.each i u hi
    exact ⟨h1, h2, h3⟩
  have hl := g.hi
  have key : ∀ {us : List (Str × Int)}, (∀ u ∈ us, GoodN u.1 ∧ 1 ≤ u.2 ∧ u.2 ≤ 1000000000000000000) → plainDs (unitsDB us) = true ∧ lenBs (unitsDB us) ≤ 110 * us.length ∧ PyData.depthAll (unitsDB us) ≤ 2 := fun {us} h => by
    induction us with
    | nil => exact ⟨by simp [unitsDB, plainDs], by simp [unitsDB, lenBs], by simp [unitsDB, PyData.depthAll]⟩
    | cons u r ih =>
      obtain ⟨i1, i2, i3⟩ := ih fun x hx => h x (List.mem_cons_of_mem _ hx)
      obtain ⟨h1, h2, h3⟩ := h u (List.mem_cons_self ..)
      have e : unitsDB (u :: r) = .tuple [.str u.1, .int u.2] :: unitsDB r := rfl
      rw [e]
      refine ⟨?_, ?_, ?_⟩
      · simp only [plainDs, plainD, Bool.and_eq_true, Bool.and_true, decide_eq_true_eq, List.all_eq_true]
        exact ⟨⟨fun c hc => of_strOkX h1.2.2.1 c hc, by omega⟩, i1⟩
      · simp only [lenBs, lenB, List.length_cons]
        have := h1.1
        omega
      · simp only [PyData.depthAll, PyData.depth]
        omega
  obtain ⟨k1, k2, k3⟩ := key hh
  exact ⟨k1, by omega, k3⟩
theorem told_okB {A : Lad} (g : A.Ok) : plainD (toldDB A) = true ∧ lenB (toldDB A) ≤ 1000 ∧ (toldDB A).depth ≤ 5 := by
  obtain ⟨u1, u2, u3⟩ := units_okB g.u
  have hs : A.s.length ≤ 4 ∧ plainD (.str A.s) = true := by
    have := g.srt
    simp [sorts] at this
    rcases this with e | e | e | e <;> rw [e] <;> exact ⟨by decide, by decide⟩
  have hd := g.d3
  have h1 := g.l1
  have h2 := g.l2
  unfold toldDB
  refine ⟨?_, ?_, ?_⟩
  · have hs2 := hs.2
    simp only [plainDs, plainD, Bool.and_eq_true, Bool.and_true, decide_eq_true_eq] at hs2 ⊢
    exact ⟨u1, by omega, hs2, trivial, by omega⟩
  · simp only [lenBs, lenB]
    have := hs.1
    omega
  · simp only [PyData.depthAll, PyData.depth]
    omega
theorem units_layB {us : List (Str × Int)} (g : GoodUs us) : PyData.canLayAll0 (unitsDB us) = true := by
  have hh : ∀ u ∈ us, PyData.strOk u.1 = true := fun u hu => by
    obtain ⟨i, hi⟩ := List.getElem?_of_mem hu
    exact (g.each i u hi).1.2.2.1
  clear g
  induction us with
  | nil => simp [unitsDB, PyData.canLayAll0]
  | cons u r ih =>
    have e : unitsDB (u :: r) = .tuple [.str u.1, .int u.2] :: unitsDB r := rfl
    rw [e]
    simp only [PyData.canLayAll0, PyData.canLay0, Bool.and_eq_true, Bool.and_true]
    exact ⟨hh u (List.mem_cons_self ..), ih fun x hx => hh x (List.mem_cons_of_mem _ hx)⟩
theorem told_layB {A : Lad} (g : A.Ok) : (toldDB A).canLay0 = true := by
  have hs : PyData.strOk A.s = true := by
    have := g.srt
    simp [sorts] at this
    rcases this with e | e | e | e <;> rw [e] <;> decide +kernel
  unfold toldDB
  simp only [PyData.canLayAll0, PyData.canLay0, Bool.and_eq_true, Bool.and_true]
  exact ⟨units_layB g.u, trivial, hs⟩
theorem told_shapedB {A : Lad} (g : A.Ok) : SeqAt.shaped (toldDB A) = true ∧ PyData.eqv (toldDB A) (toldDB A) = true := by
  refine ⟨?_, SeqAt.eqv_refl _ (told_layB g)⟩
  show ((toldDB A).canLay0 && decide ((toldDB A).depth ≤ 64)) = true
  rw [told_layB g, Bool.true_and]
  have t1 := (told_okB g).2.2
  exact decide_eq_true (by omega)
/-! ### the class's own methods -/
abbrev sLLen : Stmt := inClass (top 24) 1
abbrev sLEq : Stmt := inClass (top 24) 2
theorem scLLen : FnScope ["self"] ["self"] (defScope sLLen) := ⟨rfl, rfl, rfl, by decide +kernel, rfl, by decide +kernel, by decide +kernel⟩
theorem scLEq : FnScope ["self", "other"] ["self", "other"] (defScope sLEq) := ⟨rfl, rfl, rfl, by decide +kernel, rfl, by decide +kernel, by decide +kernel⟩
structure LMth (K : PySem.W.Frag) (C : Addr) (m q : Str) (st : Stmt) (ps : List Str) where
  f : Addr
  fd : FuncData
  F : Fun K m q st f fd
  b : Binds K fd ps []
  at_ : PySem.W.findIn K (.ref C) m = some (some (.ref f))
  fn : PySem.W.isFn K (.ref f) = true
structure LEqC (K : PySem.W.Frag) (C : Addr) extends LMth K C "__eq__" "Ladder.__eq__" sLEq ["self", "other"] where
  ne : PySem.W.findIn K (.ref C) "__ne__" = some (some (.builtin "object.__ne__"))
  tu : PySem.W.subIn K (.type "tuple") (.ref C) = some false
  st : PySem.W.subIn K (.type "str") (.ref C) = some false
structure LLenC (K : PySem.W.Frag) (C : Addr) extends LMth K C "__len__" "Ladder.__len__" sLLen ["self"] where
  bo : PySem.W.findIn K (.ref C) "__bool__" = some none
def spLLen (K : PySem.W.Frag) (C : Addr) : Sp := fun vs H Q _ => ∃ (a : Addr) (A : Lad), vs = [.ref a] ∧ A.At K C H a ∧ Q (.int A.us.length) H
def spLEq (K : PySem.W.Frag) (C : Addr) : Sp := fun vs H Q _ => ∃ (a : Addr) (A : Lad) (y : V), vs = [.ref a, y] ∧ A.At K C H a ∧ A.Ok ∧ ((∃ b B, y = .ref b ∧ Lad.At B K C H b ∧ B.Ok ∧ Q (.bl (PyData.eqv (toldDB A) (toldDB B))) H) ∨ (∃ T, TyX K H y T ∧ PySem.W.kitOne K T (.ref C) = some false ∧ Q (.bl false) H))
section
variable {P : Program} {w : World} {K : PySem.W.Frag} {mg : Str → Option Value} {base : Heap}
theorem ok_llen (L : LadC K mg) (R : LLenC K L.C) (B : Bt mg) : FnOk P w K mg base CX0 1 R.f R.fd ["self"] (spLLen K L.C) := by
  refine R.F.ok scLLen (fun vs H Q E h => ?_) (fun cdv A0 outer s H vs Q E hr h => ?_)
  · obtain ⟨_, _, rfl, _⟩ := h
    rfl
  · obtain ⟨a, A, rfl, ⟨dx, ua, t, st, th, hp, ⟨ps, hU, hu⟩, _⟩, q⟩ := h
    have el := UP.len hu
    refine ⟨_, pss_one (ps_ret (pe_callB call_len_seq (by rfl) B.len PySem.boot_len (pa_cons (pe_fld (pv 0) rfl) pa_nil))), ?_⟩
    refine ⟨_, rfl, a, L.C, dx, _, _, rfl, hp, L.cl, L.nUnits, fl_units .., ua, _, rfl, .inr hU, ?_⟩
    rw [List.length_map, el]
    exact q
theorem ok_leq (L : LadC K mg) (I : LadI K L.C) (R : LEqC K L.C) (B : Bt mg) : FnOk P w K mg base CX0 1 R.f R.fd ["self", "other"] (spLEq K L.C) := by
  refine R.F.ok scLEq (fun vs H Q E h => ?_) (fun cdv A0 outer s H vs Q E hr h => ?_)
  · obtain ⟨_, _, _, rfl, _⟩ := h
    rfl
  · obtain ⟨a, A, y, rfl, ⟨dx, ua, t, st, th, hp, hU, hT, hS⟩, g, q⟩ := h
    have hu := hr.units
    have td : Dp K H (.ref t) (toldDB A) := told_dpB ⟨ua, hT, hU⟩
    have t1 := (told_shapedB g).1
    refine ⟨_, pss_one (ps_ret (pe_and (pe_callB call_isi (by rfl) B.isinstance (by decide +kernel) (pa_cons (pv 1) (pa_cons (pe_glob (v := .ref L.C) (by rfl) L.g rfl) pa_nil))) (pe_one (pe_cmpR (r := rEqD K) (op_eqD hu) (pe_fld (pv 0) rfl) (pe_fld (pv 1) rfl) (by rfl))))), ?_⟩
    rcases q with ⟨b, Bl, rfl, ⟨dx2, ua2, t2, st2, th2, hp2, hU2, hT2, hS2⟩, g2, q⟩ | ⟨T, hTy, hk, q⟩
    · have td2 : Dp K H (.ref t2) (toldDB Bl) := told_dpB ⟨ua2, hT2, hU2⟩
      have t12 := (told_shapedB g2).1
      refine ⟨_, rfl, _, _, _, _, true, rfl, .own L.C, .base (.ins hp2 L.cl I.i1 I.i2 I.i3 I.i4), I.i5, _, rfl, ?_⟩
      refine iteT ?_
      exact ⟨_, rfl, a, L.C, dx, _, _, rfl, hp, L.cl, L.nTold, fl_told .., _, rfl, b, L.C, dx2, _, _, rfl, hp2, L.cl, L.nTold, fl_told .., _, _, td, td2, t1, t12, q⟩
    · refine ⟨_, rfl, _, _, _, _, false, rfl, .own L.C, hTy, hk, _, rfl, ?_⟩
      exact iteF q
end
/-! ### len, truth, ==, != -/
section
variable {X : Cx} {L : LadC X.K X.mg}
theorem call_lenL (R : LLenC X.K L.C) (B : Bt X.mg) (hr : Room 2 X.A) : CallR X (.builtin "len") (fun xs M Q => ∃ (a : Addr) (A : Lad), xs = [.ref a] ∧ A.At X.K L.C M a ∧ A.us.length ≤ 6 ∧ Q (.int A.us.length) M) := by
  intro pins s σ M xs us' Q I r h
  obtain ⟨a, A, rfl, hL, h6, q⟩ := h
  obtain ⟨u, rfl, hu1⟩ := vals1 r
  cases hu1
  have hr1 : Room 1 X.A.in1 := hr.in1
  obtain ⟨dx, _, _, _, _, e, _⟩ := id hL
  obtain ⟨mA, O, _⟩ := ins_get I.hok e
  obtain ⟨od, J, _⟩ := O.look
  obtain ⟨m, F⟩ := I.fr
  refine PySem.W.len_K F I.mod.kin J R.at_ R.fn ?_
  have e0 := I.env0
  have e1 : Env0 X.prog X.w X.K X.mg X.base X.A.in1 X.stack s M := e0.in1
  have fn := (ok_llen (P := X.prog) (w := X.w) (base := X.base) L R B).raw R.b .nil
  refine wpAny_call (codeAny_mono (fn X.A.in1 X.stack s M [.ref a] [.ref a] (fun v H' => v = .int A.us.length ∧ H' = M) (fun _ _ _ => False) hr1 e1 (.cons rfl .nil) ⟨a, A, rfl, hL, rfl, rfl⟩) fun rr s2 hrr => ?_)
  cases rr with
  | error e => exact False.elim hrr
  | ok fl =>
    cases fl with
    | next => exact False.elim hrr
    | brk => exact False.elim hrr
    | cont => exact False.elim hrr
    | ret v =>
      obtain ⟨v', H', os, bare, un, hok, rv', ev, eH⟩ := (show CE X.stack X.prog X.w M _ _ v s2 from hrr)
      subst ev
      subst eH
      obtain ⟨t, rfl⟩ := rv'
      exact ⟨⟨by omega, by omega⟩, .int A.us.length, _, (I.call' os un hok bare (fun b y => absurd y List.not_mem_nil)).tok _, ⟨_, rfl⟩, q⟩
end
end My

namespace PySem
namespace NeK
open Builtin PyProof.Rows
section
variable {prog : Program} {w : World} {A : Around} {E : Value → Shared → Prop} {s : Shared} {K : W.Frag} {x C L f : Addr} {h₀ : Heap} {m : Str → Option Value} {ox : Obj} {od : Option Obj}
theorem truthy_KL {Q : Bool → Shared → Prop} (X : K.In s.heap) (I : W.InstAt s.heap x ox C od) (hb : W.findIn K (.ref C) "__bool__" = some none) (hl : W.findIn K (.ref C) "__len__" = some (some (.ref f))) (hf : W.isFn K (.ref f) = true)
    (h : wpAny (model prog w) A.in1 (call (.ref f) [.ref x]) (fun v s' => ∃ n t, v = .int n t ∧ (0 ≤ n ∧ n < 2 ^ 63) ∧ Q (n != 0) { s' with toks := s'.toks + 1 }) E s) : wpAny (model prog w) A (truthy (.ref x)) Q E s := by
  have key : wpAny (model prog w) A (runValue (.builtin "len" ⟨[.ref x], []⟩)) (fun r s' => ∃ n t, r = .int n t ∧ Q (n != 0) s') E s := by
    refine wpAny_runValue (codeAny_builtin PySem.entry_len ?_)
    rw [Around.under_plainId PySem.plain_len _]
    unfold Builtin.«len»
    refine wpAny_bind (m := oneArg "len" _) (wpAny_pure ?_)
    refine wpAny_bind (m := callSpecial? (.ref x) (Str.ofString "__len__")) (W.special_fn X I hl (beq_iff_eq.mp hf) (wpAny_mono h (fun r s' hr => ?_) fun _ _ y => y))
    obtain ⟨n, t, rfl, ⟨h0, h1⟩, hq⟩ := hr
    refine wpAny_bind (wpAny_holding (wpAny_pure ?_))
    refine wpAny_bind (wpAny_letGo ?_)
    show wpAny _ _ (if n < 0 then _ else _) _ _ _
    rw [if_neg (by omega)]
    show wpAny _ _ (if n ≥ 2 ^ 63 then _ else _) _ _ _
    rw [if_neg (by omega)]
    exact wpAny_bind (wpAny_mkInt (wpAny_pure ⟨_, _, rfl, hq⟩))
  have hsp : ∀ {Q' : Option Value → Shared → Prop}, Q' (some (.ref f)) s → wpAny (model prog w) A (specialOf (.ref x) "__len__") Q' E s := fun q => by
    unfold specialOf
    exact wpAny_bind (I.type.here ((W.looks_findIn X hl).here q))
  unfold truthy
  refine wpAny_bind (m := callSpecial? (.ref x) (Str.ofString "__bool__")) (wpAny_bind (wpAny_bind (I.type.here ((W.looks_findIn X hb).here (wpAny_pure ?_)))))
  first
    | refine wpAny_bind (hsp ?_)
    | refine wpAny_bind (wpAny_pure (wpAny_bind (hsp ?_)))
  first
    | exact wpAny_bind (wpAny_mono key (fun r s' h' => by obtain ⟨n, t, rfl, hq⟩ := h'; exact wpAny_pure hq) fun _ _ e => e)
    | exact wpAny_bind (wpAny_pure (wpAny_bind (wpAny_mono key (fun r s' h' => by obtain ⟨n, t, rfl, hq⟩ := h'; exact wpAny_pure hq) fun _ _ e => e)))
end
end NeK
end PySem
namespace My
open PySem PySem.Spec PyProof.Rows L2
def mkLLen {K : PySem.W.Frag} {C f : Addr} {oc : Value} {od an : Option Addr} {sl : Array (Option Value)} {kV dc pm cd ct : Value} (hb : ∀ (kV doc pm : Value) (an : Option Addr) (cdv ct : Value) (us : List Value), us.length = 1 → bindArgs (PySem.W.fnOf "__len__" "Ladder.__len__" (defArgs sLLen) (defBody sLLen) (defScope sLLen) .none kV doc pm an cdv ct) ⟨us, []⟩ = pure ((["self"] : List Str).zip us))
    (a : PySem.W.findIn K (.ref C) "__len__" = some (some (.ref f))) (i : PySem.W.isFn K (.ref f) = true)
    (l : K.lookup f = some ⟨oc, od, .func (PySem.W.fnOf "__len__" "Ladder.__len__" (defArgs sLLen) (defBody sLLen) (defScope sLLen) .none kV dc pm an cd ct), sl⟩) (c : PySem.W.codeIn K cd "Ladder.__len__" = true) (k : PySem.W.keepIn K (.ref f) = true) (bo : PySem.W.findIn K (.ref C) "__bool__" = some none) : LLenC K C :=
  { f := f, fd := _, F := fun_mk l c k, b := (fun_mk l c k).binds hb, at_ := a, fn := i, bo := bo }
def mkLEq {K : PySem.W.Frag} {C f : Addr} {oc : Value} {od an : Option Addr} {sl : Array (Option Value)} {kV dc pm cd ct : Value} (hb : ∀ (kV doc pm : Value) (an : Option Addr) (cdv ct : Value) (us : List Value), us.length = 2 → bindArgs (PySem.W.fnOf "__eq__" "Ladder.__eq__" (defArgs sLEq) (defBody sLEq) (defScope sLEq) .none kV doc pm an cdv ct) ⟨us, []⟩ = pure ((["self", "other"] : List Str).zip us))
    (a : PySem.W.findIn K (.ref C) "__eq__" = some (some (.ref f))) (i : PySem.W.isFn K (.ref f) = true)
    (l : K.lookup f = some ⟨oc, od, .func (PySem.W.fnOf "__eq__" "Ladder.__eq__" (defArgs sLEq) (defBody sLEq) (defScope sLEq) .none kV dc pm an cd ct), sl⟩) (c : PySem.W.codeIn K cd "Ladder.__eq__" = true) (k : PySem.W.keepIn K (.ref f) = true)
    (ne : PySem.W.findIn K (.ref C) "__ne__" = some (some (.builtin "object.__ne__"))) (tu : PySem.W.subIn K (.type "tuple") (.ref C) = some false) (st : PySem.W.subIn K (.type "str") (.ref C) = some false) : LEqC K C :=
  { f := f, fd := _, F := fun_mk l c k, b := (fun_mk l c k).binds hb, at_ := a, fn := i, ne := ne, tu := tu, st := st }
section
variable {X : Cx} {L : LadC X.K X.mg}
/-- what stands beside a ladder in == and != -/
def Besid (K : PySem.W.Frag) (C : Addr) (A : Lad) (H : Hp) (y : V) (b : Bool) : Prop :=
  (∃ p B, y = .ref p ∧ Lad.At B K C H p ∧ B.Ok ∧ b = PyData.eqv (toldDB A) (toldDB B)) ∨ (∃ t xs, y = .ref t ∧ SqT K H t xs ∧ b = false) ∨ (∃ s, y = .str s ∧ b = false)
def rLadEq (K : PySem.W.Frag) (C : Addr) : R2 := fun x y H Q => ∃ (a : Addr) (A : Lad) (b : Bool), x = .ref a ∧ A.At K C H a ∧ A.Ok ∧ Besid K C A H y b ∧ Q (.bl b) H
def rLadNe (K : PySem.W.Frag) (C : Addr) : R2 := fun x y H Q => ∃ (a : Addr) (A : Lad) (b : Bool), x = .ref a ∧ A.At K C H a ∧ A.Ok ∧ Besid K C A H y b ∧ Q (.bl (!b)) H
theorem run_leq {C f : Addr} {pins : List (Addr × Obj)} {σ : L2.St} {H : Hp} {s : Shared} {a : Addr} {A : Lad} {y : V} {u : Value} {b : Bool} {B : Around} {fd : FuncData} {j : Nat} (kO : PySem.W.kitOne X.K (.type "tuple") (.ref C) = some false ∧ PySem.W.kitOne X.K (.type "str") (.ref C) = some false)
    (F : FnOk X.prog X.w X.K X.mg X.base CX0 j f fd ["self", "other"] (spLEq X.K C)) (hb : Binds X.K fd ["self", "other"] []) (hr : Room j B) (I : Inv X pins σ H s) (e1 : Env0 X.prog X.w X.K X.mg X.base B X.stack s H)
    (hL : A.At X.K C H a) (g : A.Ok) (hB : Besid X.K C A H y b) (ry : RelV y u) {Q : Value → Shared → Prop} (q : ∀ s', Inv X pins σ H s' → Q (.bool b) s') : wpAny (model X.prog X.w) B (call (.ref f) [.ref a, u]) Q X.xe s := by
  have fn := F.raw hb .nil
  refine wpAny_call (codeAny_mono (fn B X.stack s H [.ref a, u] [.ref a, y] (fun v H' => v = .bl b ∧ H' = H) (fun _ _ _ => False) hr e1 (.cons rfl (.cons ry .nil)) ⟨a, A, y, rfl, hL, g, ?_⟩) fun rr s2 hrr => ?_)
  · rcases hB with ⟨p, Bl, rfl, h1, h2, rfl⟩ | ⟨t, xs, rfl, h1, rfl⟩ | ⟨z, rfl, rfl⟩
    · exact .inl ⟨p, Bl, rfl, h1, h2, rfl, rfl⟩
    · exact .inr ⟨_, tyx_tup h1, kO.1, rfl, rfl⟩
    · exact .inr ⟨_, .base (.str _), kO.2, rfl, rfl⟩
  cases rr with
  | error e => exact False.elim hrr
  | ok fl =>
    cases fl with
    | next => exact False.elim hrr
    | brk => exact False.elim hrr
    | cont => exact False.elim hrr
    | ret v =>
      obtain ⟨v', H', os, bare, un, hok, rv', ev, eH⟩ := (show CE X.stack X.prog X.w H _ _ v s2 from hrr)
      subst ev
      subst eH
      cases rv'
      exact q _ (I.call' os un hok bare (fun b y => absurd y List.not_mem_nil))
/-- the type of what stands beside -/
theorem besid_type {C : Addr} {pins : List (Addr × Obj)} {σ : L2.St} {H : Hp} {s : Shared} {A : Lad} {y : V} {u : Value} {b : Bool} (J : Inv X pins σ H s) (hs : PySem.W.subIn X.K (.type "tuple") (.ref C) = some false ∧ PySem.W.subIn X.K (.type "str") (.ref C) = some false) (hB : Besid X.K C A H y b) (ry : RelV y u) :
    ∃ tb, PySem.W.Looks (model X.prog X.w) s.heap (typeOf u) tb ∧ PySem.W.notFirst X.K C tb = true := by
  rcases hB with ⟨p, Bl, rfl, h1, h2, rfl⟩ | ⟨t, xs, rfl, h1, rfl⟩ | ⟨z, rfl, rfl⟩
  · cases ry
    obtain ⟨dx, _, _, _, _, e, _⟩ := id h1
    obtain ⟨mA, O, _⟩ := ins_get J.hok e
    obtain ⟨od, O, _⟩ := O.look
    exact ⟨_, O.type, by simp [PySem.W.notFirst]⟩
  · cases ry
    obtain ⟨its, r, ⟨o, e, c, n, d⟩, _⟩ := J.tuple h1
    have z : PySem.W.Looks (model X.prog X.w) s.heap (typeOf (.ref t)) o.cls := (PySem.W.Looks.ld e).andThen .now
    rw [c] at z
    exact ⟨_, z, by simp [PySem.W.notFirst, hs.1]⟩
  · obtain ⟨t, rfl⟩ := ry
    exact ⟨_, PySem.W.Looks.of_pure rfl, by simp [PySem.W.notFirst, hs.2]⟩
theorem op_ladEq (I : LadI X.K L.C) (kO : PySem.W.kitOne X.K (.type "tuple") (.ref L.C) = some false ∧ PySem.W.kitOne X.K (.type "str") (.ref L.C) = some false) (R : LEqC X.K L.C) (B : Bt X.mg) (hr : Room 2 X.A) : OpR X (compareOp .Eq) (rLadEq X.K L.C) := by
  intro pins s σ H x y v u Q J rx ry hq
  obtain ⟨a, A, b, rfl, hL, g, hB, q⟩ := hq
  cases rx
  obtain ⟨dx, _, _, _, _, e, _⟩ := id hL
  obtain ⟨mA, O, _⟩ := ins_get J.hok e
  obtain ⟨od, O, _⟩ := O.look
  obtain ⟨m, F⟩ := J.fr
  obtain ⟨tb, l1, l2⟩ := besid_type J ⟨R.tu, R.st⟩ hB ry
  show wpAny (model X.prog X.w) X.A (richCompare .Eq (.ref a) u) (EP X pins σ Q) X.xe s
  refine PySem.W.cmp_K (op := .Eq) (tb := tb) hr.units0 F J.mod.kin O l1 l2 R.at_ R.fn ?_
  exact run_leq kO (ok_leq (P := X.prog) (w := X.w) (base := X.base) L I R B) R.b (hr.mono (by decide)) J J.env0 hL g hB ry fun s' J' => ⟨.bl b, H, J', rfl, q⟩
theorem op_ladNe (I : LadI X.K L.C) (kO : PySem.W.kitOne X.K (.type "tuple") (.ref L.C) = some false ∧ PySem.W.kitOne X.K (.type "str") (.ref L.C) = some false) (R : LEqC X.K L.C) (B : Bt X.mg) (hr : Room 3 X.A) : OpR X (compareOp .NotEq) (rLadNe X.K L.C) := by
  intro pins s σ H x y v u Q J rx ry hq
  obtain ⟨a, A, b, rfl, hL, g, hB, q⟩ := hq
  cases rx
  obtain ⟨dx, _, _, _, _, e, _⟩ := id hL
  obtain ⟨mA, O, _⟩ := ins_get J.hok e
  obtain ⟨od, O, _⟩ := O.look
  obtain ⟨m, F⟩ := J.fr
  obtain ⟨tb, l1, l2⟩ := besid_type J ⟨R.tu, R.st⟩ hB ry
  show wpAny (model X.prog X.w) X.A (richCompare .NotEq (.ref a) u) (EP X pins σ Q) X.xe s
  have hr1 : Room 2 X.A.in1 := hr.in1
  refine PySem.NeK.ne_K (tb := tb) (by have := hr.un; omega) F J.mod.kin O l1 l2 I.i4 R.at_ R.ne R.fn ?_
  have e0 := J.env0
  have e1 : Env0 X.prog X.w X.K X.mg X.base X.A.in1 X.stack s H := e0.in1
  exact run_leq kO (ok_leq (P := X.prog) (w := X.w) (base := X.base) L I R B) R.b (hr1.mono (by decide)) J e1 hL g hB ry fun s' J' => ⟨b, rfl, .bl (!b), H, J', rfl, q⟩
/-- a ladder as a test -/
theorem pt_truthL {e : Expr} {ta : TE} (R : LLenC X.K L.C) (B : Bt X.mg) (hr : Room 2 X.A) (ha : PE X e ta) (he : ∀ whole, isTrue e X.env whole = (do let v ← whole; standAt e.pos; holding [v] (truthy v)) := by intro _; rfl) :
    PT X e (fun σ H Q => ta σ H fun x H' => ∃ (a : Addr) (A : Lad), x = .ref a ∧ A.At X.K L.C H' a ∧ A.us.length ≤ 6 ∧ A.us ≠ [] ∧ Q true H') := by
  refine ⟨fun pins s σ H Q I h => ?_⟩
  refine isTrue_plain (thn (ha.run pins s σ H _ I h) fun v s1 ⟨x, H1, I1, r1, q1⟩ => ?_) (he _)
  obtain ⟨a, A, rfl, hL, h6, hne, q⟩ := q1
  cases r1
  obtain ⟨dx, _, _, _, _, e, _⟩ := id hL
  obtain ⟨mA, O, _⟩ := ins_get I1.hok e
  obtain ⟨od, O, _⟩ := O.look
  obtain ⟨m, F⟩ := I1.fr
  refine PySem.NeK.truthy_KL I1.kIn O R.bo R.at_ R.fn ?_
  have fn := (ok_llen (P := X.prog) (w := X.w) (base := X.base) L R B).raw R.b .nil
  have e0 := I1.env0
  have e1 : Env0 X.prog X.w X.K X.mg X.base X.A.in1 X.stack s1 H1 := e0.in1
  refine wpAny_call (codeAny_mono (fn X.A.in1 X.stack s1 H1 [.ref a] [.ref a] (fun v H' => v = .int A.us.length ∧ H' = H1) (fun _ _ _ => False) hr.in1 e1 (.cons rfl .nil) ⟨a, A, rfl, hL, rfl, rfl⟩) fun rr s2 hrr => ?_)
  cases rr with
  | error e => exact False.elim hrr
  | ok fl =>
    cases fl with
    | next => exact False.elim hrr
    | brk => exact False.elim hrr
    | cont => exact False.elim hrr
    | ret v =>
      obtain ⟨v', H', os, bare, un, hok, rv', ev, eH⟩ := (show CE X.stack X.prog X.w H1 _ _ v s2 from hrr)
      subst ev
      subst eH
      obtain ⟨t, rfl⟩ := rv'
      have el : ((A.us.length : Int) != 0) = true := by
        rw [bne_iff_ne]
        intro z
        exact hne (List.eq_nil_of_length_eq_zero (by omega))
      refine ⟨A.us.length, t, rfl, ⟨by omega, by omega⟩, ?_⟩
      rw [el]
      exact ⟨H', (I1.call' os un hok bare (fun b y => absurd y List.not_mem_nil)).tok _, q⟩
end
end My

namespace My
open PySem PySem.Spec PyProof.Rows L2
/-! ### ladders made, and what they tell -/
theorem kz_linit {K : PySem.W.Frag} {f : Addr} {fd : FuncData} (F : LadD K f fd) : ∃ ds, Vals [V.bl true, V.int 1] ds ∧ Binds K fd ["self", "units", "decimals", "rounding", "carry", "least"] ds :=
  F.binds0 4 (by simp) (by simp) (fun D doc pm an cdv ct us ks h1 h2 => by
    match us, ks, h1, h2 with
    | [_, _, _, _], [_, _], _, _ => exact ⟨_, _, _, _, _, _, rfl, rfl, _, _, _, _, _, _, rfl, rfl, rfl⟩)
theorem made_of {K : PySem.W.Frag} {C : Addr} {H : Hp} {ua : Addr} {us : List (Str × Int)} {d : Nat} {s : Str} {c : Bool} {l : Int} {ws : Addr → List V} {Q : Addr → Hp → Prop} {E : XK} (e : ∀ x, ws x = [.ref x, .ref ua, .int (d : Int), .str s, .bl c, .int l]) (hU : UA K H ua us) (g : Good us d s l)
    (q : ∀ (p : Addr) (H' : Hp), Same H H' → LadAt K C H' p us d s c l → Q p H') : ∀ x dx, H x = none → H dx = none → dx ≠ x → spLInit K C (ws x) (upd (upd H dx (.own x)) x (.ins C dx [])) (fun v H3 => v = V.non ∧ Q x H3) E := by
  intro x dx nx ndx nex
  have s0 : Same H (upd (upd H dx (.own x)) x (.ins C dx [])) := fun b o e => by
    rw [upd_ne (ne_of_none e nx), upd_ne (ne_of_none e ndx)]
    exact e
  refine ⟨x, dx, ua, us, d, s, c, l, e x, upd_same, hU.same s0, g, fun H' t st th b h1 h2 h3 h4 => ⟨rfl, ?_⟩⟩
  have s1 : Same H H' := fun y o e => b y o (s0 y o e) (ne_of_none e nx)
  exact q x H' s1 ⟨dx, ua, t, st, th, h1, hU.same s1, h2, h3, h4⟩
theorem most_of {K : PySem.W.Frag} {H : Hp} {a : Addr} {xs : List V} {te : TE} {σ : L2.St} {Q : VK} {tn : TE} (ha : SqT K H a xs) (h1 : 2 ≤ xs.length) (hte : ∀ Qt : VK, Qt (.ref a) H → te σ H Qt) (hn : ∀ (H : Hp) (Qt : VK), Qt (.int (-1)) H → tn σ H Qt) (hq : ∀ c H1, Same H H1 → H c = none → SqT K H1 c (xs.take (xs.length - 1)) → Q (.ref c) H1) :
    tSl (rSlA K) te tNoPart (tPart tn) σ H Q := by
  have e : HT.sIx xs.length xs.length (some (-1)) = xs.length - 1 := by
    show (if (-1 : Int) < 0 then ((-1 : Int) + (xs.length : Int)).toNat else min (-1 : Int).toNat xs.length) = _
    rw [if_pos (by decide)]
    omega
  have ec : cutV xs none (some (-1)) = xs.take (xs.length - 1) := by
    unfold cutV
    rw [HT.sIx_none, e, List.drop_zero, Nat.sub_zero]
  refine hte _ (hn _ _ ⟨_, rfl, a, xs, rfl, ha, fun z => ?_, fun _ c nc => ?_⟩)
  · exfalso
    have := z.2
    rw [e] at this
    omega
  · refine hq c _ (same_upd nc) nc ?_
    rw [← ec]
    exact SqT.of upd_same
theorem kb_linit5 {K : PySem.W.Frag} {mg : Str → Option Value} (L : LadC K mg) : KBn K L.fd ["self", "units", "decimals", "rounding", "carry", "least"] 1 ["least", "carry", "rounding", "decimals", "units"] (fun us ws => us ++ ws.reverse) (fun us ws => us ++ ws.reverse) := by
  obtain ⟨oc, od, kV, doc, pm, an, cdv, ct, osl, e, _⟩ := L.F.ex
  rw [e]
  refine ⟨fun s us ws _ h1 h2 => ?_, fun h1 h2 => h1.append ?_⟩
  · match us, ws, h1, h2 with
    | [_], [_, _, _, _, _], _, _ => exact .of_eq rfl
  · rename_i vs us zs ws
    have rev : ∀ {a : List V} {b : List Value}, Vals a b → Vals a.reverse b.reverse := fun {a b} h => by
      induction h with
      | nil => exact .nil
      | cons r t ih => rw [List.reverse_cons, List.reverse_cons]; exact ih.append (.cons r .nil)
    exact rev h2
def CodesOk (s : Str) : Prop := ∀ c ∈ s.cps.toList, c < 0x110000
theorem ofs_codes (s : String) : CodesOk (Str.ofString s) := fun c hc => by
  rw [PySem.Str.ofString_eq_toList] at hc
  have hc2 : c ∈ s.toList.map Char.toNat := hc
  obtain ⟨ch, _, rfl⟩ := List.mem_map.mp hc2
  rcases ch.valid with h | ⟨_, h⟩
  · exact Nat.lt_trans h (by decide)
  · exact h
theorem cps_app2 (x y : Str) : (x ++ y).cps.toList = x.cps.toList ++ y.cps.toList := by
  show (x.cps ++ y.cps).toList = _
  rw [Array.toList_append]
theorem CodesOk.app {x y : Str} (h : CodesOk x) (k : CodesOk y) : CodesOk (x ++ y) := fun c hc => by
  rw [cps_app2] at hc
  rcases List.mem_append.mp hc with hc | hc
  · exact h c hc
  · exact k c hc
theorem sort_codes {s : Str} (h : s ∈ sorts) : CodesOk s ∧ s.length ≤ 4 := by
  simp only [sorts, List.mem_cons, List.not_mem_nil, or_false] at h
  rcases h with rfl | rfl | rfl | rfl <;> exact ⟨ofs_codes _, by decide⟩
def lineT (n d : Int) (s : Str) : Str := ((((("Ladder(" ++ Str.ofString (toString n)) ++ " units, ") ++ Str.ofString (toString d)) ++ " decimals, ") ++ s) ++ ")"
theorem line_lad (n d : Nat) (us : List (Str × Int)) (h : us.length = n) (s : Str) : ladW us d s = lineT n d s := by
  unfold ladW lineT
  rw [h]
  refine congrArg (· ++ (")" : Str)) (congrArg (· ++ s) (congrArg (· ++ (" decimals, " : Str)) (congrArg (· ++ Str.ofString (toString (d : Int))) (congrArg (· ++ (" units, " : Str)) (congrArg (· ++ Str.ofString (toString (n : Int))) ?_)))))
  exact str_ext (by rw [cps_app2]; rfl)
theorem line_ok {n d : Nat} (hn : n ≤ 6) (hd : d ≤ 3) {s : Str} (hs : s ∈ sorts) : plainD (.str (lineT n d s)) = true ∧ (lineT n d s).length ≤ 200 := by
  obtain ⟨c1, c2⟩ := sort_codes hs
  have n1 : ((n : Int)).natAbs < 10 ^ 40 := Nat.lt_of_le_of_lt (m := 6) (by omega) (by decide)
  have n2 : ((d : Int)).natAbs < 10 ^ 40 := Nat.lt_of_le_of_lt (m := 6) (by omega) (by decide)
  have t1 : (Str.ofString (toString (n : Int))).length ≤ 41 := by
    rw [PySem.ofString_length]
    exact int_text_length_le10 (a := (n : Int)) (k := 40) (by decide) n1
  have t2 : (Str.ofString (toString (d : Int))).length ≤ 41 := by
    rw [PySem.ofString_length]
    exact int_text_length_le10 (a := (d : Int)) (k := 40) (by decide) n2
  have e1 : ("Ladder(" : Str).length = 7 := rfl
  have e2 : (" units, " : Str).length = 8 := rfl
  have e3 : (" decimals, " : Str).length = 11 := rfl
  have e4 : (")" : Str).length = 1 := rfl
  refine ⟨?_, ?_⟩
  · have h : CodesOk (lineT n d s) := ((((((ofs_codes _).app (ofs_codes _)).app (ofs_codes _)).app (ofs_codes _)).app (ofs_codes _)).app c1).app (ofs_codes _)
    simp only [plainD, List.all_eq_true, decide_eq_true_eq]
    exact fun c hc => h c hc
  · unfold lineT
    simp only [strLen_append]
    omega
def seenD (A : Lad) : PyData := .list [.tuple (unitsDB A.us), .int (A.d : Int), .str A.s, .bool A.c, .int A.l, toldDB A, .int (A.us.length : Int), .str (lineT A.us.length A.d A.s)]
theorem seenD_ok {A : Lad} (g : A.Ok) : plainD (seenD A) = true ∧ (seenD A).depth ≤ 64 ∧ lenB (seenD A) ≤ sizeLine := by
  obtain ⟨u1, u2, u3⟩ := units_okB g.u
  obtain ⟨t1, t2, t3⟩ := told_okB g
  obtain ⟨l1, l2⟩ := line_ok g.u.hi g.d3 g.srt
  obtain ⟨c1, c2⟩ := sort_codes g.srt
  have hd := g.d3
  have h1 := g.l1
  have h2 := g.l2
  have h3 := g.u.hi
  refine ⟨?_, ?_, ?_⟩
  · have hs : plainD (.str A.s) = true := by
      simp only [plainD, List.all_eq_true, decide_eq_true_eq]
      exact fun c hc => c1 c hc
    unfold seenD
    simp only [plainDs, plainD, Bool.and_eq_true, Bool.and_true, decide_eq_true_eq] at hs l1 t1 ⊢
    exact ⟨u1, by omega, hs, trivial, by omega, t1, by omega, l1⟩
  · unfold seenD
    simp only [PyData.depth, PyData.depthAll]
    omega
  · unfold seenD
    simp only [lenB, lenBs]
    exact Nat.le_trans (m := 100000) (by omega) (by decide)
/-! unlike parts -/
theorem eqv_tup {xs ys : List PyData} : PyData.eqv (.tuple xs) (.tuple ys) = PyData.eqvAll xs ys := by rw [PyData.eqv]
theorem eqv_c {A B : Lad} (h : A.c ≠ B.c) : PyData.eqv (toldDB A) (toldDB B) = false := by
  unfold toldDB
  have e : PyData.eqv (.bool A.c) (.bool B.c) = false := by
    cases ha : A.c <;> cases hb : B.c
    · exact absurd (ha.trans hb.symm) h
    · decide
    · decide
    · exact absurd (ha.trans hb.symm) h
  simp only [PyData.eqv, PyData.eqvAll] at e ⊢
  simp [e]
theorem eqv_l {A B : Lad} (h : A.l ≠ B.l) : PyData.eqv (toldDB A) (toldDB B) = false := by
  unfold toldDB
  simp only [PyData.eqv, PyData.eqvAll]
  simp [h]
theorem eqv_s {A B : Lad} (h : A.s ≠ B.s) : PyData.eqv (toldDB A) (toldDB B) = false := by
  unfold toldDB
  simp only [PyData.eqv, PyData.eqvAll]
  simp [h]
theorem eqv_u {A B : Lad} (h : A.us.length ≠ B.us.length) : PyData.eqv (toldDB A) (toldDB B) = false := by
  have e : PyData.eqvAll (unitsDB A.us) (unitsDB B.us) = false := by
    rw [← PySem.SeqAt.eqvAll_eq]
    have : ((unitsDB A.us).length == (unitsDB B.us).length) = false := by
      unfold unitsDB
      rw [List.length_map, List.length_map]
      exact beq_eq_false_iff_ne.mpr h
    rw [this, Bool.and_false]
  unfold toldDB
  simp only [PyData.eqv, PyData.eqvAll] at e ⊢
  simp [e]
/-! ### the law -/
def otherS (s : Str) : Str := if s = "down" then "up" else "down"
abbrev sRight : Stmt := top 34
abbrev nRight : List Str := ["_law_spring_here", "_law_again", "_law_told_here", "_law_a", "_law_b", "_law_c", "_law_d", "_law_e", "_law_made_here", "_law_line", "_law_seen_here", "_law_others", "_law_other_here"]
theorem scRight : FnScope nRight ["_law_spring_here"] (defScope sRight) := ⟨rfl, rfl, rfl, by decide +kernel, rfl, by decide +kernel, by decide +kernel⟩
section
variable {P : Program} {w : World} {K : PySem.W.Frag} {mg : Str → Option Value} {base : Heap}
theorem ok_right (d : Dd K mg "_law_right" sRight ["_law_spring_here"]) (dG : Dd K mg "_law_gulp" sGulp ["_law_spring_here", "_law_many"]) (dT : Dd K mg "_law_told" sTold ["_law_spring_here", "_law_small"]) (dM : Dd K mg "_law_made" sMade ["_law_told_here"])
    (L : LadC K mg) (I : LadI K L.C) (LD : LadD K L.f L.fd) (LL : LLenC K L.C) (RE : LEqC K L.C) (RR : RprC K L.C) (kO : PySem.W.kitOne K (.type "tuple") (.ref L.C) = some false ∧ PySem.W.kitOne K (.type "str") (.ref L.C) = some false) (B0 : Bt mg) (bRepr : mg "repr" = none) (bAny : mg "any" = none)
    (GI : FnOk P w K mg base CX0 5 L.f L.fd ["self", "units", "decimals", "rounding", "carry", "least"] (spLInit K L.C)) (GT : FnOk P w K mg base CX0 4 dT.f dT.fd ["_law_spring_here", "_law_small"] (spTold K)) (GM : FnOk P w K mg base CX0 7 dM.f dM.fd ["_law_told_here"] (spMade K L.C)) :
    FnG P w K mg base 10 d.f d.fd ["_law_spring_here"] spRight := by
  have G : FnOk P w K mg base CX0 2 dG.f dG.fd ["_law_spring_here", "_law_many"] spGulp := ok_gulp dG.F B0
  obtain ⟨dz, KZ⟩ := kz_linit LD
  refine Fun_okG d.F scRight (fun vs H Q E h => ?_) (fun cdv A0 outer s0 H vs Q E gd hr h => ?_)
  · obtain ⟨_, rfl, _⟩ := h
    rfl
  · obtain ⟨a, rfl, hS, q⟩ := h
    have nd := scRight.nd
    have hr2 : Room 2 _ := hr.mono (by decide)
    have hr3 : Room 3 _ := hr.mono (by decide)
    have hr4 : Room 4 _ := hr.mono (by decide)
    have hr6 : Room 6 _ := hr.mono (by decide)
    have hr7 : Room 7 _ := hr.mono (by decide)
    have hu : (A0.deeper (envOfC "_law_right" (defScope sRight) s0.heap.objs.size d.f cdv)).units + 64 < cLine := by have := hr.un; omega
    have hu66 : (A0.deeper (envOfC "_law_right" (defScope sRight) s0.heap.objs.size d.f cdv)).units + 66 < cLine := by have := hr.un; omega
    have RLx : RepL ((cxOf CX0 P w K mg base nRight "_law_right" (defScope sRight) d.f cdv A0 outer s0 H E).nox) L.C ladW 1 := repL (X := (cxOf CX0 P w K mg base nRight "_law_right" (defScope sRight) d.f cdv A0 outer s0 H E).nox) L RR B0
    refine ⟨_, (Evl.pss_cut (ps_for PassesOwn.never rfl (pi_range1 (by rfl) B0.range (pa_cons pe_int pa_nil)) (pg_name (i := 1) nd rfl (Or.inl rfl))
  (Evl.pss_cut (ps_set (i := 2) nd rfl (.inl rfl) (pe_call GT hr4 (by rfl) dT.g dT.F.kp dT.b .nil pass0 (pa_cons (pv 0) (pa_cons (pe_cmpR op_eq (pe_call G hr2 (by rfl) dG.g dG.F.kp dG.b .nil pass0 (pa_cons (pv 0) (pa_cons pe_int pa_nil))) pe_int (nomark _)) pa_nil))))
  (Evl.pss_cut (ps_asg (pv 2) (pg_tup rfl (pgs_cons (pg_name (i := 3) nd rfl (Or.inl rfl)) (pgs_cons (pg_name (i := 4) nd rfl (Or.inl rfl)) (pgs_cons (pg_name (i := 5) nd rfl (Or.inl rfl)) (pgs_cons (pg_name (i := 6) nd rfl (Or.inl rfl)) (pgs_cons (pg_name (i := 7) nd rfl (Or.inl rfl)) pgs_nil)))))))
  (Evl.pss_cut (ps_set (i := 8) nd rfl (.inr rfl) (pe_makeK0 L.M GI hr6 (by rfl) L.g (kb_linit5 L) pass0 (pk_cons (pv 7) (pk_cons (pv 6) (pk_cons (pv 5) (pk_cons (pv 4) (pk_cons (pv 3) pk_nil)))))))
  (Evl.pss_cut (ps_set (i := 9) nd rfl (.inl rfl) (pe_op op_add_str (pe_op op_add_str (pe_op op_add_str (pe_op op_add_str (pe_op op_add_str (pe_op op_add_str pe_str (pe_callTy call_str_int (by rfl) B0.str (by decide +kernel) (pa_cons (pe_callB call_len_seq (by rfl) B0.len PySem.boot_len (pa_cons (pv 3) pa_nil)) pa_nil))) pe_str) (pe_callTy call_str_int (by rfl) B0.str (by decide +kernel) (pa_cons (pv 4) pa_nil))) pe_str) (pv 5)) pe_str))
  (Evl.pss_cut (ps_set (i := 10) nd rfl (.inl rfl) (pe_lst (pa_cons (pe_fld (pv 8) rfl) (pa_cons (pe_fld (pv 8) rfl) (pa_cons (pe_fld (pv 8) rfl) (pa_cons (pe_fld (pv 8) rfl) (pa_cons (pe_fld (pv 8) rfl) (pa_cons (pe_fld (pv 8) rfl) (pa_cons (pe_callB (call_lenL LL B0 hr2) (by rfl) B0.len PySem.boot_len (pa_cons (pv 8) pa_nil)) (pa_cons (pe_callB (call_reprL RLx hr3) (by rfl) bRepr (by decide +kernel) (pa_cons (pv 8) pa_nil)) pa_nil))))))))))
  (Evl.pss_cut (ps_if (pt_cmpR op_ne (pe_callB (call_reprA gd hu66) (by rfl) bRepr (by decide +kernel) (pa_cons (pv 10) pa_nil)) (pe_callB (call_reprA gd hu66) (by rfl) bRepr (by decide +kernel) (pa_cons (pe_lst (pa_cons (pv 3) (pa_cons (pv 4) (pa_cons (pv 5) (pa_cons (pv 6) (pa_cons (pv 7) (pa_cons (pv 2) (pa_cons (pe_callB call_len_seq (by rfl) B0.len PySem.boot_len (pa_cons (pv 3) pa_nil)) (pa_cons (pv 9) pa_nil))))))))) pa_nil)) (nomark _)) (pss_one (ps_ret pe_bl)) pss_nil)
  (Evl.pss_cut (ps_if (PW.pt (pw_or (pt_cmpR (r := rLadNe K L.C) (op_ladNe I kO RE B0 hr3) (pv 8) (pe_call GM hr7 (by rfl) dM.g dM.F.kp dM.b .nil pass0 (pa_cons (pv 2) pa_nil)) (by rfl)) (pw_or (pt_cmpR (r := rLadEq K L.C) (op_ladEq I kO RE B0 hr2) (pv 8) (pv 2) (by rfl)) (pw_or (pt_cmpR (r := rLadEq K L.C) (op_ladEq I kO RE B0 hr2) (pv 8) (pv 9) (by rfl)) (pw_or1 (pt_not (pt_truthL LL B0 hr2 (pv 8)))))))) (pss_one (ps_ret pe_bl)) pss_nil)
  (Evl.pss_cut (ps_set (i := 11) nd rfl (.inl rfl) (pe_lst (pa_cons (pe_tup (pa_cons (pv 3) (pa_cons (pv 4) (pa_cons (pv 5) (pa_cons (pe_not (pv 6)) (pa_cons (pv 7) pa_nil)))))) (pa_cons (pe_tup (pa_cons (pv 3) (pa_cons (pv 4) (pa_cons (pv 5) (pa_cons (pv 6) (pa_cons (pe_op op_add (pv 7) pe_int) pa_nil)))))) (pa_cons (pe_tup (pa_cons (pv 3) (pa_cons (pv 4) (pa_cons (pe_ifExp (pt_cmpR op_ne (pv 5) pe_str (nomark _)) pe_str pe_str) (pa_cons (pv 6) (pa_cons (pv 7) pa_nil)))))) pa_nil)))))
  (Evl.pss_cut (ps_if (PW.pt (pw_or (pt_val (pe_callB (r := rAny K) (cr_any rfl) (by rfl) bAny (by decide +kernel) (pa_cons (pe_lc (own := [("_law_other_here", 12)]) (g := gName 12) (tt := tYes) rfl nd (pi_list (pv 11)) (blkOk_by (own := [("_law_other_here", 12)]) (N := nRight) (sc := defScope sRight) (by decide +kernel)) (fun _ _ _ _ _ => pg_name (i := 12) nd rfl (Or.inl rfl)) (fun _ _ _ _ _ => pts_nil) (fun _ _ _ _ _ => (pe_cmpR (r := rLadEq K L.C) (op_ladEq I kO RE B0 hr2) (pv 8) (pe_call GM hr7 (by rfl) dM.g dM.F.kp dM.b .nil pass0 (pa_cons (pv 12) pa_nil)) (by rfl)))) pa_nil))) (pw_or1 (pt_cmpR (r := rNeD K) (op_neD hu) (pe_fld (pe_make L.M GI hr6 (by rfl) L.g KZ.2 KZ.1 pass0 (pa_cons (pv 3) (pa_cons (pv 4) (pa_cons (pv 5) pa_nil)))) rfl) (pe_tup (pa_cons (pv 3) (pa_cons (pv 4) (pa_cons (pv 5) (pa_cons pe_bl (pa_cons pe_int pa_nil)))))) (by rfl))))) (pss_one (ps_ret pe_bl)) pss_nil)
  (pss_one (ps_if (PW.pt (pw_and (pt_cmpR op_gt (pe_callB call_len_seq (by rfl) B0.len PySem.boot_len (pa_cons (pv 3) pa_nil)) pe_int (nomark _)) (pw_and1 (pt_cmpR (r := rLadEq K L.C) (op_ladEq I kO RE B0 hr2) (pv 8) (pe_call GM hr7 (by rfl) dM.g dM.F.kp dM.b .nil pass0 (pa_cons (pe_tup (pa_cons (pe_slice sl_tupA (pv 3) po_none (po_some (pe_un un_neg pe_int))) (pa_cons (pv 4) (pa_cons (pv 5) (pa_cons (pv 6) (pa_cons (pv 7) pa_nil)))))) pa_nil)) (by rfl))))) (pss_one (ps_ret pe_bl)) pss_nil))))))))))))
  (pss_one (ps_ret pe_bl))), ?_⟩
    refine ⟨fun σ' H' => But a H H', ?_, fun σ' H' b => ?_⟩
    · refine ⟨6, rfl, by decide, by decide, for_range (lo := 0) (n := 6) (fun i σ H' => (∃ v1 v2 v3 v4 v5 v6 v7 v8 v9 v10 v11, σ = [some (.ref a), v1, v2, v3, v4, v5, v6, v7, v8, v9, v10, v11, none]) ∧ But a H H' ∧ Spr H' a) ⟨⟨_, _, _, _, _, _, _, _, _, _, _, rfl⟩, But.refl _ _, hS⟩ ?_ (fun σ H' h => h.2.1)⟩
      rintro i σ H1 hi ⟨⟨v1, v2, v3, v4, v5, v6, v7, v8, v9, v10, v11, rfl⟩, b1, s1⟩
      have st0 : ∀ (x2 x3 x4 x5 x6 x7 x8 x9 x10 x11 : Option V), L2.St := fun x2 x3 x4 x5 x6 x7 x8 x9 x10 x11 => [some (.ref a), some (.int (0 + (i : Int))), x2, x3, x4, x5, x6, x7, x8, x9, x10, x11, none]
      clear st0
      -- the parts
      refine ⟨fun σ' H' => ∃ (r : Addr) (A : Lad), σ' = [some (.ref a), some (.int (0 + (i : Int))), some (.ref r), v3, v4, v5, v6, v7, v8, v9, v10, v11, none] ∧ But a H H' ∧ Spr H' a ∧ ToldAt K H' r A.us A.d A.s A.c A.l ∧ A.Ok ∧ A.l ≤ 100, ?_, ?_⟩
      · refine ⟨_, rfl, _, rfl, a, 2, rfl, s1, by decide, by decide, fun k H2 k0 k1 s2 b2 => ⟨rfl, a, _, rfl, s2, fun r us dn z c l H3 b3 s3 hT g hone hl => ?_⟩⟩
        exact ⟨r, ⟨us, dn, z, c, l⟩, rfl, (b1.trans b2).trans b3, s3, hT, g, hl⟩
      clear b1 s1
      rintro σ' H2 ⟨r, A, rfl, b2, s2, hT, g, hl⟩
      obtain ⟨ua, hr0, hU⟩ := hT
      -- apart
      refine ⟨fun σ' H' => H2 = H' ∧ σ' = [some (.ref a), some (.int (0 + (i : Int))), some (.ref r), some (.ref ua), some (.int (A.d : Int)), some (.str A.s), some (.bl A.c), some (.int A.l), v8, v9, v10, v11, none], ?_, ?_⟩
      · exact ⟨_, rfl, r, _, rfl, hr0, rfl, _, _, rfl, _, _, rfl, _, _, rfl, _, _, rfl, _, _, rfl, rfl, rfl, rfl⟩
      rintro σ' H' ⟨rfl, rfl⟩
      -- the ladder
      refine ⟨fun σ' H' => ∃ p : Addr, Same H2 H' ∧ A.At K L.C H' p ∧ σ' = [some (.ref a), some (.int (0 + (i : Int))), some (.ref r), some (.ref ua), some (.int (A.d : Int)), some (.str A.s), some (.bl A.c), some (.int A.l), some (.ref p), v9, v10, v11, none], ?_, ?_⟩
      · refine ⟨_, rfl, _, rfl, _, rfl, _, rfl, _, rfl, rfl, rfl, made_of (fun _ => rfl) hU g fun p H4 s4 hL => ?_⟩
        exact ⟨p, s4, hL, rfl⟩
      rintro σ' H3 ⟨p, s3, hL, rfl⟩
      obtain ⟨ps, hua, hup⟩ := id hU
      have el := UP.len hup
      have h6 : A.us.length ≤ 6 := g.u.hi
      have hd3 : A.d ≤ 3 := g.d3
      obtain ⟨lo1, lo2⟩ := line_ok h6 hd3 g.srt
      -- the line
      refine ⟨fun σ' H' => Same H2 H' ∧ A.At K L.C H' p ∧ σ' = [some (.ref a), some (.int (0 + (i : Int))), some (.ref r), some (.ref ua), some (.int (A.d : Int)), some (.str A.s), some (.bl A.c), some (.int A.l), some (.ref p), some (.str (lineT A.us.length A.d A.s)), v10, v11, none], ?_, ?_⟩
      · have fit : ∀ {n : Nat}, n ≤ 1000 → n ≤ sizeLine := fun h => Nat.le_trans h (by decide)
        have n1 : ((A.us.length : Int)).natAbs.log2 < 1920 := by
          have p := plain_show (.int (A.us.length : Int)) (by simp only [plainD]; exact decide_eq_true (Nat.lt_of_le_of_lt (m := 6) (by omega) (by decide)))
          simp only [PyData.showable] at p
          exact of_decide_eq_true p
        have n2 : ((A.d : Int)).natAbs.log2 < 1920 := by
          have p := plain_show (.int (A.d : Int)) (by simp only [plainD]; exact decide_eq_true (Nat.lt_of_le_of_lt (m := 6) (by omega) (by decide)))
          simp only [PyData.showable] at p
          exact of_decide_eq_true p
        unfold lineT at lo2
        simp only [strLen_append] at lo2
        refine ⟨_, rfl, ua, _, rfl, .inr (same_sqt s3 hua), ?_⟩
        rw [List.length_map, el]
        exact ⟨_, rfl, n1, _, _, rfl, rfl, fit (by omega), _, _, rfl, rfl, fit (by simp only [strLen_append]; omega), _, rfl, _, rfl, n2, _, _, rfl, rfl, fit (by simp only [strLen_append]; omega), _, _, rfl, rfl, fit (by simp only [strLen_append]; omega), _, rfl, _, _, rfl, rfl, fit (by simp only [strLen_append]; omega), _, _, rfl, rfl, fit (by simp only [strLen_append]; omega), s3, hL, rfl⟩
      rintro σ' H4 ⟨s4, hL4, rfl⟩
      clear hL
      obtain ⟨w1, w2, w3⟩ := seenD_ok g
      obtain ⟨dx, ua2, t, st, th, hp, hU2, hT2, hS2⟩ := id hL4
      have hTo : Dp K H4 (.ref t) (toldDB A) := told_dpB ⟨ua2, hT2, hU2⟩
      -- what it tells
      refine ⟨fun σ' H' => ∃ D, Same H2 H' ∧ A.At K L.C H' p ∧ Same H4 H' ∧ SqL K H' D [.ref ua2, .int (A.d : Int), .str A.s, .bl A.c, .int A.l, .ref t, .int (A.us.length : Int), .str (ladW A.us A.d A.s)] ∧ σ' = [some (.ref a), some (.int (0 + (i : Int))), some (.ref r), some (.ref ua), some (.int (A.d : Int)), some (.str A.s), some (.bl A.c), some (.int A.l), some (.ref p), some (.str (lineT A.us.length A.d A.s)), some (.ref D), v11, none], ?_, ?_⟩
      · refine ⟨_, rfl, p, L.C, dx, _, _, rfl, hp, L.cl, L.nUnits, fl_units .., _, rfl, p, L.C, dx, _, _, rfl, hp, L.cl, L.nDec, fl_dec .., _, rfl, p, L.C, dx, _, _, rfl, hp, L.cl, L.nRnd, fl_rnd .., ?_⟩
        refine ⟨_, rfl, p, L.C, dx, _, _, rfl, hp, L.cl, L.nCarry, fl_carry .., _, rfl, p, L.C, dx, _, _, rfl, hp, L.cl, L.nLeast, fl_least .., _, rfl, p, L.C, dx, _, _, rfl, hp, L.cl, L.nTold, fl_told .., ?_⟩
        refine ⟨_, rfl, p, A, rfl, hL4, h6, _, rfl, p, A.us, A.d, A.s, A.c, A.l, rfl, hL4, g, by show 8 ≤ sizeLine; decide, fun D nD => ?_⟩
        have sD := same_upd nD (o := .lst [.ref ua2, .int (A.d : Int), .str A.s, .bl A.c, .int A.l, .ref t, .int (A.us.length : Int), .str (ladW A.us A.d A.s)])
        exact ⟨D, s4.trans sD, LadAt.same sD hL4, sD, SqL.of upd_same, rfl⟩
      rintro σ' H5 ⟨D, s5, hL5, s45, hD, rfl⟩
      have hr5 := same_sqt s5 hr0
      have hU5 := hU.same s5
      have hT5 : ToldAt K H5 r A.us A.d A.s A.c A.l := ⟨ua, hr5, hU5⟩
      obtain ⟨ps5, hua5, hup5⟩ := id hU5
      -- all that is told
      refine ⟨fun σ' H' => Same H5 H' ∧ σ' = [some (.ref a), some (.int (0 + (i : Int))), some (.ref r), some (.ref ua), some (.int (A.d : Int)), some (.str A.s), some (.bl A.c), some (.int A.l), some (.ref p), some (.str (lineT A.us.length A.d A.s)), some (.ref D), v11, none], ?_, ?_⟩
      · obtain ⟨ps2, hua2, hup2⟩ := hU2.same s45
        refine ⟨_, rfl, _, seenD A, rfl, .lst hD (.cons (.tup hua2 (units_dpB hup2)) (.cons (.int _) (.cons (.str _) (.cons (.bl _) (.cons (.int _) (.cons (told_dpB ⟨ua2, same_sqt s45 hT2, ⟨ps2, hua2, hup2⟩⟩) (.cons (.int _) (.cons ?_ .nil)))))))), w1, w2, w3, ?_⟩
        · rw [line_lad A.us.length A.d A.us rfl A.s]
          exact .str _
        refine ⟨_, rfl, _, rfl, _, rfl, _, rfl, _, rfl, _, rfl, _, rfl, ua, _, rfl, .inr hua5, _, rfl, ?_⟩
        rw [List.length_map, UP.len hup5]
        refine ⟨by show 8 ≤ sizeLine; decide, fun D2 nD2 => ?_⟩
        have s6 := same_upd nD2 (o := .lst [.ref ua, .int (A.d : Int), .str A.s, .bl A.c, .int A.l, .ref r, .int (A.us.length : Int), .str (lineT A.us.length A.d A.s)])
        obtain ⟨ps6, hua6, hup6⟩ := hU5.same s6
        refine ⟨_, seenD A, rfl, .lst (SqL.of upd_same) (.cons (.tup hua6 (units_dpB hup6)) (.cons (.int _) (.cons (.str _) (.cons (.bl _) (.cons (.int _) (.cons (told_dpB ⟨ua, same_sqt s6 hr5, hU5.same s6⟩) (.cons (.int _) (.cons (.str _) .nil)))))))), w1, w2, w3, ?_⟩
        generalize (seenD A).shown = tx
        refine ⟨rfl, _, rfl, ?_⟩
        rw [decide_eq_true (rfl : V.str tx = V.str tx)]
        exact iteF ⟨s6, rfl⟩
      rintro σ' H6 ⟨s56, rfl⟩
      have hne : A.us ≠ [] := fun e => by
        have := g.u.lo
        rw [e] at this
        exact absurd this (by decide)
      -- beside others
      refine ⟨fun σ' H' => Same H6 H' ∧ σ' = [some (.ref a), some (.int (0 + (i : Int))), some (.ref r), some (.ref ua), some (.int (A.d : Int)), some (.str A.s), some (.bl A.c), some (.int A.l), some (.ref p), some (.str (lineT A.us.length A.d A.s)), some (.ref D), v11, none], ?_, ?_⟩
      · have hL6 := LadAt.same s56 hL5
        have hT6 := hT5.same s56
        refine ⟨_, rfl, _, rfl, r, A.us, A.d, A.s, A.c, A.l, rfl, hT6, g, fun p2 H7 s7 hL7 => ?_⟩
        refine ⟨p, A, true, rfl, LadAt.same s7 hL6, g, .inl ⟨p2, A, rfl, hL7, g, (told_shapedB g).2.symm⟩, _, rfl, iteE rfl ?_⟩
        refine ⟨_, rfl, _, rfl, p, A, false, rfl, LadAt.same s7 hL6, g, .inr (.inl ⟨r, _, rfl, same_sqt (s56.trans s7) hr5, rfl⟩), _, rfl, iteE rfl ?_⟩
        refine ⟨_, rfl, _, rfl, p, A, false, rfl, LadAt.same s7 hL6, g, .inr (.inr ⟨_, rfl, rfl⟩), _, rfl, iteE rfl ?_⟩
        exact ⟨_, rfl, p, A, rfl, LadAt.same s7 hL6, h6, hne, iteE rfl ⟨s7, rfl⟩⟩
      rintro σ' H7 ⟨s67, rfl⟩
      have s07 := (s5.trans s56).trans s67
      have hL7 := LadAt.same (s56.trans s67) hL5
      -- others
      refine ⟨fun σ' H' => ∃ (DO t1 t2 t3 : Addr), Same H7 H' ∧ SqL K H' DO [.ref t1, .ref t2, .ref t3] ∧ ToldAt K H' t1 A.us A.d A.s (!A.c) A.l ∧ ToldAt K H' t2 A.us A.d A.s A.c (A.l + 1) ∧ ToldAt K H' t3 A.us A.d (otherS A.s) A.c A.l ∧ σ' = [some (.ref a), some (.int (0 + (i : Int))), some (.ref r), some (.ref ua), some (.int (A.d : Int)), some (.str A.s), some (.bl A.c), some (.int A.l), some (.ref p), some (.str (lineT A.us.length A.d A.s)), some (.ref D), some (.ref DO), none], ?_, ?_⟩
      · have hU7 := hU.same s07
        refine ⟨_, rfl, _, rfl, _, rfl, _, rfl, _, rfl, _, rfl, by show 5 ≤ sizeLine; decide, fun t1 n1 => ?_⟩
        have e1 := same_upd n1 (o := .tup [.ref ua, .int (A.d : Int), .str A.s, .bl (!A.c), .int A.l])
        refine ⟨_, rfl, _, rfl, _, rfl, _, rfl, _, rfl, _, _, rfl, rfl, by show 5 ≤ sizeLine; decide, fun t2 n2 => ?_⟩
        have e2 := same_upd n2 (o := .tup [.ref ua, .int (A.d : Int), .str A.s, .bl A.c, .int (A.l + 1)])
        by_cases hd : A.s = "down"
        · refine ⟨_, rfl, _, rfl, _, rfl, rfl, _, rfl, iteE (by rw [hd]; decide +kernel) ?_⟩
          refine ⟨_, rfl, _, rfl, by show 5 ≤ sizeLine; decide, fun t3 n3 => ?_⟩
          have e3 := same_upd n3 (o := .tup [.ref ua, .int (A.d : Int), .str "up", .bl A.c, .int A.l])
          refine ⟨by show 3 ≤ sizeLine; decide, fun DO nDO => ?_⟩
          have e4 := same_upd nDO (o := .lst [.ref t1, .ref t2, .ref t3])
          have e14 := ((e1.trans e2).trans e3).trans e4
          refine ⟨DO, t1, t2, t3, e14, SqL.of upd_same, ⟨ua, same_sqt ((e2.trans e3).trans e4) (SqT.of upd_same), hU7.same e14⟩, ⟨ua, same_sqt (e3.trans e4) (SqT.of upd_same), hU7.same e14⟩, ⟨ua, ?_, hU7.same e14⟩, rfl⟩
          rw [show otherS A.s = "up" from if_pos hd]
          exact same_sqt e4 (SqT.of upd_same)
        · refine ⟨_, rfl, _, rfl, _, rfl, rfl, _, rfl, iteB (by rw [decide_eq_false (fun e => hd (V.str.inj e))]; rfl) ?_⟩
          refine ⟨_, rfl, _, rfl, by show 5 ≤ sizeLine; decide, fun t3 n3 => ?_⟩
          have e3 := same_upd n3 (o := .tup [.ref ua, .int (A.d : Int), .str "down", .bl A.c, .int A.l])
          refine ⟨by show 3 ≤ sizeLine; decide, fun DO nDO => ?_⟩
          have e4 := same_upd nDO (o := .lst [.ref t1, .ref t2, .ref t3])
          have e14 := ((e1.trans e2).trans e3).trans e4
          refine ⟨DO, t1, t2, t3, e14, SqL.of upd_same, ⟨ua, same_sqt ((e2.trans e3).trans e4) (SqT.of upd_same), hU7.same e14⟩, ⟨ua, same_sqt (e3.trans e4) (SqT.of upd_same), hU7.same e14⟩, ⟨ua, ?_, hU7.same e14⟩, rfl⟩
          rw [show otherS A.s = "down" from if_neg hd]
          exact same_sqt e4 (SqT.of upd_same)
      rintro σ' H8 ⟨DO, t1, t2, t3, s8, hDO, hT1, hT2', hT3, rfl⟩
      have gc : Good A.us A.d A.s A.l := g
      have gl : Good A.us A.d A.s (A.l + 1) := ⟨g.u, g.d3, g.div, g.srt, by have := g.l1; omega, by omega⟩
      have hso : otherS A.s ∈ sorts ∧ A.s ≠ otherS A.s := by
        unfold otherS
        by_cases hd : A.s = "down"
        · rw [if_pos hd, hd]
          exact ⟨by unfold sorts; simp, by decide +kernel⟩
        · rw [if_neg hd]
          exact ⟨by unfold sorts; simp, hd⟩
      have gs : Good A.us A.d (otherS A.s) A.l := ⟨g.u, g.d3, g.div, hso.1, g.l1, g.l2⟩
      have hU8 := hU.same (s07.trans s8)
      have hL8 := LadAt.same s8 hL7
      -- none of them is the same
      refine ⟨fun σ' H' => Same H8 H' ∧ σ' = [some (.ref a), some (.int (0 + (i : Int))), some (.ref r), some (.ref ua), some (.int (A.d : Int)), some (.str A.s), some (.bl A.c), some (.int A.l), some (.ref p), some (.str (lineT A.us.length A.d A.s)), some (.ref D), some (.ref DO), none], ?_, ?_⟩
      · refine ⟨_, rfl, DO, rfl, ⟨_, hDO⟩, fun DB nDB => ?_⟩
        refine lc_list (K := K) (a := DO) (xs := [.ref t1, .ref t2, .ref t3]) (fun j H' => Same H8 H' ∧ H' DB = some (.lst ((List.replicate j false).map V.bl))) ⟨same_upd nDB, upd_same⟩ (fun j H' _ h => h.1.seq hDO) ?_ ?_
        · rintro j x H9 hj ⟨sm, hDB⟩
          have each : ∃ (tj : Addr) (Bj : Lad), x = .ref tj ∧ ToldAt K H8 tj Bj.us Bj.d Bj.s Bj.c Bj.l ∧ Bj.Ok ∧ PyData.eqv (toldDB A) (toldDB Bj) = false := by
            match j, hj with
            | 0, hj => cases hj; exact ⟨t1, ⟨A.us, A.d, A.s, !A.c, A.l⟩, rfl, hT1, gc, eqv_c (by show A.c ≠ !A.c; cases A.c <;> decide)⟩
            | 1, hj => cases hj; exact ⟨t2, ⟨A.us, A.d, A.s, A.c, A.l + 1⟩, rfl, hT2', gl, eqv_l (by show A.l ≠ A.l + 1; omega)⟩
            | 2, hj => cases hj; exact ⟨t3, ⟨A.us, A.d, otherS A.s, A.c, A.l⟩, rfl, hT3, gs, eqv_s hso.2⟩
          have hj3 : j < 3 := by
            have := (List.getElem?_eq_some_iff.mp hj).1
            exact this
          obtain ⟨tj, Bj, rfl, hTj, gj, ej⟩ := each
          refine ⟨rfl, _, rfl, _, rfl, tj, Bj.us, Bj.d, Bj.s, Bj.c, Bj.l, rfl, hTj.same sm, gj, fun pj H10 s10 hLj => ?_⟩
          have hDB10 := s10 _ _ hDB
          refine ⟨p, A, false, rfl, LadAt.same (sm.trans s10) hL8, g, .inl ⟨pj, Bj, rfl, hLj, gj, ej.symm⟩, _, hDB10, ?_, fun b o e => ?_, ?_⟩
          · rw [List.length_map, List.length_replicate]
            exact Nat.lt_of_lt_of_le hj3 (by decide)
          · rw [upd_ne (ne_of_none e nDB)]
            exact s10 _ _ (sm _ _ e)
          · rw [upd_same, List.replicate_succ', List.map_append]
            rfl
        · rintro H9 ⟨s9, hDB⟩
          refine ⟨DB, _, rfl, SqL.of hDB, _, rfl, iteE (show (List.replicate 3 false).any id = false by decide) ?_⟩
          have hU9 := hU8.same s9
          refine ⟨_, rfl, _, rfl, _, rfl, made_of (fun _ => rfl) hU9 (s := A.s) (d := A.d) (c := true) (l := 1) ⟨g.u, g.d3, g.div, g.srt, by decide, by decide⟩ fun p2 H10 s10 hL10 => ?_⟩
          obtain ⟨dx3, ua3, t3', st3, th3, hp3, hU3, hTo3, _⟩ := id hL10
          have td3 : Dp K H10 (.ref t3') (toldDB ⟨A.us, A.d, A.s, true, 1⟩) := told_dpB ⟨ua3, hTo3, hU3⟩
          have g1 : Lad.Ok ⟨A.us, A.d, A.s, true, 1⟩ := ⟨g.u, g.d3, g.div, g.srt, by show (1 : Int) ≤ 1; decide, by show (1 : Int) ≤ 1000; decide⟩
          obtain ⟨z1, z2⟩ := told_shapedB g1
          refine ⟨p2, L.C, dx3, _, _, rfl, hp3, L.cl, L.nTold, fl_told .., ?_⟩
          refine ⟨_, rfl, _, rfl, _, rfl, by show 5 ≤ sizeLine; decide, fun t4 n4 => ?_⟩
          have e4 := same_upd n4 (o := .tup [.ref ua, .int (A.d : Int), .str A.s, .bl true, .int 1])
          have td4 : Dp K (upd H10 t4 (.tup [.ref ua, .int (A.d : Int), .str A.s, .bl true, .int 1])) (.ref t4) (toldDB ⟨A.us, A.d, A.s, true, 1⟩) := told_dpB ⟨ua, SqT.of upd_same, hU9.same (s10.trans e4)⟩
          have td3' : Dp K (upd H10 t4 (.tup [.ref ua, .int (A.d : Int), .str A.s, .bl true, .int 1])) (.ref t3') (toldDB ⟨A.us, A.d, A.s, true, 1⟩) := told_dpB ⟨ua3, same_sqt e4 hTo3, hU3.same e4⟩
          refine ⟨_, _, td3', td4, z1, z1, _, rfl, ?_⟩
          rw [z2]
          exact iteF ⟨(s9.trans s10).trans e4, rfl⟩
      rintro σ' H9 ⟨s9, rfl⟩
      have hU9 := hU8.same s9
      have hL9 := LadAt.same s9 hL8
      have b9 : But a H H9 := ((b2.trans (Same.but s07)).trans (Same.but s8)).trans (Same.but s9)
      have sp9 : Spr H9 a := ((s2.same s07).same s8).same s9
      -- the last unit left out
      obtain ⟨ps9, hua9, hup9⟩ := id hU9
      refine ⟨_, rfl, ua, _, rfl, .inr hua9, ?_⟩
      rw [List.length_map, UP.len hup9]
      by_cases h1 : (1 : Int) < (A.us.length : Int)
      · refine ⟨_, _, rfl, rfl, _, rfl, iteB (decide_eq_true h1) ?_⟩
        have hlen2 : 2 ≤ A.us.length := by omega
        have gt : Good (A.us.take (A.us.length - 1)) A.d A.s A.l := ⟨((⟨g.u.hi, g.u.each⟩ : GU A.us).take _).good (by rw [List.length_take]; omega), g.d3, fun u hu => g.div u (by
          rw [List.drop_take] at hu
          exact List.mem_of_mem_take hu), g.srt, g.l1, g.l2⟩
        refine ⟨_, rfl, ?_⟩
        refine most_of (te := tVar 3) hua9 (by rw [List.length_map, UP.len hup9]; exact hlen2) (fun Qt h => ⟨_, rfl, h⟩) (fun H Qt h => ⟨1, rfl, h⟩) fun c1 H10 s10 _ hc1 => ?_
        rw [← List.map_take, List.length_map, UP.len hup9] at hc1
        have hUc : UA K H10 c1 (A.us.take (A.us.length - 1)) := ⟨ps9.take (A.us.length - 1), hc1, paired_take _ (paired_imp (fun _ _ => same_sqt s10) hup9)⟩
        refine ⟨_, rfl, _, rfl, _, rfl, _, rfl, by show 5 ≤ sizeLine; decide, fun t5 n5 => ?_⟩
        have e5 := same_upd n5 (o := .tup [.ref c1, .int (A.d : Int), .str A.s, .bl A.c, .int A.l])
        refine ⟨t5, A.us.take (A.us.length - 1), A.d, A.s, A.c, A.l, rfl, ⟨c1, SqT.of upd_same, hUc.same e5⟩, gt, fun p5 H11 s11 hL11 => ?_⟩
        have s911 := (s10.trans e5).trans s11
        refine ⟨p, A, false, rfl, LadAt.same s911 hL9, g, .inl ⟨p5, ⟨A.us.take (A.us.length - 1), A.d, A.s, A.c, A.l⟩, rfl, hL11, gt, (eqv_u (by show A.us.length ≠ (A.us.take (A.us.length - 1)).length; rw [List.length_take]; omega)).symm⟩, _, rfl, iteF ?_⟩
        exact ⟨⟨_, _, _, _, _, _, _, _, _, _, _, rfl⟩, b9.trans (Same.but s911), sp9.same s911⟩
      · refine ⟨_, _, rfl, rfl, _, rfl, iteE (decide_eq_false h1) ?_⟩
        exact ⟨⟨_, _, _, _, _, _, _, _, _, _, _, rfl⟩, b9, sp9⟩
    · exact q H' b
end
end My

namespace My
open PySem PySem.Spec PyProof.Rows L2
def mkD {K : PySem.W.Frag} {mg : Str → Option Value} {h : Heap} {x : Str} {st : Stmt} {ps : List Str} {f : Addr} {oc : Value} {od an : Option Addr} {sl : Array (Option Value)} {kV dc pm cd ct : Value} (X : K.In h) (G : h.Ns mainGlobals mg)
    (b : ∀ (kV doc pm : Value) (an : Option Addr) (cdv ct : Value) (us : List Value), us.length = ps.length → bindArgs (PySem.W.fnOf x x (defArgs st) (defBody st) (defScope st) .none kV doc pm an cdv ct) ⟨us, []⟩ = pure (ps.zip us))
    (a : PySem.W.nsIn K mainGlobals x = some (some (.ref f))) (l : K.lookup f = some ⟨oc, od, .func (PySem.W.fnOf x x (defArgs st) (defBody st) (defScope st) .none kV dc pm an cd ct), sl⟩) (c : PySem.W.codeIn K cd x = true) (k : PySem.W.keepIn K (.ref f) = true) : Dd K mg x st ps :=
  ⟨f, _, fun_mk l c k, (fun_mk l c k).binds b, PySem.W.mg_of X G a⟩
def mkL {K : PySem.W.Frag} {mg : Str → Option Value} {h : Heap} {C f : Addr} {oc : Value} {od an : Option Addr} {sl : Array (Option Value)} {kV dc pm cd ct : Value} (X : K.In h) (G : h.Ns mainGlobals mg)
    (aC : PySem.W.nsIn K mainGlobals "Ladder" = some (some (.ref C))) (a : PySem.W.findIn K (.ref C) "__init__" = some (some (.ref f))) (i : PySem.W.isFn K (.ref f) = true)
    (l : K.lookup f = some ⟨oc, od, .func (PySem.W.fnOf "__init__" "Ladder.__init__" (defArgs sLInit) (defBody sLInit) (defScope sLInit) .none kV dc pm an cd ct), sl⟩) (c : PySem.W.codeIn K cd "Ladder.__init__" = true) (k : PySem.W.keepIn K (.ref f) = true)
    (pg : PySem.W.plainGet K C Str.empty = true) (hd : PySem.W.hasDictIn K C = true) (po : PySem.W.plainOver K C = true) (sa : PySem.W.findIn K (.ref C) "__setattr__" = some (some (.builtin "object.__setattr__"))) (mk : PySem.W.makesIn K C = true) (kc : PySem.W.keepIn K (.ref C) = true)
    (n1 : PySem.W.findIn K (.ref C) "units" = some none) (n2 : PySem.W.findIn K (.ref C) "decimals" = some none) (n3 : PySem.W.findIn K (.ref C) "rounding" = some none) (n4 : PySem.W.findIn K (.ref C) "carry" = some none) (n5 : PySem.W.findIn K (.ref C) "least" = some none) (n6 : PySem.W.findIn K (.ref C) "told" = some none) (n7 : PySem.W.findIn K (.ref C) "steps" = some none) (n8 : PySem.W.findIn K (.ref C) "thresholds" = some none)
    (i1 : PySem.W.findIn K (.ref C) "__class__" = some (some (.builtin "object.__class__"))) (i2 : PySem.W.specialIn K (.builtin "object.__class__") "__get__" = some (some (.builtin "getset_descriptor.__get__"))) (i3 : PySem.W.takesIn K (.builtin "object.__class__") = some true)
    (i4 : PySem.W.mroIn K C (.type "object") = some true) : { L : LadC K mg // LadI K L.C } :=
  ⟨⟨C, f, _, fun_mk l c k, ⟨mk, a, i, kc⟩, PySem.W.mg_of X G aC, ⟨pg, hd, po, sa⟩, n1, n2, n3, n4, n5, n6, n7, n8⟩, ⟨i1, i2, i3, i4, (by unfold PySem.W.kitOne; rw [if_pos (beq_self_eq_true _)])⟩⟩
theorem mkParts {K : PySem.W.Frag} {mg : Str → Option Value} {h : Heap} {a : Addr} {dd : Option Addr} {sl : Array (Option Value)} {n : Nat} {t1 t2 t3 t4 : Tok} (X : K.In h) (G : h.Ns mainGlobals mg) (ha : PySem.W.nsIn K mainGlobals "PARTS" = some (some (.ref a)))
    (l : K.lookup a = some ⟨.type "tuple", dd, .seq #[.int 1 t1, .int 10 t2, .int 100 t3, .int 1000 t4] n, sl⟩) : ∃ a, mg "PARTS" = some (.ref a) ∧ ∀ H, SqT K H a [.int 1, .int 10, .int 100, .int 1000] :=
  ⟨a, PySem.W.mg_of X G ha, fun H => .inr ⟨_, _, _, l, rfl, rfl, (by show 4 ≤ sizeLine; decide), .cons ⟨_, rfl⟩ (.cons ⟨_, rfl⟩ (.cons ⟨_, rfl⟩ (.cons ⟨_, rfl⟩ .nil)))⟩⟩
theorem mkRounds {K : PySem.W.Frag} {mg : Str → Option Value} {h : Heap} {a : Addr} {dd : Option Addr} {sl : Array (Option Value)} {n : Nat} {t1 t2 t3 t4 : Tok} (X : K.In h) (G : h.Ns mainGlobals mg) (ha : PySem.W.nsIn K mainGlobals "ROUNDINGS" = some (some (.ref a)))
    (l : K.lookup a = some ⟨.type "tuple", dd, .seq #[.str "down" t1, .str "up" t2, .str "near" t3, .str "even" t4] n, sl⟩) : ∃ a, mg "ROUNDINGS" = some (.ref a) ∧ ∀ H, SqT K H a [.str "down", .str "up", .str "near", .str "even"] :=
  ⟨a, PySem.W.mg_of X G ha, fun H => .inr ⟨_, _, _, l, rfl, rfl, (by show 4 ≤ sizeLine; decide), .cons ⟨_, rfl⟩ (.cons ⟨_, rfl⟩ (.cons ⟨_, rfl⟩ (.cons ⟨_, rfl⟩ .nil)))⟩⟩
theorem mkG {K : PySem.W.Frag} {mg : Str → Option Value} {h : Heap} {x : Str} {v u : Value} (X : K.In h) (G : h.Ns mainGlobals mg) (a : PySem.W.nsIn K mainGlobals x = some (some v)) (e : v = u) : mg x = some u := e ▸ PySem.W.mg_of X G a
theorem mkN {K : PySem.W.Frag} {mg : Str → Option Value} {h : Heap} {x : Str} (X : K.In h) (G : h.Ns mainGlobals mg) (a : PySem.W.nsIn K mainGlobals x = some none) : mg x = none := PySem.W.mg_none_of X G a
def mkLD {K : PySem.W.Frag} {mg : Str → Option Value} {h : Heap} {C f : Addr} {oc : Value} {od an : Option Addr} {sl : Array (Option Value)} {Dk : Addr} {dc pm cd ct uc ul : Value} (X : K.In h) (G : h.Ns mainGlobals mg)
    (aC : PySem.W.nsIn K mainGlobals "Ladder" = some (some (.ref C))) (a : PySem.W.findIn K (.ref C) "__init__" = some (some (.ref f))) (i : PySem.W.isFn K (.ref f) = true)
    (l : K.lookup f = some ⟨oc, od, .func (PySem.W.fnOf "__init__" "Ladder.__init__" (defArgs sLInit) (defBody sLInit) (defScope sLInit) .none (.ref Dk) dc pm an cd ct), sl⟩) (c : PySem.W.codeIn K cd "Ladder.__init__" = true) (k : PySem.W.keepIn K (.ref f) = true)
    (pg : PySem.W.plainGet K C Str.empty = true) (hd : PySem.W.hasDictIn K C = true) (po : PySem.W.plainOver K C = true) (sa : PySem.W.findIn K (.ref C) "__setattr__" = some (some (.builtin "object.__setattr__"))) (mk : PySem.W.makesIn K C = true) (kc : PySem.W.keepIn K (.ref C) = true)
    (n1 : PySem.W.findIn K (.ref C) "units" = some none) (n2 : PySem.W.findIn K (.ref C) "decimals" = some none) (n3 : PySem.W.findIn K (.ref C) "rounding" = some none) (n4 : PySem.W.findIn K (.ref C) "carry" = some none) (n5 : PySem.W.findIn K (.ref C) "least" = some none) (n6 : PySem.W.findIn K (.ref C) "told" = some none) (n7 : PySem.W.findIn K (.ref C) "steps" = some none) (n8 : PySem.W.findIn K (.ref C) "thresholds" = some none)
    (i1 : PySem.W.findIn K (.ref C) "__class__" = some (some (.builtin "object.__class__"))) (i2 : PySem.W.specialIn K (.builtin "object.__class__") "__get__" = some (some (.builtin "getset_descriptor.__get__"))) (i3 : PySem.W.takesIn K (.builtin "object.__class__") = some true)
    (i4 : PySem.W.mroIn K C (.type "object") = some true) (u1 : PySem.W.nsIn K Dk "carry" = some (some uc)) (r1 : RelV (.bl true) uc) (u2 : PySem.W.nsIn K Dk "least" = some (some ul)) (r2 : RelV (.int 1) ul) : { L : LadC K mg // LadI K L.C ∧ LadD K L.f L.fd } :=
  ⟨(mkL X G aC a i l c k pg hd po sa mk kc n1 n2 n3 n4 n5 n6 n7 n8 i1 i2 i3 i4).1, (mkL X G aC a i l c k pg hd po sa mk kc n1 n2 n3 n4 n5 n6 n7 n8 i1 i2 i3 i4).2, ⟨⟨_, _, _, _, _, _, _, _, _, _, rfl, l, c, .inl ⟨rfl, rfl⟩, .inr ⟨Dk, rfl, fun q hq => by
    rcases List.mem_cons.mp hq with e | hq
    · rw [e]
      exact ⟨uc, u1, r1⟩
    · rcases List.mem_cons.mp hq with e | hq
      · rw [e]
        exact ⟨ul, u2, r2⟩
      · cases hq⟩⟩, k⟩⟩
/-- all together -/
theorem all_mk {l : PySem.W.OpenLaw} {w : World} {K : PySem.W.Frag} {h : Heap} {mg : Str → Option Value} {fa : Addr} (X : K.In h) (G : h.Ns mainGlobals mg) (hfa : mg "law" = some (.ref fa))
    {fl : Addr} {oc : Value} {od an : Option Addr} {sl : Array (Option Value)} {kV dc pm cd ct : Value}
    (la : PySem.W.nsIn K mainGlobals "law" = some (some (.ref fl))) (ll : K.lookup fl = some ⟨oc, od, .func (PySem.W.fnOf "law" "law" (defArgs sLaw) (defBody sLaw) (defScope sLaw) .none kV dc pm an cd ct), sl⟩) (lc : PySem.W.codeIn K cd "law" = true) (lk : PySem.W.keepIn K (.ref fl) = true)
    (B : Bt mg) (Gk : Gc K mg) (L : { L : LadC K mg // LadI K L.C ∧ LadD K L.f L.fd }) (b_repr : mg "repr" = none) (b_any : mg "any" = none)
    (dInteger : Dd K mg "is_integer" sInteger ["value"])
    (dWithin : Dd K mg "is_within" sWithin ["value", "low", "high"])
    (dUnit : Dd K mg "is_unit" sUnit ["unit"])
    (dUName : Dd K mg "is_unit_name" sUName ["name"])
    (dFits : Dd K mg "fits_behind" sFits ["before", "unit"])
    (dCUnits : Dd K mg "check_units" sCUnits ["units"])
    (dCDec : Dd K mg "check_decimals" sCDec ["units", "decimals"])
    (dCRnd : Dd K mg "check_rounding" sCRnd ["rounding"])
    (dSpring : Dd K mg "_law_spring" sSpring ["_law_script", "_law_k"])
    (dGulp : Dd K mg "_law_gulp" sGulp ["_law_spring_here", "_law_many"])
    (dSome : Dd K mg "_law_some_of" sSome ["_law_spring_here", "_law_things"])
    (dUnits : Dd K mg "_law_units" sUnits ["_law_spring_here", "_law_part", "_law_small"])
    (dTold : Dd K mg "_law_told" sTold ["_law_spring_here", "_law_small"])
    (dMade : Dd K mg "_law_made" sMade ["_law_told_here"])
    (dRight : Dd K mg "_law_right" sRight ["_law_spring_here"])
    {CL : Addr} (gCL : mg "Ladder" = some (.ref CL))
    (RR : RprC K CL)
    (LL : LLenC K CL)
    (RE : LEqC K CL)
    (kO1 : PySem.W.kitOne K (.type "tuple") (.ref CL) = some false)
    (kO2 : PySem.W.kitOne K (.type "str") (.ref CL) = some false) :
    ∃ fd : FuncData, (∀ (s : Shared) (v : Value), BindsTo s fd ⟨[v], []⟩ [("_law_script", v)]) ∧ ∀ base : Heap, K.In base → base.Ns mainGlobals mg → FnG l.prog w K mg base 11 fa fd ["_law_script"] (spLaw K) := by
  have e := hfa.symm.trans (PySem.W.mg_of X G la)
  cases e
  obtain ⟨L, I, LD⟩ := L
  refine ⟨_, fun s v => .of_eq rfl, fun base _ _ => ok_lawG (kR := 8) (fun_mk (st := sLaw) ll lc lk) dSpring.F dSpring.b dSpring.g dRight.F.kp ?_ dRight.b dRight.g B⟩
  obtain rfl : L.C = CL := by
    have := L.g.symm.trans gCL
    cases this
    rfl
  have GLI := ok_linit (P := l.prog) (w := w) (base := base) L dCUnits dUnit dUName ⟨dWithin, dInteger⟩ dFits dCDec dCRnd B Gk
  exact ok_right dRight dGulp dTold dMade L I LD LL RE RR ⟨kO1, kO2⟩ B b_repr b_any GLI (ok_told dTold dUnits dSome dGulp B) (ok_made dMade L GLI)
end My

open PySem PySem.W PyProof.Rows
set_option maxRecDepth 100000 in
set_option maxHeartbeats 0 in
theorem PySem.Challenge.cw_shortfigures_k02_ladders_made_holds : PySem.Challenge.rw_shortfigures_k02_ladders_made.Holds := by
  w_on; o_law; k_head; (case hw => w_witness2)
  k_fill
  refine My.walk_G (l := PySem.Challenge.rw_shortfigures_k02_ladders_made) (n := 63) (k := 11) (x := "_law_script") (sp := fun w => My.spLaw _) rfl (by decide) rfl ⟨rfl, by decide, by decide⟩ (fun w h Y => PySem.W.kIn_of Y) ?F (fun _ _ a ns hl _ hS => ⟨a, ns, rfl, hS, hl, fun _ => rfl⟩)
  case F =>
    intro w mg fa h KX G hmg
    refine' My.all_mk KX G hmg ?la ?ll ?lc ?lk ⟨My.mkN KX G ?b0, My.mkN KX G ?b1, My.mkN KX G ?b2, My.mkN KX G ?b3, My.mkN KX G ?b4, My.mkN KX G ?b5, My.mkN KX G ?b6, My.mkN KX G ?b7, My.mkN KX G ?b8, My.mkN KX G ?b9, My.mkN KX G ?b10, My.mkN KX G ?b11, My.mkN KX G ?b12⟩ ⟨⟨_, My.mkG KX G ?g1 ?e1⟩, ⟨_, My.mkG KX G ?g2 ?e2⟩, ⟨_, My.mkG KX G ?g3 ?e3⟩, ⟨_, My.mkG KX G ?g4 ?e4⟩, ⟨_, My.mkG KX G ?g5 ?e5⟩, ⟨_, My.mkG KX G ?g6 ?e6⟩, My.mkParts KX G ?g7 ?g8, My.mkRounds KX G ?g9 ?g10⟩
      (My.mkLD KX G ?LaC ?La ?Li ?Ll ?Lc ?Lk ?Lpg ?Lhd ?Lpo ?Lsa ?Lmk ?Lkc ?Ln1 ?Ln2 ?Ln3 ?Ln4 ?Ln5 ?Ln6 ?Ln7 ?Ln8 ?Li1 ?Li2 ?Li3 ?Li4 ?Lu1 ?Lr1 ?Lu2 ?Lr2)
      (My.mkN KX G ?b_repr)
      (My.mkN KX G ?b_any)
      (My.mkD (x := "is_integer") (st := My.sInteger) (ps := ["value"]) KX G (fun _ _ _ _ _ _ us hl => match us, hl with | [_], _ => rfl) ?adInteger ?ldInteger ?cdInteger ?kdInteger)
      (My.mkD (x := "is_within") (st := My.sWithin) (ps := ["value", "low", "high"]) KX G (fun _ _ _ _ _ _ us hl => match us, hl with | [_, _, _], _ => rfl) ?adWithin ?ldWithin ?cdWithin ?kdWithin)
      (My.mkD (x := "is_unit") (st := My.sUnit) (ps := ["unit"]) KX G (fun _ _ _ _ _ _ us hl => match us, hl with | [_], _ => rfl) ?adUnit ?ldUnit ?cdUnit ?kdUnit)
      (My.mkD (x := "is_unit_name") (st := My.sUName) (ps := ["name"]) KX G (fun _ _ _ _ _ _ us hl => match us, hl with | [_], _ => rfl) ?adUName ?ldUName ?cdUName ?kdUName)
      (My.mkD (x := "fits_behind") (st := My.sFits) (ps := ["before", "unit"]) KX G (fun _ _ _ _ _ _ us hl => match us, hl with | [_, _], _ => rfl) ?adFits ?ldFits ?cdFits ?kdFits)
      (My.mkD (x := "check_units") (st := My.sCUnits) (ps := ["units"]) KX G (fun _ _ _ _ _ _ us hl => match us, hl with | [_], _ => rfl) ?adCUnits ?ldCUnits ?cdCUnits ?kdCUnits)
      (My.mkD (x := "check_decimals") (st := My.sCDec) (ps := ["units", "decimals"]) KX G (fun _ _ _ _ _ _ us hl => match us, hl with | [_, _], _ => rfl) ?adCDec ?ldCDec ?cdCDec ?kdCDec)
      (My.mkD (x := "check_rounding") (st := My.sCRnd) (ps := ["rounding"]) KX G (fun _ _ _ _ _ _ us hl => match us, hl with | [_], _ => rfl) ?adCRnd ?ldCRnd ?cdCRnd ?kdCRnd)
      (My.mkD (x := "_law_spring") (st := My.sSpring) (ps := ["_law_script", "_law_k"]) KX G (fun _ _ _ _ _ _ us hl => match us, hl with | [_, _], _ => rfl) ?adSpring ?ldSpring ?cdSpring ?kdSpring)
      (My.mkD (x := "_law_gulp") (st := My.sGulp) (ps := ["_law_spring_here", "_law_many"]) KX G (fun _ _ _ _ _ _ us hl => match us, hl with | [_, _], _ => rfl) ?adGulp ?ldGulp ?cdGulp ?kdGulp)
      (My.mkD (x := "_law_some_of") (st := My.sSome) (ps := ["_law_spring_here", "_law_things"]) KX G (fun _ _ _ _ _ _ us hl => match us, hl with | [_, _], _ => rfl) ?adSome ?ldSome ?cdSome ?kdSome)
      (My.mkD (x := "_law_units") (st := My.sUnits) (ps := ["_law_spring_here", "_law_part", "_law_small"]) KX G (fun _ _ _ _ _ _ us hl => match us, hl with | [_, _, _], _ => rfl) ?adUnits ?ldUnits ?cdUnits ?kdUnits)
      (My.mkD (x := "_law_told") (st := My.sTold) (ps := ["_law_spring_here", "_law_small"]) KX G (fun _ _ _ _ _ _ us hl => match us, hl with | [_, _], _ => rfl) ?adTold ?ldTold ?cdTold ?kdTold)
      (My.mkD (x := "_law_made") (st := My.sMade) (ps := ["_law_told_here"]) KX G (fun _ _ _ _ _ _ us hl => match us, hl with | [_], _ => rfl) ?adMade ?ldMade ?cdMade ?kdMade)
      (My.mkD (x := "_law_right") (st := My.sRight) (ps := ["_law_spring_here"]) KX G (fun _ _ _ _ _ _ us hl => match us, hl with | [_], _ => rfl) ?adRight ?ldRight ?cdRight ?kdRight)
      (My.mkG KX G ?gCL ?gCLe)
      (My.mkRpr (fun _ _ _ _ _ _ us hl => match us, hl with | [_], _ => rfl) ?rpA ?rpI ?rpL ?rpC ?rpK)
      (My.mkLLen (fun _ _ _ _ _ _ us hl => match us, hl with | [_], _ => rfl) ?llA ?llI ?llL ?llC ?llK ?llB)
      (My.mkLEq (fun _ _ _ _ _ _ us hl => match us, hl with | [_, _], _ => rfl) ?leA ?leI ?leL ?leC ?leK ?leN ?leT ?leS)
      ?ko1
      ?ko2
    (case la => k_is); (case ll => k_is); (case lc => k_is); (case lk => k_is)
    (case b0 => k_is); (case b1 => k_is); (case b2 => k_is); (case b3 => k_is); (case b4 => k_is); (case b5 => k_is); (case b6 => k_is); (case b7 => k_is); (case b8 => k_is); (case b9 => k_is); (case b10 => k_is); (case b11 => k_is); (case b12 => k_is)
    (case g1 => k_is); (case g2 => k_is); (case g3 => k_is); (case g4 => k_is); (case g5 => k_is); (case g6 => k_is); (case g7 => k_is); (case g8 => k_is); (case g9 => k_is); (case g10 => k_is)
    (case e1 => exact rfl); (case e2 => exact rfl); (case e3 => exact rfl); (case e4 => exact rfl); (case e5 => exact rfl); (case e6 => exact rfl)
    (case LaC => k_is); (case La => k_is); (case Li => k_is); (case Ll => k_is); (case Lc => k_is); (case Lk => k_is); (case Lpg => k_is); (case Lhd => k_is); (case Lpo => k_is); (case Lsa => k_is); (case Lmk => k_is); (case Lkc => k_is); (case Ln1 => k_is); (case Ln2 => k_is); (case Ln3 => k_is); (case Ln4 => k_is); (case Ln5 => k_is); (case Ln6 => k_is); (case Ln7 => k_is); (case Ln8 => k_is); (case Li1 => k_is); (case Li2 => k_is); (case Li3 => k_is); (case Li4 => k_is)
    (case Lu1 => k_is); (case Lr1 => first | exact rfl | exact ⟨_, rfl⟩ | constructor); (case Lu2 => k_is); (case Lr2 => first | exact rfl | exact ⟨_, rfl⟩ | constructor)
    (case b_repr => k_is)
    (case b_any => k_is)
    (case adInteger => k_is); (case ldInteger => k_is); (case cdInteger => k_is); (case kdInteger => k_is)
    (case adWithin => k_is); (case ldWithin => k_is); (case cdWithin => k_is); (case kdWithin => k_is)
    (case adUnit => k_is); (case ldUnit => k_is); (case cdUnit => k_is); (case kdUnit => k_is)
    (case adUName => k_is); (case ldUName => k_is); (case cdUName => k_is); (case kdUName => k_is)
    (case adFits => k_is); (case ldFits => k_is); (case cdFits => k_is); (case kdFits => k_is)
    (case adCUnits => k_is); (case ldCUnits => k_is); (case cdCUnits => k_is); (case kdCUnits => k_is)
    (case adCDec => k_is); (case ldCDec => k_is); (case cdCDec => k_is); (case kdCDec => k_is)
    (case adCRnd => k_is); (case ldCRnd => k_is); (case cdCRnd => k_is); (case kdCRnd => k_is)
    (case adSpring => k_is); (case ldSpring => k_is); (case cdSpring => k_is); (case kdSpring => k_is)
    (case adGulp => k_is); (case ldGulp => k_is); (case cdGulp => k_is); (case kdGulp => k_is)
    (case adSome => k_is); (case ldSome => k_is); (case cdSome => k_is); (case kdSome => k_is)
    (case adUnits => k_is); (case ldUnits => k_is); (case cdUnits => k_is); (case kdUnits => k_is)
    (case adTold => k_is); (case ldTold => k_is); (case cdTold => k_is); (case kdTold => k_is)
    (case adMade => k_is); (case ldMade => k_is); (case cdMade => k_is); (case kdMade => k_is)
    (case adRight => k_is); (case ldRight => k_is); (case cdRight => k_is); (case kdRight => k_is)
    (case gCL => k_is); (case gCLe => exact rfl)
    (case rpA => k_is); (case rpI => k_is); (case rpL => k_is); (case rpC => k_is); (case rpK => k_is)
    (case llA => k_is); (case llI => k_is); (case llL => k_is); (case llC => k_is); (case llK => k_is); (case llB => k_is)
    (case leA => k_is); (case leI => k_is); (case leL => k_is); (case leC => k_is); (case leK => k_is); (case leN => k_is); (case leT => k_is); (case leS => k_is)
    (case ko1 => first | k_is | rfl | decide +kernel)
    (case ko2 => first | k_is | rfl | decide +kernel)
