import PyProof.Rows.All
import Wide.All
import OpenK.AllK
import Wide.FinOn
import HandS.ForMost
import HandS.Wide
import HandS.WideBits
import HandS.MakeKwOnly
import HandS.Defaults
import HandS.StrMore
import HandS.IsInst
import HandS.TupAny
import HandS.Flow
import KE.GoesMore
import KE.GoesEnum
import HandS.Conv
import HandS.Evl
import KE.KIntText
import HandS.Text
import HandS.Style
import HandS.ReplaceList
import HandS.ReplaceLit
import HandS.ReplaceDef
import KE.GoesZip
import KE.DataMinMax
import HandS.SortKw
import HandS.RaiseMore
import HandS.Ends
import PyProof.StrLawsRepr
import HandS.Zip
import HandS.TryOnly
import HandS.Deep
import KE.KTupSum
import KE.KUnpackStar
import HandS.Star
import HandS.CallLocal
import HandS.More
import HandS.WordsExc
import OpenK.KTop
import PySem.Challenge.RW_shortfigures_k50_whole_claims_and_their
set_option Elab.async false
set_option linter.all false
set_option maxRecDepth 100000
set_option maxHeartbeats 4000000
namespace My
open PySem PySem.Spec PyProof.Rows L2

/-! ### the text by places -/
def top (i : Nat) : Stmt := PySem.Challenge.pw_shortfigures_k50_whole_claims_and_their.main.body.getD i (.Pass ⟨0, 0, 0, 0⟩)
abbrev sSpring : Stmt := top 98
abbrev sGulp : Stmt := top 99
abbrev sSome : Stmt := top 100
theorem scGulp : FnScope ["_law_spring_here", "_law_many", "_law_digit"] ["_law_spring_here", "_law_many"] (defScope sGulp) := ⟨rfl, rfl, rfl, by decide +kernel, rfl, by decide +kernel, by decide +kernel⟩
theorem scSome : FnScope ["_law_spring_here", "_law_things"] ["_law_spring_here", "_law_things"] (defScope sSome) := ⟨rfl, rfl, rfl, by decide +kernel, rfl, by decide +kernel, by decide +kernel⟩
theorem scSpring : FnScope ["_law_script", "_law_k", "_law_own", "_law_mixed", "_law_entry"] ["_law_script", "_law_k"] (defScope sSpring) := ⟨rfl, rfl, rfl, by decide +kernel, rfl, by decide +kernel, by decide +kernel⟩

/-! ### heaps -/
/-- all that was tracked stands, but a -/
def But (a : Addr) (H H' : Hp) : Prop := ∀ b o, H b = some o → b ≠ a → H' b = some o
theorem But.refl (a : Addr) (H : Hp) : But a H H := fun _ _ e _ => e
theorem But.trans {a : Addr} {H H1 H2 : Hp} (x : But a H H1) (y : But a H1 H2) : But a H H2 := fun b o e n => y b o (x b o e n) n
theorem Same.but {a : Addr} {H H1 : Hp} (x : Same H H1) : But a H H1 := fun b o e _ => x b o e
theorem But.upd (a : Addr) (H : Hp) (o : HO) : But a H (upd H a o) := fun b _ e n => by rw [upd_ne n]; exact e
theorem same_upd {H : Hp} {p : Addr} {o : HO} (h : H p = none) : Same H (upd H p o) := fun b x e => by
  rw [upd_ne (ne_of_none e h)]
  exact e
theorem Same.refl (H : Hp) : Same H H := fun _ _ e => e
/-- a spring: a list of three ints -/
def Spr (H : Hp) (a : Addr) : Prop := ∃ x y z : Int, H a = some (.lst [.int x, .int y, .int z])
theorem Spr.same {H H1 : Hp} {a : Addr} (s : Spr H a) (k : Same H H1) : Spr H1 a := by
  obtain ⟨x, y, z, e⟩ := s
  exact ⟨x, y, z, k _ _ e⟩
theorem But.new {a p : Addr} {H H1 : Hp} {o : HO} (x : But a H H1) (h : H1 p = none) : But a H (L2.upd H1 p o) := x.trans (Same.but (same_upd h))
/-! ### promises -/
def spGulp : Sp := fun vs H Q _ => ∃ (a : Addr) (m : Int), vs = [.ref a, .int m] ∧ Spr H a ∧ 0 < m ∧ m.natAbs < 2 ^ 64 ∧
  ∀ (r : Int) (H' : Hp), 0 ≤ r → r < m → Spr H' a → But a H H' → Q (.int r) H'
def spSome (K : PySem.W.Frag) : Sp := fun vs H Q _ => ∃ (a t : Addr) (xs : List V), vs = [.ref a, .ref t] ∧ Spr H a ∧ (SqL K H t xs ∨ SqT K H t xs) ∧ t ≠ a ∧ xs ≠ [] ∧ xs.length < 1000 ∧
  ∀ (v : V) (H' : Hp), v ∈ xs → Spr H' a → But a H H' → Q v H'
theorem divp_small (i : Int) {j : Int} (h : 0 < j) (hj : j.natAbs < 2 ^ 64) : CDivP i j := ⟨h, PyProof.noPylong_of_log2 (Nat.lt_of_lt_of_le (PySem.Flt.log2_lt_of (by decide) hj) (by decide))⟩
theorem but_sql {K : PySem.W.Frag} {a t : Addr} {xs : List V} {H H' : Hp} (b : But a H H') (n : t ≠ a) (h : SqL K H t xs) : SqL K H' t xs := by
  rcases h with (h | ⟨o, h⟩) | h
  · exact .inl (.inl (b _ _ h n))
  · exact .inl (.inr ⟨o, b _ _ h n⟩)
  · exact .inr h
theorem but_sqt {K : PySem.W.Frag} {a t : Addr} {xs : List V} {H H' : Hp} (b : But a H H') (n : t ≠ a) (h : SqT K H t xs) : SqT K H' t xs := by
  rcases h with (h | ⟨o, h⟩) | h
  · exact .inl (.inl (b _ _ h n))
  · exact .inl (.inr ⟨o, b _ _ h n⟩)
  · exact .inr h
/-- what the walk asks of built-ins -/
structure Bt (mg : Str → Option Value) : Prop where
  len : mg "len" = none
  int : mg "int" = none
  divmod : mg "divmod" = none
  abs : mg "abs" = none
  all : mg "all" = none
  range : mg "range" = none
  max : mg "max" = none
  min : mg "min" = none
  str : mg "str" = none
  tuple : mg "tuple" = none
  isinstance : mg "isinstance" = none
  enumerate : mg "enumerate" = none
  bool : mg "bool" = none
section
variable {P : Program} {w : World} {K : PySem.W.Frag} {mg : Str → Option Value} {base : Heap}
theorem ok_gulp {f : Addr} {fd : FuncData} (F : Fun K "_law_gulp" "_law_gulp" sGulp f fd) (B : Bt mg) : FnOk P w K mg base CX0 2 f fd ["_law_spring_here", "_law_many"] spGulp := by
  refine F.ok scGulp (fun vs H Q E h => ?_) (fun cdv A outer s H vs Q E hr h => ?_)
  · obtain ⟨a, m, rfl, _⟩ := h
    rfl
  · obtain ⟨a, m, rfl, ⟨x, y, z, ha⟩, hm, hm2, k⟩ := h
    refine ⟨_, pss_cons (ps_asg (pe_op op_add (pe_ix ix_list (pv 0) pe_int (fun _ _ => rfl)) pe_int) (pg_sub (pv 0) pe_int set_list))
      (pss_cons (ps_if (pt_cmpR op_gt (pe_ix ix_list (pv 0) pe_int (fun _ _ => rfl)) pe_int (nomark _))
        (pss_cons (ps_asg (pe_callB call_divmodW (by rfl) B.divmod (by decide +kernel) (pa_cons (pe_callTy call_int1 (by rfl) B.int (by decide +kernel) (pa_cons (pe_ix ix_list (pv 0) pe_int (fun _ _ => rfl)) pa_nil)) (pa_cons (pv 1) pa_nil)))
            (pg_tup rfl (pgs_cons (pg_sub (pv 0) pe_int set_list) (pgs_cons (pg_name (i := 2) scGulp.nd rfl (.inl rfl)) pgs_nil))))
          (pss_one (ps_ret (pv 2)))) pss_nil)
      (pss_cons (ps_asg (pe_op op_mod (pe_callTy call_int1 (by rfl) B.int (by decide +kernel) (pa_cons
          (pe_op op_add (pe_op op_add (pe_op op_mul (pe_ix ix_list (pv 0) pe_int (fun _ _ => rfl)) pe_int) (pe_op op_mul (pe_ix ix_list (pv 0) pe_int (fun _ _ => rfl)) pe_int))
            (pe_op op_mul (pe_op op_fdiv (pe_ix ix_list (pv 0) pe_int (fun _ _ => rfl)) pe_int) pe_int)) pa_nil)) pe_int) (pg_sub (pv 0) pe_int set_list))
      (pss_one (ps_ret (pe_op op_mod (pe_callTy call_int1 (by rfl) B.int (by decide +kernel) (pa_cons (pe_op op_fdiv (pe_ix ix_list (pv 0) pe_int (fun _ _ => rfl)) pe_int) pa_nil)) (pv 1)))))), ?_⟩
    have hA : SqL K H a [.int x, .int y, .int z] := SqL.of ha
    -- sp[0] = sp[0] + 5
    refine ⟨.ref a, rfl, a, _, 0, .int x, rfl, rfl, hA, rfl, x, 5, rfl, rfl, .ref a, rfl, a, _, 0, 0, rfl, rfl, ha, rfl, ?_⟩
    have h1 : (upd H a (.lst [.int (x + 5), .int y, .int z])) a = some (.lst [.int (x + 5), .int y, .int z]) := upd_same
    have b1 : But a H (upd H a (.lst [.int (x + 5), .int y, .int z])) := But.upd _ _ _
    have hA1 : SqL K (upd H a (.lst [.int (x + 5), .int y, .int z])) a [.int (x + 5), .int y, .int z] := SqL.of h1
    refine ⟨.ref a, rfl, a, _, 1, .int y, rfl, rfl, hA1, rfl, y, 0, rfl, rfl, _, rfl, ite2 (fun _ => ?_) (fun _ => ?_)⟩
    · refine ⟨.ref a, rfl, a, _, 1, .int y, rfl, rfl, hA1, rfl, .inl ⟨y, rfl, .int m, rfl, y, m, rfl, divp_small _ hm hm2, fun p hp => ?_⟩⟩
      have npa : a ≠ p := ne_of_none h1 hp
      refine ⟨p, _, rfl, SqT.of upd_same, rfl, .int (y / m), [.int (y % m)], rfl, .ref a, rfl, a, _, 1, 1, rfl, rfl, (by rw [upd_ne npa]; exact h1), rfl, .int (y % m), [], rfl, rfl, _, rfl, ?_⟩
      refine k (y % m) _ (Int.emod_nonneg _ (by omega)) (Int.emod_lt_of_pos _ hm) ⟨_, _, _, upd_same⟩ ?_
      exact (b1.new hp).trans (But.upd _ _ _)
    · refine ⟨.ref a, rfl, a, _, 2, .int z, rfl, rfl, hA1, rfl, z, 46021, rfl, rfl, .inr ⟨by decide, by decide⟩, .ref a, rfl, a, _, 0, .int (x + 5), rfl, rfl, hA1, rfl, _, 80021, rfl, rfl, .inr ⟨by decide, by decide⟩, _, _, rfl, rfl,
        .ref a, rfl, a, _, 2, .int z, rfl, rfl, hA1, rfl, z, 3001, rfl, rfl, ⟨by decide, by decide⟩, _, 31, rfl, rfl, .inr ⟨by decide, by decide⟩, _, _, rfl, rfl, .inl ⟨_, rfl, _, 1999999859, rfl, rfl, (by show (0 : Int) < 1999999859; decide), .ref a, rfl, a, _, 2, 2, rfl, rfl, h1, rfl, ?_⟩⟩
      refine ⟨.ref a, rfl, a, _, 2, _, rfl, rfl, SqL.of upd_same, rfl, _, 263, rfl, rfl, ⟨by decide, by decide⟩, .inl ⟨_, rfl, .int m, rfl, _, m, rfl, rfl, hm, ?_⟩⟩
      exact k _ _ (Int.emod_nonneg _ (by omega)) (Int.emod_lt_of_pos _ hm) ⟨_, _, _, upd_same⟩ (b1.trans (But.upd _ _ _))
end
end My

namespace My
open PySem PySem.Spec PyProof.Rows L2
abbrev sLaw : Stmt := top 112
theorem scLaw : FnScope ["_law_script", "_law_k"] ["_law_script"] (defScope sLaw) := ⟨rfl, rfl, rfl, by decide +kernel, rfl, by decide +kernel, by decide +kernel⟩
def spSpring (K : PySem.W.Frag) : Sp := fun vs H Q _ => ∃ (s : Addr) (k : Int) (ns : List Int), vs = [.ref s, .int k] ∧ SqL K H s (ns.map V.int) ∧ 0 ≤ k ∧ ns.length ≤ 63 ∧
  ∀ (p : Addr) (H' : Hp), Same H H' → H p = none → Spr H' p → Q (.ref p) H'
/-- what every _law_right promises -/
def spRight : Sp := fun vs H Q _ => ∃ a : Addr, vs = [.ref a] ∧ Spr H a ∧ ∀ H', But a H H' → Q (.bl true) H'
def spLaw (K : PySem.W.Frag) : Sp := fun vs H Q _ => ∃ (a : Addr) (ns : List Int), vs = [.ref a] ∧ SqL K H a (ns.map V.int) ∧ ns.length ≤ 63 ∧ ∀ H', Q (.bl true) H'
section
variable {P : Program} {w : World} {K : PySem.W.Frag} {mg : Str → Option Value} {base : Heap}
theorem ok_some {f fG : Addr} {fd fdG : FuncData} (F : Fun K "_law_some_of" "_law_some_of" sSome f fd) (FG : Fun K "_law_gulp" "_law_gulp" sGulp fG fdG) (bG : Binds K fdG ["_law_spring_here", "_law_many"] []) (gG : mg "_law_gulp" = some (.ref fG)) (B : Bt mg) :
    FnOk P w K mg base CX0 3 f fd ["_law_spring_here", "_law_things"] (spSome K) := by
  have G : FnOk P w K mg base CX0 2 fG fdG ["_law_spring_here", "_law_many"] spGulp := ok_gulp FG B
  refine F.ok scSome (fun vs H Q E h => ?_) (fun cdv A outer s H vs Q E hr h => ?_)
  · obtain ⟨a, t, xs, rfl, _⟩ := h
    rfl
  · obtain ⟨a, t, xs, rfl, ha, ht, nta, hne, hlen, k⟩ := h
    refine ⟨_, pss_one (ps_ret (pe_ix (IxR.or ix_list ix_tup) (pv 1) (pe_call G hr (by rfl) gG FG.kp bG .nil pass0 (pa_cons (pv 0) (pa_cons (pe_callB call_len_seq (by rfl) B.len PySem.boot_len (pa_cons (pv 1) pa_nil)) pa_nil))) (fun _ _ => rfl))), ?_⟩
    have hpos : 0 < xs.length := List.length_pos_iff.mpr hne
    refine ⟨.ref t, rfl, .ref a, rfl, .ref t, rfl, t, xs, rfl, ht, a, (xs.length : Int), rfl, ha, by omega, by omega, fun r H' h0 h1 s' b' => ?_⟩
    obtain ⟨i, rfl⟩ : ∃ i : Nat, r = (i : Int) := ⟨r.toNat, by omega⟩
    have hi : i < xs.length := by omega
    have e : xs[i]? = some xs[i] := List.getElem?_eq_getElem hi
    have hm : xs[i] ∈ xs := List.getElem_mem hi
    rcases ht with ht | ht
    · exact .inl ⟨t, xs, i, xs[i], rfl, rfl, but_sql b' nta ht, atI_nat e, k _ _ hm s' b'⟩
    · exact .inr ⟨t, xs, i, xs[i], rfl, rfl, but_sqt b' nta ht, atI_nat e, k _ _ hm s' b'⟩
theorem ok_spring {f : Addr} {fd : FuncData} (F : Fun K "_law_spring" "_law_spring" sSpring f fd) (B : Bt mg) : FnOk P w K mg base CX0 2 f fd ["_law_script", "_law_k"] (spSpring K) := by
  refine F.ok scSpring (fun vs H Q E h => ?_) (fun cdv A outer s H vs Q E hr h => ?_)
  · obtain ⟨a, t, xs, rfl, _⟩ := h
    rfl
  · obtain ⟨a, k, ns, rfl, hs, hk, hlen, q⟩ := h
    refine ⟨_, pss_cons (ps_set (i := 2) scSpring.nd rfl (.inl rfl) (pe_ifExp (pt_cmpR op_lt (pv 1) (pe_callB call_len_seq (by rfl) B.len PySem.boot_len (pa_cons (pv 0) pa_nil)) (nomark _))
          (pe_callTy call_int1 (by rfl) B.int (by decide +kernel) (pa_cons (pe_ix ix_list (pv 0) (pv 1) (fun _ _ => rfl)) pa_nil))
          (pe_op op_add (pe_op op_mul pe_int (pv 1)) pe_int)))
      (pss_cons (ps_set (i := 3) scSpring.nd rfl (.inl rfl) (pe_op op_add pe_int (pe_op op_mul pe_int (pv 1))))
      (pss_cons (ps_for PassesOwn.never rfl (pi_list (pe_slice sl_list (pv 0) po_none (po_some pe_int))) (pg_name (i := 4) scSpring.nd rfl (.inl rfl))
        (pss_one (ps_set (i := 3) scSpring.nd rfl (.inl rfl) (pe_op op_mod (pe_callTy call_int1 (by rfl) B.int (by decide +kernel) (pa_cons
          (pe_op op_add (pe_op op_mul (pv 3) pe_int) (pe_op op_mod (pe_callTy call_int1 (by rfl) B.int (by decide +kernel) (pa_cons (pv 4) pa_nil)) pe_int)) pa_nil)) pe_int))))
      (pss_one (ps_ret (pe_lst (pa_cons pe_int (pa_cons
        (pe_ifExp (PW.pt (pw_or (pt_cmpR op_lt (pv 2) pe_int (nomark _)) (pw_or1 (pt_cmpR op_ge (pv 2) (pe_op op_pow pe_int pe_int) (nomark _))))) (pe_callB call_abs (by rfl) B.abs (by decide +kernel) (pa_cons (pv 2) pa_nil)) pe_int)
        (pa_cons (pe_op op_mod (pe_callTy call_int1 (by rfl) B.int (by decide +kernel) (pa_cons (pe_op op_add (pe_op op_mul (pv 3) pe_int) (pe_op op_mod (pv 2) pe_int)) pa_nil)) pe_int) pa_nil)))))))), ?_⟩
    have cm : ∀ {i : Nat} {x : V}, (cutV (ns.map V.int) none (some 13))[i]? = some x → ∃ z, x = V.int z := fun e => by
      have h1 := List.mem_of_getElem? e
      have h2 := List.mem_of_mem_drop (List.mem_of_mem_take h1)
      obtain ⟨z, _, rfl⟩ := List.mem_map.mp h2
      exact ⟨z, rfl⟩
    refine ⟨.int k, rfl, .ref a, rfl, a, _, rfl, .inl hs, _, _, rfl, rfl, _, rfl, ite2 (fun e => ?_) (fun e => ?_)⟩
    · have hk2 : k < ((ns.map V.int).length : Int) := of_decide_eq_true e
      rw [List.length_map] at hk2
      obtain ⟨i, rfl⟩ : ∃ i : Nat, k = (i : Int) := ⟨k.toNat, by omega⟩
      have hi : i < ns.length := by omega
      have e : (ns.map V.int)[i]? = some (.int ns[i]) := by
        rw [List.getElem?_map, List.getElem?_eq_getElem hi]
        rfl
      refine ⟨.ref a, rfl, .int i, rfl, a, _, i, _, rfl, rfl, hs, atI_nat e, .inl ⟨ns[i], rfl, ?_⟩⟩
      generalize ns[i] = own
      generalize (i : Int) = k at hk hk2 ⊢
      refine ⟨.int k, rfl, 1709, k, rfl, rfl, .inl ⟨by decide, by decide⟩, 60013, _, rfl, rfl, ?_⟩
      refine ⟨.ref a, rfl, 13, rfl, a, _, rfl, hs, fun p np => ?_⟩
      refine ⟨p, rfl, ⟨_, SqL.of upd_same⟩, for_list (K := K) (a := p) (xs := cutV (ns.map V.int) none (some 13)) (fun i σ H2 => ∃ (mx : Int) (v : Option V), σ = [some (.ref a), some (.int k), some (.int own), some (.int mx), v] ∧ H2 = upd H p (.lst (cutV (ns.map V.int) none (some 13))))
        ⟨_, none, rfl, rfl⟩ (fun i σ H2 _ ⟨_, _, _, e2⟩ => by rw [e2]; exact SqL.of upd_same) ?_ ?_⟩
      · rintro i y σ H2 hi ⟨mx, v, rfl, rfl⟩
        obtain ⟨z, rfl⟩ := cm hi
        refine ⟨.int mx, rfl, mx, 38699, rfl, rfl, .inr ⟨by decide, by decide⟩, .int z, rfl, .inl ⟨z, rfl, z, 1999999859, rfl, rfl, (by show (0 : Int) < 1999999859; decide), _, _, rfl, rfl, .inl ⟨_, rfl, _, 1999999859, rfl, rfl, (by show (0 : Int) < 1999999859; decide), ?_⟩⟩⟩
        exact ⟨_, _, rfl, rfl⟩
      · rintro σ H2 ⟨mx, v, rfl, rfl⟩
        have fin : ∀ g : Int, ∀ (Hq : Hp), Hq = upd H p (.lst (cutV (ns.map V.int) none (some 13))) → ∀ l, Hq l = none → Q (.ref l) (upd Hq l (.lst [.int 3, .int g, .int ((mx * 11 + own % 1999999859) % 1999999859)])) := fun g Hq e l nl => by
          subst e
          have sm := (same_upd np (o := .lst (cutV (ns.map V.int) none (some 13))))
          exact q l _ (fun b o x => same_upd nl _ _ (sm _ _ x)) (sm.free nl) ⟨_, _, _, upd_same⟩
        refine ⟨.int own, rfl, own, 0, rfl, rfl, _, rfl, ite2 (fun _ => ?_) (fun _ => ?_)⟩
        · refine ite2 (fun _ => ?_) (fun hh => absurd rfl hh)
          refine ⟨.int own, rfl, own, rfl, .int mx, rfl, mx, 11, rfl, rfl, .inr ⟨by decide, by decide⟩, .int own, rfl, own, 1999999859, rfl, rfl, (by show (0 : Int) < 1999999859; decide), _, _, rfl, rfl, .inl ⟨_, rfl, _, 1999999859, rfl, rfl, (by show (0 : Int) < 1999999859; decide), ?_⟩⟩
          refine ⟨(by show 3 ≤ sizeLine; decide), fun l nl => ?_⟩
          exact fin _ _ rfl l nl
        · refine ⟨.int own, rfl, 10, 13, rfl, rfl, ⟨by decide, by decide, by decide⟩, own, _, rfl, rfl, _, rfl, ite2 (fun _ => ?_) (fun _ => ?_)⟩
          · refine ⟨.int own, rfl, own, rfl, .int mx, rfl, mx, 11, rfl, rfl, .inr ⟨by decide, by decide⟩, .int own, rfl, own, 1999999859, rfl, rfl, (by show (0 : Int) < 1999999859; decide), _, _, rfl, rfl, .inl ⟨_, rfl, _, 1999999859, rfl, rfl, (by show (0 : Int) < 1999999859; decide), ?_⟩⟩
            refine ⟨(by show 3 ≤ sizeLine; decide), fun l nl => ?_⟩
            exact fin _ _ rfl l nl
          · refine ⟨.int mx, rfl, mx, 11, rfl, rfl, .inr ⟨by decide, by decide⟩, .int own, rfl, own, 1999999859, rfl, rfl, (by show (0 : Int) < 1999999859; decide), _, _, rfl, rfl, .inl ⟨_, rfl, _, 1999999859, rfl, rfl, (by show (0 : Int) < 1999999859; decide), ?_⟩⟩
            refine ⟨(by show 3 ≤ sizeLine; decide), fun l nl => ?_⟩
            exact fin _ _ rfl l nl
    · refine ⟨.int k, rfl, 37, k, rfl, rfl, .inl ⟨by decide, by decide⟩, _, 13, rfl, rfl, ?_⟩
      refine ⟨.int k, rfl, 1709, k, rfl, rfl, .inl ⟨by decide, by decide⟩, 60013, _, rfl, rfl, ?_⟩
      refine ⟨.ref a, rfl, 13, rfl, a, _, rfl, hs, fun p np => ?_⟩
      refine ⟨p, rfl, ⟨_, SqL.of upd_same⟩, for_list (K := K) (a := p) (xs := cutV (ns.map V.int) none (some 13)) (fun i σ H2 => ∃ (mx : Int) (v : Option V), σ = [some (.ref a), some (.int k), some (.int (37 * k + 13)), some (.int mx), v] ∧ H2 = upd H p (.lst (cutV (ns.map V.int) none (some 13))))
        ⟨_, none, rfl, rfl⟩ (fun i σ H2 _ ⟨_, _, _, e2⟩ => by rw [e2]; exact SqL.of upd_same) ?_ ?_⟩
      · rintro i y σ H2 hi ⟨mx, v, rfl, rfl⟩
        obtain ⟨z, rfl⟩ := cm hi
        refine ⟨.int mx, rfl, mx, 38699, rfl, rfl, .inr ⟨by decide, by decide⟩, .int z, rfl, .inl ⟨z, rfl, z, 1999999859, rfl, rfl, (by show (0 : Int) < 1999999859; decide), _, _, rfl, rfl, .inl ⟨_, rfl, _, 1999999859, rfl, rfl, (by show (0 : Int) < 1999999859; decide), ?_⟩⟩⟩
        exact ⟨_, _, rfl, rfl⟩
      · rintro σ H2 ⟨mx, v, rfl, rfl⟩
        have fin : ∀ g : Int, ∀ (Hq : Hp), Hq = upd H p (.lst (cutV (ns.map V.int) none (some 13))) → ∀ l, Hq l = none → Q (.ref l) (upd Hq l (.lst [.int 3, .int g, .int ((mx * 11 + (37 * k + 13) % 1999999859) % 1999999859)])) := fun g Hq e l nl => by
          subst e
          have sm := (same_upd np (o := .lst (cutV (ns.map V.int) none (some 13))))
          exact q l _ (fun b o x => same_upd nl _ _ (sm _ _ x)) (sm.free nl) ⟨_, _, _, upd_same⟩
        refine ⟨.int (37 * k + 13), rfl, (37 * k + 13), 0, rfl, rfl, _, rfl, ite2 (fun _ => ?_) (fun _ => ?_)⟩
        · refine ite2 (fun _ => ?_) (fun hh => absurd rfl hh)
          refine ⟨.int (37 * k + 13), rfl, (37 * k + 13), rfl, .int mx, rfl, mx, 11, rfl, rfl, .inr ⟨by decide, by decide⟩, .int (37 * k + 13), rfl, (37 * k + 13), 1999999859, rfl, rfl, (by show (0 : Int) < 1999999859; decide), _, _, rfl, rfl, .inl ⟨_, rfl, _, 1999999859, rfl, rfl, (by show (0 : Int) < 1999999859; decide), ?_⟩⟩
          refine ⟨(by show 3 ≤ sizeLine; decide), fun l nl => ?_⟩
          exact fin _ _ rfl l nl
        · refine ⟨.int (37 * k + 13), rfl, 10, 13, rfl, rfl, ⟨by decide, by decide, by decide⟩, (37 * k + 13), _, rfl, rfl, _, rfl, ite2 (fun _ => ?_) (fun _ => ?_)⟩
          · refine ⟨.int (37 * k + 13), rfl, (37 * k + 13), rfl, .int mx, rfl, mx, 11, rfl, rfl, .inr ⟨by decide, by decide⟩, .int (37 * k + 13), rfl, (37 * k + 13), 1999999859, rfl, rfl, (by show (0 : Int) < 1999999859; decide), _, _, rfl, rfl, .inl ⟨_, rfl, _, 1999999859, rfl, rfl, (by show (0 : Int) < 1999999859; decide), ?_⟩⟩
            refine ⟨(by show 3 ≤ sizeLine; decide), fun l nl => ?_⟩
            exact fin _ _ rfl l nl
          · refine ⟨.int mx, rfl, mx, 11, rfl, rfl, .inr ⟨by decide, by decide⟩, .int (37 * k + 13), rfl, (37 * k + 13), 1999999859, rfl, rfl, (by show (0 : Int) < 1999999859; decide), _, _, rfl, rfl, .inl ⟨_, rfl, _, 1999999859, rfl, rfl, (by show (0 : Int) < 1999999859; decide), ?_⟩⟩
            refine ⟨(by show 3 ≤ sizeLine; decide), fun l nl => ?_⟩
            exact fin _ _ rfl l nl
theorem ok_law {kR : Nat} {f fS fR : Addr} {fd fdS fdR : FuncData} (F : Fun K "law" "law" sLaw f fd) (FS : Fun K "_law_spring" "_law_spring" sSpring fS fdS) (bS : Binds K fdS ["_law_script", "_law_k"] []) (gS : mg "_law_spring" = some (.ref fS))
    (kpR : PySem.W.keepIn K (.ref fR) = true) (GR : FnOk P w K mg base CX0 (kR + 2) fR fdR ["_law_spring_here"] spRight) (bR : Binds K fdR ["_law_spring_here"] []) (gR : mg "_law_right" = some (.ref fR)) (B : Bt mg) :
    FnOk P w K mg base CX0 (kR + 3) f fd ["_law_script"] (spLaw K) := by
  have GS : FnOk P w K mg base CX0 2 fS fdS ["_law_script", "_law_k"] (spSpring K) := ok_spring FS B
  refine F.ok scLaw (fun vs H Q E h => ?_) (fun cdv A outer s H vs Q E hr h => ?_)
  · obtain ⟨a, xs, rfl, _⟩ := h
    rfl
  · obtain ⟨a, ns, rfl, hs, hlen, q⟩ := h
    have hr1 : Room 2 _ := hr.mono (by omega)
    refine ⟨_, pss_one (ps_ret (pe_callB (cr_all rfl) (by rfl) B.all (by decide +kernel) (pa_cons
      (pe_lc (own := [("_law_k", 1)]) (g := gName 1) (tt := tYes) rfl scLaw.nd
        (pi_range1 (by rfl) B.range (pa_cons (pe_callB (call_max2 rfl) (by rfl) B.max (by decide +kernel) (pa_cons pe_int (pa_cons (pe_callB (call_min2 rfl) (by rfl) B.min (by decide +kernel) (pa_cons (pe_callB call_len_seq (by rfl) B.len PySem.boot_len (pa_cons (pv 0) pa_nil)) (pa_cons pe_int pa_nil))) pa_nil))) pa_nil))
        (blkOk_by (own := [("_law_k", 1)]) (N := ["_law_script", "_law_k"]) (sc := defScope sLaw) (by decide +kernel)) (fun _ _ _ _ _ => pg_name (i := 1) scLaw.nd rfl (Or.inl rfl)) (fun _ _ _ _ _ => pts_nil)
        (fun _ _ _ _ _ => pe_call GR hr (by rfl) gR kpR bR .nil pass0 (pa_cons (pe_call GS hr1 (by rfl) gS FS.kp bS .nil pass0 (pa_cons (pv 0) (pa_cons (pv 1) pa_nil))) pa_nil)))
      pa_nil))), ?_⟩
    refine ⟨.ref a, rfl, a, _, rfl, .inl hs, _, 4, rfl, 2, _, rfl, _, rfl, ?_, ?_, ?_⟩
    · split <;> (try split) <;> rw [List.length_map] at * <;> omega
    · split <;> (try split) <;> rw [List.length_map] at * <;> omega
    · intro D nD
      refine lc_range (n := _) (fun i H2 => Same H H2 ∧ H2 D = some (.lst (List.replicate i (V.bl true)))) ⟨same_upd nD, upd_same⟩ ?_ ?_
      · rintro i H2 hi ⟨sm, hD⟩
        refine ⟨rfl, .ref a, rfl, .int (0 + (i : Int)), rfl, a, _, ns, rfl, sm.seq hs, by omega, hlen, fun p H3 sm3 np hp => ?_⟩
        have nDp : D ≠ p := ne_of_none hD np
        refine ⟨p, rfl, hp, fun H4 b4 => ?_⟩
        have hD4 : H4 D = some (.lst (List.replicate i (V.bl true))) := b4 _ _ (sm3 _ _ hD) nDp
        refine ⟨_, hD4, ?_, fun b o e => ?_, ?_⟩
        · rw [List.length_replicate]
          have hi2 : i < 6 := by
            revert hi
            split <;> (try split) <;> omega
          exact Nat.lt_of_lt_of_le hi2 (by decide)
        · have nbD : b ≠ D := ne_of_none e nD
          rw [upd_ne nbD]
          exact b4 _ _ (sm3 _ _ (sm _ _ e)) (ne_of_none (sm _ _ e) np)
        · rw [upd_same, List.replicate_succ']
      · rintro H2 ⟨sm, hD⟩
        obtain ⟨n, hD⟩ : ∃ n, H2 D = some (.lst (List.replicate n (V.bl true))) := ⟨_, hD⟩
        refine ⟨D, List.replicate n true, rfl, ?_, ?_⟩
        · rw [List.map_replicate]
          exact SqL.of hD
        · have e : (List.replicate n true).all id = true := by simp
          rw [e]
          exact q _
end
end My

namespace MyEn
open PySem
/-! enumerate(t), t a tuple -/
theorem new_tup (l : Addr) (its : Array Value) (n : Nat) (dc : Option Addr) (sl : Array (Option Value)) :
    Meets (Builtin.«enumerate.__new__» ⟨[.type "enumerate", .ref l], []⟩) (fun _ R s =>
      s.heap.get? l = some { cls := .type "tuple", dict := dc, data := .seq its n, slots := sl } ∧
      R (.ok (.ret (.ref (s.heap.push { cls := .type "tuple_iterator", data := .fields #[.ref l, .int 0 0] }).objs.size)))
        { s with heap := (s.heap.push { cls := .type "tuple_iterator", data := .fields #[.ref l, .int 0 0] }).push { cls := .type "enumerate", data := .fields #[.none, .bool false, .ref s.heap.objs.size, rawInt 0, .none, .none] } }) := .of_wp fun prog w A R s ⟨hl, h⟩ => by
  obtain ⟨hp, g, d, tk, os⟩ := s
  have hs := sub_enumerate
  have hT : Heap.IsTuple (Shared.heap ⟨hp, g, d, tk, os⟩) l its := ⟨_, hl, rfl, n, rfl⟩
  wp_walk using AutoSeq1.wpAny_loadPart' hl
  refine wpAny_stack_any (fun st => wpAny_pure ?_)
  split
  · rename_i c _ _ _ _ _
    cases (c == Value.type "enumerate") <;> (wp_walk using AutoSeq1.wpAny_loadPart' hl, wpAny_pyIter_tuple hT; exact ⟨_, rfl, h⟩)
  · (wp_walk using AutoSeq1.wpAny_loadPart' hl, wpAny_pyIter_tuple hT; exact ⟨_, rfl, h⟩)
section
variable {prog : Program} {w : World} {A : Around} {E : Value → Shared → Prop} {s : Shared}
theorem call_tup {l : Addr} {its : Array Value} {Q : Value → Shared → Prop} (hL : s.heap.IsTuple l its)
    (h : ∀ h', IsEnum h' (s.heap.objs.size + 1) s.heap.objs.size 0 .none → h'.IsTupleIter s.heap.objs.size l 0 → (∀ b o, s.heap.get? b = some o → h'.get? b = some o) → Q (.ref (s.heap.objs.size + 1)) { s with heap := h' }) :
    wpAny (model prog w) A (call (.type "enumerate") [.ref l]) Q E s := by
  obtain ⟨⟨c, dc, dt, sl⟩, hl, hc, n, hd⟩ := hL
  have hc' : c = .type "tuple" := hc
  have hd' : dt = .seq its n := hd
  subst hc' hd'
  refine callType_new F.called_enumerate (by decide) (F.typeCall_enumerate_1 _) (F.newCall_enumerate_1 _) (fun obj => F.args_object_init_2 obj _) F.entry_enumerate_new (new_tup l its n dc sl) ⟨hl, ?_⟩
  generalize hI : (s.heap.push { cls := .type "tuple_iterator", data := .fields #[.ref l, .int 0 0] }) = hI1
  have hz : hI1.objs.size = s.heap.objs.size + 1 := by rw [← hI]; exact Heap.size_push ..
  have he : IsEnum (hI1.push { cls := .type "enumerate", data := .fields #[.none, .bool false, .ref s.heap.objs.size, rawInt 0, .none, .none] }) (s.heap.objs.size + 1) s.heap.objs.size 0 .none := by
    have q := Heap.get?_push_size hI1 (o := { cls := .type "enumerate", data := .fields #[.none, .bool false, .ref s.heap.objs.size, rawInt 0, .none, .none] }) rfl
    rw [hz] at q
    exact q
  have hk : ∀ b o, s.heap.get? b = some o → hI1.get? b = some o := fun b o x => by rw [← hI]; exact Heap.get?_push_of_some _ x
  have hit : hI1.IsTupleIter s.heap.objs.size l 0 := by rw [← hI]; exact ⟨_, Heap.get?_push_size _ rfl, rfl, rfl⟩
  show _ ∧ _
  rw [hz]
  obtain ⟨oi, h1, h2⟩ := hit
  exact ⟨⟨_, he, rfl⟩, h _ he ⟨oi, Heap.get?_push_of_some _ h1, h2⟩ (fun b o x => Heap.get?_push_of_some _ (hk b o x))⟩
end
end MyEn
namespace L2
open PySem PySem.Spec PyProof.Rows
/-- the tuple at a, each item in a new pair -/
def Iten (K : PySem.W.Frag) (a : Addr) : It :=
  ⟨fun i H => ∃ (xs : List V) (x : V), SqT K H a xs ∧ xs[i]? = some x,
   fun i H v H' => ∃ T x, v = .ref T ∧ H T = none ∧ H' = upd H T (.tup [.int (i : Nat), x]) ∧ ∀ xs, SqT K H a xs → xs[i]? = some x,
   fun i H => ∃ xs : List V, SqT K H a xs ∧ xs.length ≤ i⟩
theorem turn_enT {P : Program} {w : World} {K : PySem.W.Frag} {elts : List Expr} {kk : Nat} {tpos : Pos} (a e it : Addr) (hai : a ≠ it) :
    Turn P w K (.Tuple elts kk tpos) (Iten K a) [e, it] e (fun i h => (∃ old, IsEnum h e it ((i : Nat) : Int) old) ∧ h.IsTupleIter it a i ∧ e ≠ it ∧ e ≠ a) where
  mem := by simp
  obj := fun i h st b hb => by
    obtain ⟨⟨old, he⟩, ⟨o, ho, hc, hd⟩, hne, _⟩ := st
    have e' : b = e ∨ b = it := by simpa using hb
    rcases e' with z | z
    · rw [z]
      refine ⟨_, he, ?_⟩
      intro v q
      cases q
    · rw [z]
      refine ⟨o, ho, ?_⟩
      intro v q
      rw [hd] at q
      cases q
  keep := fun i h h' st k => let ⟨⟨old, he⟩, hi, hne⟩ := st; ⟨⟨old, k e (by simp) _ he⟩, hi.at fun o q => k it (by simp) o q, hne⟩
  item := by
    intro X hP hw hK hc i pins s σ H E I hf st hg
    subst hP hw hK
    obtain ⟨⟨old, he⟩, hit, hne, hea⟩ := st
    obtain ⟨xs, x, hq, hx⟩ := hg
    obtain ⟨its, rv, p, hz⟩ := I.tuple hq
    obtain ⟨u, hu, ru⟩ := rv.get hx
    have hel : e < s.heap.objs.size := Heap.lt_size he
    have hil : it < s.heap.objs.size := by obtain ⟨_, q, _⟩ := hit; exact Heap.lt_size q
    have hlen : i < its.toArray.size := by
      have := (List.getElem?_eq_some_iff.mp hu).1
      simpa using this
    have D := Draws.tuple (prog := X.prog) (w := X.w) (A := X.A.in1) (I.ok.hd hc) it a hai its.toArray
    refine wpAny_pyNext_enum_itemD D he ⟨hit, show s.heap.IsTuple a its.toArray from p⟩ hlen hne (by simp; exact ⟨hne, hea⟩) fun y h' tk hy ho hit' hT hsz hk => ?_
    have hyu : y = u := by
      have h1 : its.toArray[i]? = some y := hy
      have h2 : its.toArray[i]? = some u := by simpa using hu
      rw [h1] at h2
      exact Option.some.inj h2
    subst hyu
    refine ⟨_, rfl, wpAny_letOwnedTupleGo_enum (s := { s with heap := h', toks := tk + 1 }) ho fun h'' he' sb => ?_⟩
    have hT2 : h''.get? s.heap.objs.size = some { cls := .type "tuple", data := .seq #[.int i tk, y] } := (sb.2 _ (Nat.ne_of_gt hel)).trans hT
    have new : ObjOk X.prog X.w (upd H s.heap.objs.size (.tup [.int (i : Nat), x])) h'' s.heap.objs.size (.tup [.int (i : Nat), x]) :=
      ⟨(by show 2 ≤ sizeLine; decide), [.int i tk, y], .cons ⟨_, rfl⟩ (.cons ru .nil), ⟨_, hT2, rfl, _, rfl⟩⟩
    have stay : ∀ b o, b ∉ [e, it] → s.heap.get? b = some o → h''.get? b = some o := fun b o hb q => by
      have n1 : b ≠ e := fun z => hb (by simp [z])
      have n2 : b ≠ it := fun z => hb (by simp [z])
      exact (sb.2 b n1).trans (hk b o n1 n2 q)
    have I1 : Inv X pins σ (upd H s.heap.objs.size (.tup [.int (i : Nat), x])) { s with heap := h'', toks := tk + 1 } := I.turnedNew (ch := [e, it]) stay hf (Nat.le_refl _) new
    have hsucc : ((i + 1 : Nat) : Int) = (i : Int) + 1 := by omega
    refine ⟨.ref s.heap.objs.size, _, I1, rfl, ⟨_, x, rfl, I.hok.fresh (Nat.le_refl _), rfl, fun ys hy => (I.tuple_inj hy hq) ▸ hx⟩, ⟨⟨y, by rw [hsucc]; exact he'⟩, hit'.1.at fun o q => (sb.2 it (Ne.symm hne)).trans q, hne, hea⟩, fun b hb => ?_⟩
    have hb' : b < s.heap.objs.size := by
      have e' : b = e ∨ b = it := by simpa using hb
      rcases e' with z | z <;> (rw [z]; assumption)
    rw [upd_ne (Nat.ne_of_lt hb')]
    exact (hf b hb).1
  done := by
    intro X hP hw hK hc i pins s σ H E I hf st hg
    subst hP hw hK
    obtain ⟨⟨old, he⟩, hit, hne, hea⟩ := st
    obtain ⟨xs, hq, hx⟩ := hg
    obtain ⟨its, rv, p, hz⟩ := I.tuple hq
    obtain ⟨f0, f1, f2, f3, f4, f5⟩ := hf it (by simp)
    have hl := rv.length
    have hT : s.heap.IsTuple a its.toArray := p
    have hnone : its.toArray[i]? = none := by simp; omega
    have D : Draws X.prog X.w X.A.in1 it [it, a] i (fun _ _ => False) (fun j h => j = i ∧ h.IsTupleIter it a i ∧ h.IsTuple a its.toArray) :=
      ⟨fun _ _ st => let ⟨o, ho, _⟩ := st.2.1; ⟨o, ho⟩, fun _ _ _ st hk => ⟨st.1, st.2.1.at fun o e => hk it (by simp) o e, st.2.2.at fun o e => hk a (by simp) o e⟩,
       fun j _ _ _ hj st _ => absurd st.1 (Nat.ne_of_lt hj), fun s Q E st hE => wpAny_nextOf_tuple_end (I.ok.hd hc) st.2.1 st.2.2 hnone hE⟩
    exact wpAny_pyNext_enum_endD D he ⟨rfl, hit, hT⟩ fun h' eb => ⟨rfl, I.turned (t' := s.toks) (fun b o hb q => eb b o hb q) f0 f1 f3 f4 f5⟩
  self := fun A i s Q E st h => let ⟨⟨_, he⟩, _⟩ := st; wpAny_pyIter_enum he h

def iEnT (K : PySem.W.Frag) (ta : TA) : TI := fun σ H R => ta σ H fun vs H1 => ∃ a xs, vs = [.ref a] ∧ SqT K H1 a xs ∧ R (Iten K a) H1
theorem pi_enT {X : Cx} {e : Expr} {ta : TA} {p pos tpos : Pos} {elts : List Expr} {kk : Nat} (hg : Gl X "enumerate") (hm : X.mg "enumerate" = none) (ha : PA X [e] ta) (hs : starEach [e] X.env = [(false, eval e X.env)] := by rfl) :
    PI X (.Tuple elts kk tpos) (.Call (.Name "enumerate" p) [e] [] pos) (iEnT X.K ta) := by
  constructor
  intro pins s σ H R I h
  refine Call_ (ld_blt I hg hm boot_enumerate (PyProof.Rows.callWith_type1 (thn (ha.run pos pins s σ H _ I h) ?_) hs rfl))
  rintro us s1 ⟨vs, H1, I1, r1, a, xs, rfl, hq, q⟩
  cases r1 with
  | cons r rr =>
    cases rr
    cases r
    obtain ⟨its, rv, p', hz⟩ := I1.tuple hq
    have hT : s1.heap.IsTuple a its.toArray := p'
    have hlt : a < s1.heap.objs.size := by obtain ⟨o, ho, _⟩ := hT; exact Heap.lt_size ho
    refine MyEn.call_tup hT fun h' he hit hk => wpAny_pyIter_enum he ?_
    have I2 : Inv X pins σ H1 { s1 with heap := h' } := I1.kept (t' := s1.toks) hk
    refine ⟨s1.heap.objs.size + 1, [s1.heap.objs.size + 1, s1.heap.objs.size], _, _, H1, rfl, I2, turn_enT a (s1.heap.objs.size + 1) s1.heap.objs.size (Nat.ne_of_lt hlt), ⟨⟨.none, he⟩, hit, Nat.succ_ne_self _, Nat.ne_of_gt (Nat.lt_succ_of_lt hlt)⟩, ?_, q⟩
    intro b hb
    have e' : b = s1.heap.objs.size + 1 ∨ b = s1.heap.objs.size := by simpa using hb
    have hle : s1.heap.objs.size ≤ b := e'.elim (fun z => z ▸ Nat.le_succ _) (fun z => z ▸ Nat.le_refl _)
    exact I1.fpOk hle (I1.hok.fresh hle)
/-- for place, item in enumerate(t): by an invariant; the pair is new each time -/
theorem for_enT {K : PySem.W.Frag} {a : Addr} {xs : List V} {g : TG} {tb : TS} {D : Ends} {σ : St} {H : Hp} (Pv : Nat → St → Hp → Prop) (h0 : Pv 0 σ H)
    (hl : ∀ i σ H, i ≤ xs.length → Pv i σ H → SqT K H a xs)
    (ht : ∀ (i : Nat) (x : V) (σ : St) (H : Hp) (T : Addr), xs[i]? = some x → Pv i σ H → H T = none → g (.ref T) σ (upd H T (.tup [.int (i : Nat), x])) fun σ2 H2 => tb { nx := Pv (i + 1), rt := D.rt, bk := D.nx, ct := Pv (i + 1) } σ2 H2)
    (he : ∀ σ H, Pv xs.length σ H → D.nx σ H) :
    ∃ W : Nat → Nat → St → Hp → Prop, (∃ m, W 0 m σ H) ∧ ∀ i m σ H, W i m σ H → ((Iten K a).stop i H ∧ D.nx σ H) ∨
      ((Iten K a).go i H ∧ ∃ N : St → Hp → Prop, (∀ σ' H', N σ' H' → ∃ m', m' < m ∧ W (i + 1) m' σ' H') ∧
        ∀ x H', (Iten K a).yld i H x H' → g x σ H' fun σ2 H2 => tb { nx := N, rt := D.rt, bk := D.nx, ct := N } σ2 H2) := by
  refine ⟨fun i m σ H => Pv i σ H ∧ i + m = xs.length, ⟨xs.length, h0, by omega⟩, fun i m σ H hW => ?_⟩
  obtain ⟨hp, hm⟩ := hW
  have hsq := hl i σ H (by omega) hp
  by_cases hi : i < xs.length
  · refine .inr ⟨⟨xs, xs[i], hsq, List.getElem?_eq_getElem hi⟩, Pv (i + 1), fun σ' H' hN => ⟨m - 1, by omega, hN, by omega⟩, ?_⟩
    rintro x H' ⟨T, y, rfl, hT, rfl, hy⟩
    exact ht i y σ H T (hy xs hsq) hp hT
  · have : i = xs.length := by omega
    subst this
    exact .inl ⟨⟨xs, hsq, Nat.le_refl _⟩, he σ H hp⟩
end L2

namespace My
open PySem PySem.Spec PyProof.Rows L2
/-- a def of the text: where it stands, how it is bound -/
structure Dd (K : PySem.W.Frag) (mg : Str → Option Value) (x : Str) (st : Stmt) (ps : List Str) where
  f : Addr
  fd : FuncData
  F : Fun K x x st f fd
  b : Binds K fd ps []
  g : mg x = some (.ref f)
abbrev sWithin : Stmt := top 12
abbrev sInteger : Stmt := top 11
abbrev sUnit : Stmt := top 24
abbrev sUName : Stmt := top 25
abbrev sFits : Stmt := top 26
abbrev sCUnits : Stmt := top 23
/-- is_within, with what it calls -/
structure DdW (K : PySem.W.Frag) (mg : Str → Option Value) extends Dd K mg "is_within" sWithin ["value", "low", "high"] where
  dI : Dd K mg "is_integer" sInteger ["value"]
theorem scInteger : FnScope ["value"] ["value"] (defScope sInteger) := ⟨rfl, rfl, rfl, by decide +kernel, rfl, by decide +kernel, by decide +kernel⟩
theorem scWithin : FnScope ["value", "low", "high"] ["value", "low", "high"] (defScope sWithin) := ⟨rfl, rfl, rfl, by decide +kernel, rfl, by decide +kernel, by decide +kernel⟩
theorem scUnit : FnScope ["unit"] ["unit"] (defScope sUnit) := ⟨rfl, rfl, rfl, by decide +kernel, rfl, by decide +kernel, by decide +kernel⟩
theorem scUName : FnScope ["name"] ["name"] (defScope sUName) := ⟨rfl, rfl, rfl, by decide +kernel, rfl, by decide +kernel, by decide +kernel⟩
def letters : Str := "ABCDEFGHIJKLMNOPQRSTUVWXYZabcdefghijklmnopqrstuvwxyz"
/-- the constants of the text -/
structure Gc (K : PySem.W.Frag) (mg : Str → Option Value) : Prop where
  units : ∃ t, mg "MOST_UNITS" = some (.int 6 t)
  decs : ∃ t, mg "MOST_DECIMALS" = some (.int 3 t)
  least : ∃ t, mg "MOST_LEAST" = some (.int 1000 t)
  num : ∃ t, mg "MOST_NUMBER" = some (.int 1000000000000000000 t)
  mlet : ∃ t, mg "MOST_LETTERS" = some (.int 3 t)
  letters : ∃ t, mg "LETTERS" = some (.str letters t)
  parts : ∃ a, mg "PARTS" = some (.ref a) ∧ ∀ H, SqT K H a [.int 1, .int 10, .int 100, .int 1000]
  rounds : ∃ a, mg "ROUNDINGS" = some (.ref a) ∧ ∀ H, SqT K H a [.str "down", .str "up", .str "near", .str "even"]
/-- a name of a unit, as the program asks -/
def GoodN (z : Str) : Prop := z.length ≤ 3 ∧ Txt.stripChars z letters = "" ∧ PyData.strOk z = true ∧ z.cps.toList.all (letters.cps.contains ·) = true
theorem tyx_tup {K : PySem.W.Frag} {H : Hp} {p : Addr} {xs : List V} (h : SqT K H p xs) : TyX K H (.ref p) (.type "tuple") := by
  rcases h with (h | ⟨o, h⟩) | ⟨o, its, n, h1, h2, _⟩
  · exact .base (.tup h)
  · exact .fTuple h
  · exact .kTuple h1 h2
theorem same_sqt {K : PySem.W.Frag} {a : Addr} {xs : List V} {H H' : Hp} (b : Same H H') (h : SqT K H a xs) : SqT K H' a xs := by
  rcases h with (h | ⟨o, h⟩) | h
  · exact .inl (.inl (b _ _ h))
  · exact .inl (.inr ⟨o, b _ _ h⟩)
  · exact .inr h
def spInteger : Sp := fun vs H Q _ => ∃ v : Int, vs = [.int v] ∧ Q (.bl true) H
def spWithin : Sp := fun vs H Q _ => ∃ v lo hi : Int, vs = [.int v, .int lo, .int hi] ∧ Q (.bl (decide (lo ≤ v ∧ v ≤ hi))) H
def spUName : Sp := fun vs H Q _ => ∃ z : Str, vs = [.str z] ∧ GoodN z ∧ Q (.bl true) H
def spUnit (K : PySem.W.Frag) : Sp := fun vs H Q _ => ∃ (p : Addr) (z : Str) (n : Int), vs = [.ref p] ∧ SqT K H p [.str z, .int n] ∧ GoodN z ∧ 1 ≤ n ∧ n ≤ 1000000000000000000 ∧ Q (.bl true) H
section
variable {P : Program} {w : World} {K : PySem.W.Frag} {mg : Str → Option Value} {base : Heap}
theorem ok_integer (d : Dd K mg "is_integer" sInteger ["value"]) (B : Bt mg) : FnOk P w K mg base CX0 1 d.f d.fd ["value"] spInteger := by
  refine d.F.ok scInteger (fun vs H Q E h => ?_) (fun cdv A outer s H vs Q E hr h => ?_)
  · obtain ⟨_, rfl, _⟩ := h
    rfl
  · obtain ⟨v, rfl, q⟩ := h
    refine ⟨_, pss_one (ps_ret (pe_and (pe_callB call_isi (by rfl) B.isinstance (by decide +kernel) (pa_cons (pv 0) (pa_cons (pe_bltn (v := .ty "int") (by rfl) B.int (by decide +kernel) rfl) pa_nil)))
      (pe_one (pe_not (pe_callB call_isi (by rfl) B.isinstance (by decide +kernel) (pa_cons (pv 0) (pa_cons (pe_bltn (v := .ty "bool") (by rfl) B.bool (by decide +kernel) rfl) pa_nil))))))), ?_⟩
    refine ⟨_, rfl, _, _, _, _, true, rfl, .ty "int", .base (.int v), kit_ty (by decide +kernel), _, rfl, iteT ?_⟩
    exact ⟨_, rfl, _, _, _, _, false, rfl, .ty "bool", .base (.int v), kit_ty (by decide +kernel), _, rfl, q⟩
theorem ok_within (d : DdW K mg) (B : Bt mg) : FnOk P w K mg base CX0 2 d.f d.fd ["value", "low", "high"] spWithin := by
  have GI : FnOk P w K mg base CX0 1 d.dI.f d.dI.fd ["value"] spInteger := ok_integer d.dI B
  refine d.F.ok scWithin (fun vs H Q E h => ?_) (fun cdv A outer s H vs Q E hr h => ?_)
  · obtain ⟨_, _, _, rfl, _⟩ := h
    rfl
  · obtain ⟨v, lo, hi, rfl, q⟩ := h
    refine ⟨_, pss_one (ps_ret (pe_and (pe_call GI hr (by rfl) d.dI.g d.dI.F.kp d.dI.b .nil pass0 (pa_cons (pv 0) pa_nil))
        (pe_one (pe_chain op_le op_le (pv 1) (pv 0) (pv 2))))), ?_⟩
    refine ⟨.int v, rfl, v, rfl, _, rfl, iteT ?_⟩
    refine ⟨.int lo, rfl, .int v, rfl, lo, v, rfl, rfl, _, rfl, ite2 (fun e => ?_) (fun e => ?_)⟩
    · have h1 : lo ≤ v := of_decide_eq_true e
      refine ⟨.int hi, rfl, v, hi, rfl, rfl, ?_⟩
      have e2 : decide (v ≤ hi) = decide (lo ≤ v ∧ v ≤ hi) := by simp [h1]
      show Q (.bl (decide (v ≤ hi))) H
      rw [e2]
      exact q
    · have h1 : ¬ lo ≤ v := fun z => e (decide_eq_true z)
      have e2 : false = decide (lo ≤ v ∧ v ≤ hi) := by simp [h1]
      rw [e2]
      exact q
theorem ok_uname (d : Dd K mg "is_unit_name" sUName ["name"]) (B : Bt mg) (G : Gc K mg) : FnOk P w K mg base CX0 2 d.f d.fd ["name"] spUName := by
  obtain ⟨t1, g1⟩ := G.mlet
  obtain ⟨t2, g2⟩ := G.letters
  refine d.F.ok scUName (fun vs H Q E h => ?_) (fun cdv A outer s H vs Q E hr h => ?_)
  · obtain ⟨_, rfl, _⟩ := h
    rfl
  · obtain ⟨z, rfl, ⟨h1, h2, _⟩, q⟩ := h
    refine ⟨_, pss_one (ps_ret (pe_and (pe_callB call_isi (by rfl) B.isinstance (by decide +kernel) (pa_cons (pv 0) (pa_cons (pe_bltn (v := .ty "str") (by rfl) B.str (by decide +kernel) rfl) pa_nil)))
      (pe_and (pe_cmpR op_le (pe_callB call_len_str (by rfl) B.len PySem.boot_len (pa_cons (pv 0) pa_nil)) (pe_glob (v := .int 3) (by rfl) g1 ⟨_, rfl⟩) (nomark _))
        (pe_one (pe_cmpR op_eq (pe_bm PySem.F.plainAttrs_str PySem.F.slot_str_strip PySem.F.type_str_strip mt_stripChars (pv 0) (pa_cons (pe_glob (v := .str letters) (by rfl) g2 ⟨_, rfl⟩) pa_nil)) pe_str (nomark _)))))), ?_⟩
    refine ⟨_, rfl, _, _, _, _, true, rfl, .ty "str", .base (.str z), kit_ty (by decide +kernel), _, rfl, iteT ?_⟩
    refine ⟨.str z, rfl, z, rfl, Nat.le_trans h1 (by decide), _, _, rfl, rfl, _, rfl, ?_⟩
    have e3 : decide ((z.length : Int) ≤ 3) = true := decide_eq_true (by omega)
    rw [if_pos e3]
    refine ⟨.str z, rfl, rfl, z, _, rfl, rfl, Nat.le_trans h1 (by decide), rfl, ?_⟩
    have e4 : decide (V.str (Txt.stripChars z letters) = V.str "") = true := decide_eq_true (by rw [h2])
    rw [e4]
    exact q
theorem ok_unit (d : Dd K mg "is_unit" sUnit ["unit"]) (dN : Dd K mg "is_unit_name" sUName ["name"]) (dW : DdW K mg) (B : Bt mg) (G : Gc K mg) : FnOk P w K mg base CX0 3 d.f d.fd ["unit"] (spUnit K) := by
  obtain ⟨t1, g1⟩ := G.num
  have GN : FnOk P w K mg base CX0 2 dN.f dN.fd ["name"] spUName := ok_uname dN B G
  have GW : FnOk P w K mg base CX0 2 dW.f dW.fd ["value", "low", "high"] spWithin := ok_within dW B
  refine d.F.ok scUnit (fun vs H Q E h => ?_) (fun cdv A outer s H vs Q E hr h => ?_)
  · obtain ⟨_, _, _, rfl, _⟩ := h
    rfl
  · obtain ⟨p, z, n, rfl, hp, hz, h1, h2, q⟩ := h
    refine ⟨_, pss_cons (ps_if (PW.pt (pw_or (pt_not (pt_val (pe_callB call_isi (by rfl) B.isinstance (by decide +kernel) (pa_cons (pv 0) (pa_cons (pe_bltn (v := .ty "tuple") (by rfl) B.tuple (by decide +kernel) rfl) pa_nil)))))
        (pw_or1 (pt_cmpR op_ne (pe_callB call_len_seq (by rfl) B.len PySem.boot_len (pa_cons (pv 0) pa_nil)) pe_int (nomark _))))) (pss_one (ps_ret pe_bl)) pss_nil)
      (pss_one (ps_ret (pe_and (pe_call GN hr (by rfl) dN.g dN.F.kp dN.b .nil pass0 (pa_cons (pe_ix ix_tup (pv 0) pe_int (fun _ _ => rfl)) pa_nil))
        (pe_one (pe_call GW hr (by rfl) dW.g dW.F.kp dW.b .nil pass0 (pa_cons (pe_ix ix_tup (pv 0) pe_int (fun _ _ => rfl)) (pa_cons pe_int (pa_cons (pe_glob (v := .int 1000000000000000000) (by rfl) g1 ⟨_, rfl⟩) pa_nil)))))))), ?_⟩
    refine ⟨_, rfl, _, _, _, _, true, rfl, .ty "tuple", tyx_tup hp, kit_ty (by decide +kernel), _, rfl, iteF ?_⟩
    refine ⟨.ref p, rfl, p, _, rfl, .inr hp, rfl, _, rfl, iteNS rfl ?_⟩
    refine ⟨.ref p, rfl, p, _, 0, .str z, rfl, rfl, hp, rfl, z, rfl, hz, _, rfl, iteT ?_⟩
    refine ⟨.ref p, rfl, p, _, 1, .int n, rfl, rfl, hp, rfl, n, 1, _, rfl, ?_⟩
    have e : decide (1 ≤ n ∧ n ≤ 1000000000000000000) = true := decide_eq_true ⟨h1, h2⟩
    rw [e]
    exact q
/-- the pairs of units stand -/
abbrev UP (K : PySem.W.Frag) (H : Hp) : List Addr → List (Str × Int) → Prop := PySem.Paired fun p u => SqT K H p [.str u.1, .int u.2]
/-- a tuple of units stands at a -/
def UA (K : PySem.W.Frag) (H : Hp) (a : Addr) (us : List (Str × Int)) : Prop := ∃ ps : List Addr, SqT K H a (ps.map V.ref) ∧ UP K H ps us
end
end My

namespace My
open PySem PySem.Spec PyProof.Rows L2
theorem paired_at {α β : Type} {F : α → β → Prop} : ∀ {l : List α} {m : List β} {i : Nat} {b : β}, PySem.Paired F l m → m[i]? = some b → ∃ a, l[i]? = some a ∧ F a b
  | _, _, _, _, .nil, e => by simp at e
  | _, _, 0, _, .cons r _, e => by simp at e; subst e; exact ⟨_, rfl, r⟩
  | _, _, i + 1, b, .cons _ t, e => by
    obtain ⟨u, h1, h2⟩ := paired_at (i := i) (b := b) t (by simpa using e)
    exact ⟨u, by simpa using h1, h2⟩
theorem paired_imp {α β : Type} {F G : α → β → Prop} (h : ∀ a b, F a b → G a b) : ∀ {l : List α} {m : List β}, PySem.Paired F l m → PySem.Paired G l m
  | _, _, .nil => .nil
  | _, _, .cons r t => .cons (h _ _ r) (paired_imp h t)
theorem UP.len {K : PySem.W.Frag} {H : Hp} {ps : List Addr} {us : List (Str × Int)} (h : UP K H ps us) : ps.length = us.length := PySem.Paired.length h
theorem UA.same {K : PySem.W.Frag} {H H' : Hp} {a : Addr} {us : List (Str × Int)} (s : Same H H') (h : UA K H a us) : UA K H' a us := by
  obtain ⟨ps, h1, h2⟩ := h
  exact ⟨ps, same_sqt s h1, paired_imp (fun _ _ => same_sqt s) h2⟩
theorem atI_end {α : Type} {xs : List α} {v : α} (h0 : 0 < xs.length) (h : xs[xs.length - 1]? = some v) : atI xs (-1) = some v := by
  unfold atI ixN
  have e1 : ¬ ((0 : Int) ≤ -1) := by omega
  have e2 : -(xs.length : Int) ≤ -1 := by omega
  have e3 : ((-1 : Int) + (xs.length : Int)).toNat = xs.length - 1 := by omega
  rw [if_neg e1, if_pos e2, e3]
  exact h
theorem get_ref {ps : List Addr} {i : Nat} {p : Addr} (h : ps[i]? = some p) : (ps.map V.ref)[i]? = some (.ref p) := by
  rw [List.getElem?_map, h]
  rfl
theorem of_get_ref {ps : List Addr} {i : Nat} {x : V} (h : (ps.map V.ref)[i]? = some x) : ∃ p, ps[i]? = some p ∧ x = .ref p := by
  rw [List.getElem?_map] at h
  cases e : ps[i]? with
  | none => rw [e] at h; cases h
  | some p => rw [e] at h; exact ⟨p, rfl, (Option.some.inj h).symm⟩
theorem paired_fst {α β : Type} {F : α → β → Prop} : ∀ {l : List α} {m : List β} {i : Nat} {a : α}, PySem.Paired F l m → l[i]? = some a → ∃ b, m[i]? = some b ∧ F a b
  | _, _, _, _, .nil, e => by simp at e
  | _, _, 0, _, .cons r _, e => by simp at e; subst e; exact ⟨_, rfl, r⟩
  | _, _, i + 1, b, .cons _ t, e => by
    obtain ⟨u, h1, h2⟩ := paired_fst (i := i) (a := b) t (by simpa using e)
    exact ⟨u, by simpa using h1, h2⟩
/-- a unit may stand behind others -/
def Fit (us : List (Str × Int)) (u : Str × Int) : Prop := (us = [] ∧ u.2 = 1) ∨ ∃ l, us[us.length - 1]? = some l ∧ us ≠ [] ∧ 0 < l.2 ∧ l.2 < u.2 ∧ u.2 % l.2 = 0 ∧ ∀ v ∈ us, v.1 ≠ u.1
theorem scFits : FnScope ["before", "unit", "name", "size", "last_size", "other"] ["before", "unit"] (defScope sFits) := ⟨rfl, rfl, rfl, by decide +kernel, rfl, by decide +kernel, by decide +kernel⟩
def spFits (K : PySem.W.Frag) : Sp := fun vs H Q _ => ∃ (b p : Addr) (us : List (Str × Int)) (u : Str × Int), vs = [.ref b, .ref p] ∧ UA K H b us ∧ SqT K H p [.str u.1, .int u.2] ∧ Fit us u ∧ us.length ≤ 6 ∧ ∀ H', Same H H' → Q (.bl true) H'
section
variable {P : Program} {w : World} {K : PySem.W.Frag} {mg : Str → Option Value} {base : Heap}
theorem ok_fits (d : Dd K mg "fits_behind" sFits ["before", "unit"]) (B : Bt mg) : FnOk P w K mg base CX0 2 d.f d.fd ["before", "unit"] (spFits K) := by
  refine d.F.ok scFits (fun vs H Q E h => ?_) (fun cdv A outer s H vs Q E hr h => ?_)
  · obtain ⟨_, _, _, _, rfl, _⟩ := h
    rfl
  · obtain ⟨b, p, us, ⟨z, n⟩, rfl, ⟨ps, hb, hu⟩, hp, hf, hlen, q⟩ := h
    refine ⟨_, pss_cons (ps_asg (pv 1) (pg_tup rfl (pgs_cons (pg_name (i := 2) scFits.nd rfl (.inl rfl)) (pgs_cons (pg_name (i := 3) scFits.nd rfl (.inl rfl)) pgs_nil))))
      (pss_cons (ps_if (pt_not (pt_truth (pv 0) (fun _ => rfl))) (pss_one (ps_ret (pe_cmpR op_eq (pv 3) pe_int (nomark _)))) pss_nil)
      (pss_cons (ps_set (i := 4) scFits.nd rfl (.inl rfl) (pe_ix ix_tup (pe_ix ix_tup (pv 0) (pe_un un_neg pe_int) (fun _ _ => rfl)) pe_int (fun _ _ => rfl)))
      (pss_one (ps_ret (pe_and (pe_cmpR op_gt (pv 3) (pv 4) (nomark _)) (pe_and (pe_cmpR op_eq (pe_op op_mod (pv 3) (pv 4)) pe_int (nomark _))
        (pe_one (pe_cmpR op_notIn_seq (pv 2)
          (pe_lc (own := [("other", 5)]) (g := gName 5) (tt := tYes) rfl scFits.nd (pi_tup (pv 0))
            (blkOk_by (own := [("other", 5)]) (N := ["before", "unit", "name", "size", "last_size", "other"]) (sc := defScope sFits) (by decide +kernel)) (fun _ _ _ _ _ => pg_name (i := 5) scFits.nd rfl (Or.inl rfl)) (fun _ _ _ _ _ => pts_nil)
            (fun _ _ _ _ _ => pe_ix (r := rIxT K) ix_tup (pv 5) pe_int (fun _ _ => rfl))) (by rfl))))))))), ?_⟩
    have el := UP.len hu
    refine ⟨.ref p, rfl, p, _, rfl, hp, rfl, .str z, [.int n], rfl, .int n, [], rfl, rfl, ?_⟩
    refine ⟨.ref b, rfl, _, .inr (.inl ⟨_, hb, rfl⟩), ?_⟩
    rcases hf with ⟨rfl, h1⟩ | ⟨⟨lz, ln⟩, hl, hne, h0, h1, h2, h3⟩
    · have e : ps = [] := List.length_eq_zero_iff.mp el
      subst e
      refine iteT ?_
      refine ⟨.int n, rfl, rfl, ?_⟩
      have e : decide (V.int n = V.int 1) = true := decide_eq_true (congrArg V.int h1)
      rw [e]
      exact q _ (Same.refl _)
    · obtain ⟨pl, hpl, hsl⟩ := paired_at hu hl
      have hps : ps ≠ [] := fun z => by
        rw [z] at hpl
        simp at hpl
      have hpos : 0 < ps.length := List.length_pos_iff.mpr hps
      have e0 : (!!(ps.map V.ref).isEmpty) = false := by
        cases ps with
        | nil => exact absurd rfl hps
        | cons a l => rfl
      rw [e0]
      refine iteF ?_
      refine ⟨.ref b, rfl, 1, rfl, b, _, -1, .ref pl, rfl, rfl, hb, atI_end (by rw [List.length_map]; exact hpos) (by rw [List.length_map, el]; exact get_ref hpl), pl, _, 1, .int ln, rfl, rfl, hsl, rfl, ?_⟩
      refine ⟨.int n, rfl, .int ln, rfl, n, ln, rfl, rfl, _, rfl, ?_⟩
      rw [if_pos (decide_eq_true h1)]
      refine ⟨.int n, rfl, .int ln, rfl, n, ln, rfl, rfl, h0, rfl, _, rfl, ?_⟩
      rw [if_pos (decide_eq_true (congrArg V.int h2 : V.int (n % ln) = V.int 0))]
      refine ⟨.str z, rfl, .ref b, rfl, b, rfl, ⟨_, hb⟩, fun D nD => ?_⟩
      refine lc_tup (K := K) (a := b) (xs := ps.map V.ref) (fun i H2 => Same H H2 ∧ H2 D = some (.lst ((us.take i).map fun u => V.str u.1))) ⟨same_upd nD, upd_same⟩ (fun i H2 _ h => same_sqt h.1 hb) ?_ ?_
      · rintro i x H2 hi ⟨sm, hD⟩
        obtain ⟨pi, hpi, rfl⟩ := of_get_ref hi
        obtain ⟨⟨uz, un⟩, hui, hsi⟩ := paired_fst hu hpi
        refine ⟨rfl, .ref pi, rfl, pi, _, 0, .str uz, rfl, rfl, same_sqt sm hsi, rfl, _, hD, ?_, fun c o e => ?_, ?_⟩
        · rw [List.length_map, List.length_take]
          exact Nat.lt_of_le_of_lt (Nat.le_trans (Nat.min_le_right _ _) hlen) (by decide)
        · rw [upd_ne (ne_of_none e nD)]
          exact sm _ _ e
        · rw [upd_same, List.take_add_one, hui, List.map_append]
          rfl
      · rintro H2 ⟨sm, hD⟩
        have et : us.take (ps.map V.ref).length = us := List.take_of_length_le (by rw [List.length_map, el]; exact Nat.le_refl _)
        rw [et] at hD
        refine ⟨D, _, rfl, .inl (SqL.of hD), rfl, ?_, ?_⟩
        · simp [List.all_map, flatV]
        · have e : inV (.str z) (us.map fun u => V.str u.1) = false := by
            unfold inV
            rw [List.any_eq_false]
            intro y hy
            obtain ⟨v, hv, rfl⟩ := List.mem_map.mp hy
            have := h3 v hv
            simpa [eqV] using this
          rw [if_pos rfl, e]
          exact q _ sm
end
end My

namespace My
open PySem PySem.Spec PyProof.Rows L2
theorem cut_take {xs : List V} (i : Nat) (hi : i ≤ xs.length) : cutV xs none (some (i : Int)) = xs.take i := by
  unfold cutV
  rw [HT.sIx_none, HT.sIx_nat, List.drop_zero, Nat.sub_zero, Nat.min_eq_left hi]
theorem cut_drop1 (xs : List V) : cutV xs (some 1) none = xs.drop 1 := by
  unfold cutV
  rw [HT.sIx_none, show HT.sIx xs.length 0 (some 1) = min 1 xs.length from HT.sIx_nat xs.length 0 1]
  cases xs with
  | nil => rfl
  | cons x r =>
    have e : min 1 (x :: r).length = 1 := by rw [List.length_cons]; omega
    rw [e]
    exact List.take_of_length_le (by rw [List.length_drop]; exact Nat.le_refl _)
theorem paired_take {α β : Type} {F : α → β → Prop} : ∀ {l : List α} {m : List β} (i : Nat), PySem.Paired F l m → PySem.Paired F (l.take i) (m.take i)
  | _, _, 0, _ => .nil
  | _, _, _ + 1, .nil => .nil
  | _, _, i + 1, .cons r t => .cons r (paired_take i t)
theorem paired_drop {α β : Type} {F : α → β → Prop} : ∀ {l : List α} {m : List β} (i : Nat), PySem.Paired F l m → PySem.Paired F (l.drop i) (m.drop i)
  | _, _, 0, r => r
  | _, _, _ + 1, .nil => .nil
  | _, _, i + 1, .cons _ t => paired_drop i t
/-- the units of a ladder -/
structure GoodUs (us : List (Str × Int)) : Prop where
  lo : 1 ≤ us.length
  hi : us.length ≤ 6
  each : ∀ i u, us[i]? = some u → GoodN u.1 ∧ 1 ≤ u.2 ∧ u.2 ≤ 1000000000000000000 ∧ Fit (us.take i) u
theorem scCUnits : FnScope ["units", "place", "unit"] ["units"] (defScope sCUnits) := ⟨rfl, rfl, rfl, by decide +kernel, rfl, by decide +kernel, by decide +kernel⟩
def spCUnits (K : PySem.W.Frag) : Sp := fun vs H Q _ => ∃ (a : Addr) (us : List (Str × Int)), vs = [.ref a] ∧ UA K H a us ∧ GoodUs us ∧ ∀ H', Same H H' → Q .non H'
section
variable {P : Program} {w : World} {K : PySem.W.Frag} {mg : Str → Option Value} {base : Heap}
theorem ok_cunits (d : Dd K mg "check_units" sCUnits ["units"]) (dU : Dd K mg "is_unit" sUnit ["unit"]) (dN : Dd K mg "is_unit_name" sUName ["name"]) (dW : DdW K mg) (dF : Dd K mg "fits_behind" sFits ["before", "unit"])
    (B : Bt mg) (G : Gc K mg) : FnOk P w K mg base CX0 4 d.f d.fd ["units"] (spCUnits K) := by
  obtain ⟨t1, g1⟩ := G.units
  have GU : FnOk P w K mg base CX0 3 dU.f dU.fd ["unit"] (spUnit K) := ok_unit dU dN dW B G
  have GF : FnOk P w K mg base CX0 2 dF.f dF.fd ["before", "unit"] (spFits K) := ok_fits dF B
  refine d.F.ok scCUnits (fun vs H Q E h => ?_) (fun cdv A outer s H vs Q E hr h => ?_)
  · obtain ⟨_, _, rfl, _⟩ := h
    rfl
  · obtain ⟨a, us, rfl, ⟨ps, ha, hu⟩, g, q⟩ := h
    have hr1 : Room 2 _ := hr.mono (by decide)
    refine ⟨_, pss_cons (ps_if (PW.pt (pw_or (pt_not (pt_val (pe_callB call_isi (by rfl) B.isinstance (by decide +kernel) (pa_cons (pv 0) (pa_cons (pe_bltn (v := .ty "tuple") (by rfl) B.tuple (by decide +kernel) rfl) pa_nil)))))
        (pw_or1 (pt_not (pt_chain op_le op_le pe_int (pe_callB call_len_seq (by rfl) B.len PySem.boot_len (pa_cons (pv 0) pa_nil)) (pe_glob (v := .int 6) (by rfl) g1 ⟨_, rfl⟩)))))) (pss_one ps_never) pss_nil)
      (pss_one (ps_for PassesOwn.never rfl (pi_enT (by rfl) B.enumerate (pa_cons (pv 0) pa_nil)) (pg_tup rfl (pgs_cons (pg_name (i := 1) scCUnits.nd rfl (.inl rfl)) (pgs_cons (pg_name (i := 2) scCUnits.nd rfl (.inl rfl)) pgs_nil)))
        (pss_one (ps_if (PW.pt (pw_or (pt_not (pt_val (pe_call GU hr (by rfl) dU.g dU.F.kp dU.b .nil pass0 (pa_cons (pv 2) pa_nil))))
          (pw_or1 (pt_not (pt_val (pe_call GF hr1 (by rfl) dF.g dF.F.kp dF.b .nil pass0 (pa_cons (pe_slice sl_tupA (pv 0) po_none (po_some (pv 1))) (pa_cons (pv 2) pa_nil)))))))) (pss_one ps_never) pss_nil)))), ?_⟩
    have el := UP.len hu
    refine ⟨_, rfl, _, _, _, _, true, rfl, .ty "tuple", tyx_tup ha, kit_ty (by decide +kernel), _, rfl, iteF ?_⟩
    refine ⟨.ref a, rfl, a, _, rfl, .inr ha, 1, _, rfl, rfl, _, rfl, ?_⟩
    have e1 : decide ((1 : Int) ≤ ((ps.map V.ref).length : Int)) = true := decide_eq_true (by rw [List.length_map, el]; have := g.lo; omega)
    have e2 : decide (((ps.map V.ref).length : Int) ≤ 6) = true := decide_eq_true (by rw [List.length_map, el]; have := g.hi; omega)
    rw [e1]
    refine iteT ?_
    refine ⟨_, _, rfl, rfl, _, rfl, ?_⟩
    rw [e2]
    refine iteF ?_
    refine ⟨.ref a, rfl, a, _, rfl, ha, for_enT (K := K) (a := a) (xs := ps.map V.ref) (fun i σ H2 => Same H H2 ∧ ∃ v1 v2, σ = [some (.ref a), v1, v2]) ⟨Same.refl _, none, none, rfl⟩ (fun i σ H2 _ h => same_sqt h.1 ha) ?_ ?_⟩
    · rintro i x σ H2 T hi ⟨sm, v1, v2, rfl⟩ nT
      obtain ⟨p, hp, rfl⟩ := of_get_ref hi
      obtain ⟨u, hu2, hs⟩ := paired_fst hu hp
      obtain ⟨k1, k2, k3, k4⟩ := g.each i u hu2
      have smT : Same H (upd H2 T (.tup [.int (i : Nat), .ref p])) := sm.trans (same_upd nT)
      have hi2 : i < ps.length := (List.getElem?_eq_some_iff.mp hp).1
      refine ⟨T, _, rfl, .inl (.inl upd_same), rfl, .int (i : Nat), [.ref p], rfl, .ref p, [], rfl, rfl, ?_⟩
      refine ⟨.ref p, rfl, p, u.1, u.2, rfl, same_sqt smT hs, k1, k2, k3, true, rfl, iteF ?_⟩
      refine ⟨.ref a, rfl, .int (i : Nat), rfl, _, rfl, a, _, rfl, same_sqt smT ha, fun z => ?_, fun _ c nc => ?_⟩
      · obtain ⟨_, z⟩ := z
        rw [HT.sIx_nat, List.length_map] at z
        omega
      · have smc := smT.trans (same_upd nc (o := .tup (cutV (ps.map V.ref) none (some (i : Int)))))
        have hcut : UA K (upd (upd H2 T (.tup [.int (i : Nat), .ref p])) c (.tup (cutV (ps.map V.ref) none (some (i : Int))))) c (us.take i) := by
          refine ⟨ps.take i, ?_, paired_take i (paired_imp (fun _ _ => same_sqt smc) hu)⟩
          rw [List.map_take, ← cut_take i (by rw [List.length_map]; omega)]
          exact SqT.of upd_same
        refine ⟨.ref p, rfl, c, p, us.take i, u, rfl, hcut, same_sqt smc hs, k4, ?_, fun H3 sm3 => ?_⟩
        · rw [List.length_take]
          exact Nat.le_trans (Nat.min_le_right _ _) g.hi
        · refine ⟨true, rfl, iteF ?_⟩
          exact ⟨smc.trans sm3, _, _, rfl⟩
    · rintro σ H2 ⟨sm, _⟩
      exact q _ sm
end
end My

namespace My
open PySem PySem.Spec PyProof.Rows L2
def notTup : HO → Bool
  | .tup _ => false
  | .frz _ _ => false
  | _ => true
theorem But.sqt {K : PySem.W.Frag} {a t : Addr} {o : HO} {xs : List V} {H H' : Hp} (hp : H a = some o) (n : notTup o = true) (b : But a H H') (h : SqT K H t xs) : SqT K H' t xs := by
  rcases h with (h | ⟨ob, h⟩) | h
  · refine .inl (.inl (b _ _ h ?_))
    rintro rfl
    rw [hp] at h
    cases h
    cases n
  · refine .inl (.inr ⟨ob, b _ _ h ?_⟩)
    rintro rfl
    rw [hp] at h
    cases h
    cases n
  · exact .inr h
theorem UA.but {K : PySem.W.Frag} {a t : Addr} {o : HO} {us : List (Str × Int)} {H H' : Hp} (hp : H a = some o) (n : notTup o = true) (b : But a H H') (h : UA K H t us) : UA K H' t us := by
  obtain ⟨ps, h1, h2⟩ := h
  exact ⟨ps, b.sqt hp n h1, paired_imp (fun _ _ => b.sqt hp n) h2⟩
theorem parts_at {d : Nat} (h : d ≤ 3) : atI [V.int 1, V.int 10, V.int 100, V.int 1000] (d : Int) = some (.int ((10 : Int) ^ d)) := by
  match d, h with
  | 0, _ => rfl
  | 1, _ => rfl
  | 2, _ => rfl
  | 3, _ => rfl
  | n + 4, h => omega
theorem pow_lo (d : Nat) : (0 : Int) < 10 ^ d := Int.pow_pos (by decide)
theorem pow_hi {d : Nat} (h : d ≤ 3) : (10 : Int) ^ d ≤ 1000 := by
  match d, h with
  | 0, _ => decide
  | 1, _ => decide
  | 2, _ => decide
  | 3, _ => decide
  | n + 4, h => omega
abbrev sCDec : Stmt := top 42
abbrev sCRnd : Stmt := top 43
theorem scCDec : FnScope ["units", "decimals", "unit"] ["units", "decimals"] (defScope sCDec) := ⟨rfl, rfl, rfl, by decide +kernel, rfl, by decide +kernel, by decide +kernel⟩
theorem scCRnd : FnScope ["rounding"] ["rounding"] (defScope sCRnd) := ⟨rfl, rfl, rfl, by decide +kernel, rfl, by decide +kernel, by decide +kernel⟩
def spCDec (K : PySem.W.Frag) : Sp := fun vs H Q _ => ∃ (a : Addr) (us : List (Str × Int)) (d : Nat), vs = [.ref a, .int (d : Int)] ∧ UA K H a us ∧ 1 ≤ us.length ∧ d ≤ 3 ∧ (∀ u ∈ us.drop 1, u.2 % (2 * 10 ^ d) = 0) ∧ ∀ H', Same H H' → Q .non H'
def sorts : List Str := ["down", "up", "near", "even"]
def spCRnd : Sp := fun vs H Q _ => ∃ z : Str, vs = [.str z] ∧ z ∈ sorts ∧ Q .non H
section
variable {P : Program} {w : World} {K : PySem.W.Frag} {mg : Str → Option Value} {base : Heap}
theorem ok_crnd (d : Dd K mg "check_rounding" sCRnd ["rounding"]) (B : Bt mg) (G : Gc K mg) : FnOk P w K mg base CX0 2 d.f d.fd ["rounding"] spCRnd := by
  obtain ⟨a1, g1, g2⟩ := G.rounds
  refine d.F.ok scCRnd (fun vs H Q E h => ?_) (fun cdv A outer s H vs Q E hr h => ?_)
  · obtain ⟨_, rfl, _⟩ := h
    rfl
  · obtain ⟨z, rfl, hz, q⟩ := h
    refine ⟨_, pss_one (ps_if (PW.pt (pw_or (pt_not (pt_val (pe_callB call_isi (by rfl) B.isinstance (by decide +kernel) (pa_cons (pv 0) (pa_cons (pe_bltn (v := .ty "str") (by rfl) B.str (by decide +kernel) rfl) pa_nil)))))
        (pw_or1 (pt_cmpR op_notIn_seq (pv 0) (pe_glob (v := .ref a1) (by rfl) g1 rfl) (by rfl))))) (pss_one ps_never) pss_nil), ?_⟩
    refine ⟨_, rfl, _, _, _, _, true, rfl, .ty "str", .base (.str z), kit_ty (by decide +kernel), _, rfl, iteF ?_⟩
    refine ⟨_, rfl, a1, _, rfl, .inr (g2 H), rfl, rfl, ?_⟩
    have e : inV (.str z) [.str "down", .str "up", .str "near", .str "even"] = true := by
      unfold inV sorts at *
      simp only [List.mem_cons, List.not_mem_nil, or_false] at hz
      rcases hz with rfl | rfl | rfl | rfl <;> decide +kernel
    rw [if_pos rfl, e]
    refine ⟨_, rfl, iteF ?_⟩
    exact q
theorem ok_cdec (d : Dd K mg "check_decimals" sCDec ["units", "decimals"]) (dW : DdW K mg) (B : Bt mg) (G : Gc K mg) : FnOk P w K mg base CX0 3 d.f d.fd ["units", "decimals"] (spCDec K) := by
  obtain ⟨t1, g1⟩ := G.decs
  obtain ⟨a2, g2, g3⟩ := G.parts
  have GW : FnOk P w K mg base CX0 2 dW.f dW.fd ["value", "low", "high"] spWithin := ok_within dW B
  refine d.F.ok scCDec (fun vs H Q E h => ?_) (fun cdv A outer s H vs Q E hr h => ?_)
  · obtain ⟨_, _, _, rfl, _⟩ := h
    rfl
  · obtain ⟨a, us, dn, rfl, ⟨ps, ha, hu⟩, hlen, hd, hall, q⟩ := h
    refine ⟨_, pss_cons (ps_if (pt_not (pt_val (pe_call GW hr (by rfl) dW.g dW.F.kp dW.b .nil pass0 (pa_cons (pv 1) (pa_cons pe_int (pa_cons (pe_glob (v := .int 3) (by rfl) g1 ⟨_, rfl⟩) pa_nil)))))) (pss_one ps_never) pss_nil)
      (pss_one (ps_for PassesOwn.never rfl (pi_tup (pe_slice sl_tupA (pv 0) (po_some pe_int) po_none)) (pg_name (i := 2) scCDec.nd rfl (.inl rfl))
        (pss_one (ps_if (pt_cmpR op_ne (pe_op op_mod (pe_ix ix_tup (pv 2) pe_int (fun _ _ => rfl)) (pe_op op_mul pe_int (pe_ix ix_tup (pe_glob (v := .ref a2) (by rfl) g2 rfl) (pv 1) (fun _ _ => rfl)))) pe_int (nomark _)) (pss_one ps_never) pss_nil)))), ?_⟩
    have el := UP.len hu
    refine ⟨.int (dn : Int), rfl, dn, 0, 3, rfl, ?_⟩
    rw [decide_eq_true (show (0 : Int) ≤ (dn : Int) ∧ (dn : Int) ≤ 3 by omega)]
    refine ⟨true, rfl, iteF ?_⟩
    refine ⟨.ref a, rfl, 1, rfl, a, _, rfl, ha, fun z => ?_, fun _ c nc => ?_⟩
    · obtain ⟨z, _⟩ := z
      rw [show HT.sIx (ps.map V.ref).length 0 (some 1) = min 1 (ps.map V.ref).length from HT.sIx_nat _ 0 1, List.length_map] at z
      omega
    · have smc : Same H (upd H c (.tup (cutV (ps.map V.ref) (some 1) none))) := same_upd nc
      refine ⟨c, rfl, ⟨_, SqT.of upd_same⟩, for_tup (K := K) (a := c) (xs := cutV (ps.map V.ref) (some 1) none) (fun i σ H2 => Same (upd H c (.tup (cutV (ps.map V.ref) (some 1) none))) H2 ∧ ∃ v, σ = [some (.ref a), some (.int (dn : Int)), v])
        ⟨Same.refl _, none, rfl⟩ (fun i σ H2 _ h => same_sqt h.1 (SqT.of upd_same)) ?_ ?_⟩
      · rintro i x σ H2 hi ⟨sm, v, rfl⟩
        rw [cut_drop1, ← List.map_drop] at hi
        obtain ⟨p, hp, rfl⟩ := of_get_ref hi
        obtain ⟨u, hu2, hs⟩ := paired_fst (paired_drop 1 hu) hp
        have hm : u ∈ us.drop 1 := List.mem_of_getElem? hu2
        have hz := hall u hm
        have hpos := pow_lo dn
        have hhi := pow_hi hd
        refine ⟨.ref p, rfl, p, _, 1, .int u.2, rfl, rfl, same_sqt sm (same_sqt smc hs), rfl, .int (dn : Int), rfl, a2, _, dn, _, rfl, rfl, g3 H2, parts_at hd, 2, _, rfl, rfl, .inl ⟨by decide, by decide⟩, u.2, _, rfl, rfl, (by show (0 : Int) < 2 * 10 ^ dn; omega), rfl, _, rfl, ?_⟩
        have e : (!decide (V.int (u.2 % (2 * 10 ^ dn)) = V.int 0)) = false := by rw [hz]; rfl
        rw [e]
        refine iteF ?_
        exact ⟨sm, _, rfl⟩
      · rintro σ H2 ⟨sm, _⟩
        exact q _ (smc.trans sm)
end
end My

namespace My
open PySem PySem.Spec PyProof.Rows L2
abbrev sLInit : Stmt := inClass (top 40) 0
theorem scLInit : FnScope ["self", "units", "decimals", "rounding", "carry", "least", "unit"] ["self", "units", "decimals", "rounding", "carry", "least"] (defScope sLInit) := ⟨rfl, rfl, rfl, by decide +kernel, rfl, by decide +kernel, by decide +kernel⟩
/-- the class Ladder -/
structure LadC (K : PySem.W.Frag) (mg : Str → Option Value) where
  C : Addr
  f : Addr
  fd : FuncData
  F : Fun K "__init__" "Ladder.__init__" sLInit f fd
  M : Mk K C f
  g : mg "Ladder" = some (.ref C)
  cl : Cls K C
  nUnits : NoAttr K C "units"
  nDec : NoAttr K C "decimals"
  nRnd : NoAttr K C "rounding"
  nCarry : NoAttr K C "carry"
  nLeast : NoAttr K C "least"
  nTold : NoAttr K C "told"
  nSteps : NoAttr K C "steps"
  nThr : NoAttr K C "thresholds"
/-- the attributes of a ladder, in their order -/
def fs5 (u : Addr) (d : Nat) (s : Str) (c : Bool) (l : Int) : List (Str × V) :=
  putF "least" (.int l) (putF "carry" (.bl c) (putF "rounding" (.str s) (putF "decimals" (.int (d : Int)) (putF "units" (.ref u) []))))
def flds (u : Addr) (d : Nat) (s : Str) (c : Bool) (l : Int) (t st th : Addr) : List (Str × V) :=
  putF "thresholds" (.ref th) (putF "steps" (.ref st) (putF "told" (.ref t) (fs5 u d s c l)))
local macro_rules | `(tactic| walk_at "my look") => `(tactic| (unfold flds fs5; repeat (first | rw [lookup_putF, if_pos rfl] | rw [lookup_putF, if_neg (by decide +kernel)])))
section
variable (u : Addr) (d : Nat) (s : Str) (c : Bool) (l : Int) (t st th : Addr)
theorem fl_units : (flds u d s c l t st th).lookup ("units" : Str) = some (.ref u) := by walk_at "my look"
theorem fl_dec : (flds u d s c l t st th).lookup ("decimals" : Str) = some (.int (d : Int)) := by walk_at "my look"
theorem fl_rnd : (flds u d s c l t st th).lookup ("rounding" : Str) = some (.str s) := by walk_at "my look"
theorem fl_carry : (flds u d s c l t st th).lookup ("carry" : Str) = some (.bl c) := by walk_at "my look"
theorem fl_least : (flds u d s c l t st th).lookup ("least" : Str) = some (.int l) := by walk_at "my look"
theorem fl_told : (flds u d s c l t st th).lookup ("told" : Str) = some (.ref t) := by walk_at "my look"
theorem fl_steps : (flds u d s c l t st th).lookup ("steps" : Str) = some (.ref st) := by walk_at "my look"
theorem fl_thr : (flds u d s c l t st th).lookup ("thresholds" : Str) = some (.ref th) := by walk_at "my look"
end
/-- steps and thresholds -/
def stepsOf (us : List (Str × Int)) (d : Nat) : List Int := 1 :: (us.drop 1).map fun u => u.2 / 10 ^ d
def thrsOf (us : List (Str × Int)) (l : Int) : List Int := 0 :: (us.drop 1).map fun u => u.2 * l
/-- what a ladder is made of -/
structure Good (us : List (Str × Int)) (d : Nat) (s : Str) (l : Int) : Prop where
  u : GoodUs us
  d3 : d ≤ 3
  div : ∀ u ∈ us.drop 1, u.2 % (2 * 10 ^ d) = 0
  srt : s ∈ sorts
  l1 : 1 ≤ l
  l2 : l ≤ 1000
def spLInit (K : PySem.W.Frag) (C : Addr) : Sp := fun vs H Q _ => ∃ (p dx ua : Addr) (us : List (Str × Int)) (d : Nat) (s : Str) (c : Bool) (l : Int), vs = [.ref p, .ref ua, .int (d : Int), .str s, .bl c, .int l] ∧ H p = some (.ins C dx []) ∧ UA K H ua us ∧ Good us d s l ∧
  ∀ (H' : Hp) (t st th : Addr), But p H H' → H' p = some (.ins C dx (flds ua d s c l t st th)) → SqT K H' t [.ref ua, .int (d : Int), .str s, .bl c, .int l] → SqT K H' st ((stepsOf us d).map V.int) → SqT K H' th ((thrsOf us l).map V.int) → Q .non H'
/-- [.. for unit in t], t a tuple of units, each to an int -/
theorem comp_units {K : PySem.W.Frag} {tl te : TE} {k : Nat} {σ : L2.St} {H : Hp} {Q : VK} {fn : Str × Int → Int} {vs : List (Str × Int)} {ps : List Addr} (hu : UP K H ps vs) (hlen : vs.length ≤ 6)
    (htl : ∀ Qt : VK, (∀ c H1, Same H H1 → SqT K H1 c (ps.map V.ref) → Qt (.ref c) H1) → tl σ H Qt)
    (hte : ∀ (pu : Addr) (u : Str × Int) (H4 : Hp) (Qe : VK), u ∈ vs → Same H H4 → SqT K H4 pu [.str u.1, .int u.2] → Qe (.int (fn u)) H4 → te ((wipe σ [k]).set k (some (.ref pu))) H4 Qe)
    (hw : ∀ y, wipe ((wipe σ [k]).set k (some y)) [k] = wipe σ [k])
    (hq : ∀ D H4, Same H H4 → H D = none → H4 D = some (.lst ((vs.map fn).map V.int)) → Q (.ref D) H4) : tLc (iTup K tl) (gName k) tYes te [k] σ H Q := by
  refine htl _ fun c H1 s1 hc => ⟨c, rfl, ⟨_, hc⟩, fun D nD => ?_⟩
  have el := UP.len hu
  refine lc_tup (K := K) (a := c) (xs := ps.map V.ref) (fun i H4 => Same H1 H4 ∧ H4 D = some (.lst (((vs.take i).map fn).map V.int))) ⟨same_upd nD, upd_same⟩ (fun i H4 _ h => same_sqt h.1 hc) ?_ ?_
  · rintro i y H4 hi ⟨sm, hD⟩
    obtain ⟨pu, hpu, rfl⟩ := of_get_ref hi
    obtain ⟨u, hu2, hs⟩ := paired_fst hu hpu
    refine ⟨hw _, hte pu u H4 _ (List.mem_of_getElem? hu2) (s1.trans sm) (same_sqt (s1.trans sm) hs) ⟨_, hD, ?_, fun b o e => ?_, ?_⟩⟩
    · rw [List.length_map, List.length_map, List.length_take]
      exact Nat.lt_of_le_of_lt (Nat.le_trans (Nat.min_le_right _ _) hlen) (by decide)
    · rw [upd_ne (ne_of_none e nD)]
      exact sm _ _ e
    · rw [upd_same, List.take_add_one, hu2, List.map_append, List.map_append]
      rfl
  · rintro H4 ⟨sm, hD⟩
    rw [List.length_map, el, List.take_of_length_le (Nat.le_refl _)] at hD
    exact hq D H4 (s1.trans sm) (s1.free nD) hD
/-- t[1:] of a tuple that is not empty -/
theorem rest_of {K : PySem.W.Frag} {H : Hp} {a : Addr} {xs : List V} {te : TE} {σ : L2.St} {Q : VK} (ha : SqT K H a xs) (h1 : 1 ≤ xs.length) (hte : ∀ Qt : VK, Qt (.ref a) H → te σ H Qt) (hq : ∀ c H1, Same H H1 → SqT K H1 c (xs.drop 1) → Q (.ref c) H1) :
    tSl (rSlA K) te (tPart (tC (.int 1))) tNoPart σ H Q := by
  refine hte _ ⟨1, rfl, a, xs, rfl, ha, fun z => ?_, fun _ c nc => ?_⟩
  · obtain ⟨z, _⟩ := z
    rw [show HT.sIx xs.length 0 (some 1) = min 1 xs.length from HT.sIx_nat _ 0 1] at z
    omega
  · refine hq c _ (same_upd nc) ?_
    rw [← cut_drop1]
    exact SqT.of upd_same
theorem few {f : Str} {v : V} {fs : List (Str × V)} {n : Nat} (h : fs.length ≤ n) : (putF f v fs).length ≤ n + 1 := Nat.le_trans (length_putF f v fs) (Nat.succ_le_succ h)
section
variable {P : Program} {w : World} {K : PySem.W.Frag} {mg : Str → Option Value} {base : Heap}
theorem ok_linit (L : LadC K mg) (dC : Dd K mg "check_units" sCUnits ["units"]) (dU : Dd K mg "is_unit" sUnit ["unit"]) (dN : Dd K mg "is_unit_name" sUName ["name"]) (dW : DdW K mg) (dF : Dd K mg "fits_behind" sFits ["before", "unit"])
    (dD : Dd K mg "check_decimals" sCDec ["units", "decimals"]) (dR : Dd K mg "check_rounding" sCRnd ["rounding"]) (B : Bt mg) (G : Gc K mg) :
    FnOk P w K mg base CX0 5 L.f L.fd ["self", "units", "decimals", "rounding", "carry", "least"] (spLInit K L.C) := by
  obtain ⟨a2, g2, g3⟩ := G.parts
  obtain ⟨t1, g1⟩ := G.least
  have GC : FnOk P w K mg base CX0 4 dC.f dC.fd ["units"] (spCUnits K) := ok_cunits dC dU dN dW dF B G
  have GD : FnOk P w K mg base CX0 3 dD.f dD.fd ["units", "decimals"] (spCDec K) := ok_cdec dD dW B G
  have GR : FnOk P w K mg base CX0 2 dR.f dR.fd ["rounding"] spCRnd := ok_crnd dR B G
  have GW : FnOk P w K mg base CX0 2 dW.f dW.fd ["value", "low", "high"] spWithin := ok_within dW B
  refine L.F.ok scLInit (fun vs H Q E h => ?_) (fun cdv A outer s H vs Q E hr h => ?_)
  · obtain ⟨_, _, _, _, _, _, _, _, rfl, _⟩ := h
    rfl
  · obtain ⟨p, dx, ua, us, dn, rs, cy, lt, rfl, hp, hU, g, q⟩ := h
    have hr2 : Room 3 _ := hr.mono (by decide)
    have hr1 : Room 2 _ := hr.mono (by decide)
    have nd := scLInit.nd
    refine ⟨_, pss_cons (ps_expr (pe_call GC hr (by rfl) dC.g dC.F.kp dC.b .nil pass0 (pa_cons (pv 1) pa_nil)))
      (pss_cons (ps_expr (pe_call GD hr2 (by rfl) dD.g dD.F.kp dD.b .nil pass0 (pa_cons (pv 1) (pa_cons (pv 2) pa_nil))))
      (pss_cons (ps_expr (pe_call GR hr1 (by rfl) dR.g dR.F.kp dR.b .nil pass0 (pa_cons (pv 3) pa_nil)))
      (pss_cons (ps_if (pt_not (pt_val (pe_callB call_isi (by rfl) B.isinstance (by decide +kernel) (pa_cons (pv 4) (pa_cons (pe_bltn (v := .ty "bool") (by rfl) B.bool (by decide +kernel) rfl) pa_nil))))) (pss_one ps_never) pss_nil)
      (pss_cons (ps_if (pt_not (pt_val (pe_call GW hr1 (by rfl) dW.g dW.F.kp dW.b .nil pass0 (pa_cons (pv 5) (pa_cons pe_int (pa_cons (pe_glob (v := .int 1000) (by rfl) g1 ⟨_, rfl⟩) pa_nil)))))) (pss_one ps_never) pss_nil)
      (pss_cons (ps_fld (pv 0) (pv 1) rfl)
      (pss_cons (ps_fld (pv 0) (pv 2) rfl)
      (pss_cons (ps_fld (pv 0) (pv 3) rfl)
      (pss_cons (ps_fld (pv 0) (pv 4) rfl)
      (pss_cons (ps_fld (pv 0) (pv 5) rfl)
      (Evl.pss_cut (ps_fld (pv 0) (pe_tup (pa_cons (pv 1) (pa_cons (pv 2) (pa_cons (pv 3) (pa_cons (pv 4) (pa_cons (pv 5) pa_nil)))))) rfl)
      (Evl.pss_cut (ps_fld (pv 0) (pe_op op_catA (pe_tup (pa_cons pe_int pa_nil)) (pe_tupleOf (by rfl) B.tuple
        (pe_lc (own := [("unit", 6)]) (g := gName 6) (tt := tYes) rfl nd (pi_tup (pe_slice sl_tupA (pv 1) (po_some pe_int) po_none))
            (blkOk_by (own := [("unit", 6)]) (N := ["self", "units", "decimals", "rounding", "carry", "least", "unit"]) (sc := defScope sLInit) (by decide +kernel)) (fun _ _ _ _ _ => pg_name (i := 6) nd rfl (Or.inl rfl)) (fun _ _ _ _ _ => pts_nil)
            (fun _ _ _ _ _ => pe_op op_fdiv (pe_ix (r := rIxT K) ix_tup (pv 6) pe_int (fun _ _ => rfl)) (pe_ix (r := rIxT K) ix_tup (pe_glob (v := .ref a2) (by rfl) g2 rfl) (pv 2) (fun _ _ => rfl)))))) rfl)
      (pss_one (ps_fld (pv 0) (pe_op op_catA (pe_tup (pa_cons pe_int pa_nil)) (pe_tupleOf (by rfl) B.tuple
        (pe_lc (own := [("unit", 6)]) (g := gName 6) (tt := tYes) rfl nd (pi_tup (pe_slice sl_tupA (pv 1) (po_some pe_int) po_none))
            (blkOk_by (own := [("unit", 6)]) (N := ["self", "units", "decimals", "rounding", "carry", "least", "unit"]) (sc := defScope sLInit) (by decide +kernel)) (fun _ _ _ _ _ => pg_name (i := 6) nd rfl (Or.inl rfl)) (fun _ _ _ _ _ => pts_nil)
            (fun _ _ _ _ _ => pe_op op_mul (pe_ix (r := rIxT K) ix_tup (pv 6) pe_int (fun _ _ => rfl)) (pv 5))))) rfl))))))))))))), ?_⟩
    have nt : notTup (.ins L.C dx []) = true := rfl
    -- the checks
    refine ⟨.ref ua, rfl, ua, us, rfl, hU, g.u, fun H1 s1 => ?_⟩
    refine ⟨.ref ua, rfl, .int (dn : Int), rfl, ua, us, dn, rfl, hU.same s1, g.u.lo, g.d3, g.div, fun H2 s2 => ?_⟩
    have s12 := s1.trans s2
    refine ⟨.str rs, rfl, rs, rfl, g.srt, ?_⟩
    refine ⟨_, rfl, _, _, _, _, true, rfl, .ty "bool", .base (.bl cy), kit_ty (by decide +kernel), _, rfl, iteF ?_⟩
    refine ⟨.int lt, rfl, lt, 1, 1000, rfl, ?_⟩
    rw [decide_eq_true (show (1 : Int) ≤ lt ∧ lt ≤ 1000 from ⟨g.l1, g.l2⟩)]
    refine ⟨true, rfl, iteF ?_⟩
    -- the fields
    have hp2 : H2 p = some (.ins L.C dx []) := s12 _ _ hp
    have cl := L.cl
    refine ⟨_, rfl, _, rfl, p, L.C, dx, _, rfl, hp2, cl, L.nUnits, by decide, ?_⟩
    refine ⟨_, rfl, _, rfl, p, L.C, dx, _, rfl, upd_same, cl, L.nDec, (by show 1 < 1000; decide), ?_⟩
    refine ⟨_, rfl, _, rfl, p, L.C, dx, _, rfl, upd_same, cl, L.nRnd, Nat.lt_of_le_of_lt (few (few (Nat.zero_le 0))) (by decide), ?_⟩
    refine ⟨_, rfl, _, rfl, p, L.C, dx, _, rfl, upd_same, cl, L.nCarry, Nat.lt_of_le_of_lt (few (few (few (Nat.zero_le 0)))) (by decide), ?_⟩
    refine ⟨_, rfl, _, rfl, p, L.C, dx, _, rfl, upd_same, cl, L.nLeast, Nat.lt_of_le_of_lt (few (few (few (few (Nat.zero_le 0))))) (by decide), ?_⟩
    have b5 : ∀ {H' : Hp}, But p H2 H' → But p H H' := fun b => (Same.but s12).trans b
    have lt5 : (fs5 ua dn rs cy lt).length ≤ 5 := few (few (few (few (few (Nat.zero_le 0)))))
    refine ⟨fun σ' H' => ∃ t, σ' = [some (.ref p), some (.ref ua), some (.int (dn : Int)), some (.str rs), some (.bl cy), some (.int lt), none] ∧ But p H H' ∧ H' p = some (.ins L.C dx (putF "told" (.ref t) (fs5 ua dn rs cy lt))) ∧
      SqT K H' t [.ref ua, .int (dn : Int), .str rs, .bl cy, .int lt], ?_, ?_⟩
    · refine ⟨_, rfl, _, rfl, _, rfl, _, rfl, _, rfl, (by show 5 ≤ sizeLine; decide), fun t nt' => ?_⟩
      have npt : p ≠ t := ne_of_none upd_same nt'
      refine ⟨_, rfl, p, L.C, dx, _, rfl, (by rw [upd_ne npt]; exact upd_same), cl, L.nTold, Nat.lt_of_le_of_lt lt5 (by decide), ?_⟩
      refine ⟨t, rfl, b5 ?_, upd_same, ?_⟩
      · exact (((((((But.upd _ _ _).trans (But.upd _ _ _)).trans (But.upd _ _ _)).trans (But.upd _ _ _)).trans (But.upd _ _ _)).trans (Same.but (same_upd nt')))).trans (But.upd _ _ _)
      · refine SqT.of ?_
        rw [upd_ne npt.symm]
        exact upd_same
    rintro σ' H3 ⟨t, rfl, b3, hp3, ht3⟩
    have lt6 : (putF "told" (V.ref t) (fs5 ua dn rs cy lt)).length ≤ 6 := few lt5
    have lt7 : ∀ st, (putF "steps" (V.ref st) (putF "told" (V.ref t) (fs5 ua dn rs cy lt))).length ≤ 7 := fun st => few lt6
    have each : ∀ u ∈ us.drop 1, 1 ≤ u.2 ∧ u.2 ≤ 1000000000000000000 := fun u hm => by
      obtain ⟨j, hj⟩ := List.getElem?_of_mem (List.mem_of_mem_drop hm)
      obtain ⟨_, h1, h2, _⟩ := g.u.each j u hj
      exact ⟨h1, h2⟩
    have nt1 : ∀ fs, notTup (.ins L.C dx fs) = true := fun _ => rfl
    have hl6 : (us.drop 1).length ≤ 6 := by rw [List.length_drop]; have := g.u.hi; omega
    have lenr : ∀ fn : Str × Int → Int, (((us.drop 1).map fn).map V.int).length ≤ 6 := fun fn => by rw [List.length_map, List.length_map]; exact hl6
    refine ⟨fun σ' H' => ∃ st, σ' = [some (.ref p), some (.ref ua), some (.int (dn : Int)), some (.str rs), some (.bl cy), some (.int lt), none] ∧ But p H H' ∧ H' p = some (.ins L.C dx (putF "steps" (.ref st) (putF "told" (.ref t) (fs5 ua dn rs cy lt)))) ∧
      SqT K H' t [.ref ua, .int (dn : Int), .str rs, .bl cy, .int lt] ∧ SqT K H' st ((stepsOf us dn).map V.int), ?_, ?_⟩
    · refine ⟨(by show 1 ≤ sizeLine; decide), fun x nx => ?_⟩
      have sx := same_upd nx (o := .tup [.int 1])
      obtain ⟨ps, ha, hu⟩ := (hU.but hp nt b3).same sx
      have el := UP.len hu
      refine comp_units (paired_drop 1 hu) hl6 (fun Qt hq => rest_of (te := tVar 1) ha (by rw [List.length_map, el]; exact g.u.lo) (fun Qt h => ⟨_, rfl, h⟩) (fun c H1 s1 h => hq c H1 s1 (by rw [List.map_drop]; exact h))) (fn := fun u => u.2 / 10 ^ dn) ?_ (fun y => rfl) ?_
      · intro pu u H4 Qe hm sm hs q4
        exact ⟨.ref pu, rfl, pu, _, 1, .int u.2, rfl, rfl, hs, rfl, .int (dn : Int), rfl, a2, _, dn, _, rfl, rfl, g3 H4, parts_at g.d3, u.2, _, rfl, rfl, ⟨pow_lo dn, Int.lt_of_le_of_lt (pow_hi g.d3) (by decide)⟩, q4⟩
      · intro D H4 sm nD hD
        have hx4 : H4 x = some (.tup [.int 1]) := sm _ _ upd_same
        have fin : ∀ (st : Addr) (H5 : Hp), Same H4 H5 → SqT K H5 st ((stepsOf us dn).map V.int) → H5 p = some (.ins L.C dx (putF "told" (.ref t) (fs5 ua dn rs cy lt))) ∧ ∀ o, But p H (upd H5 p o) ∧ SqT K (upd H5 p o) t [.ref ua, .int (dn : Int), .str rs, .bl cy, .int lt] ∧ SqT K (upd H5 p o) st ((stepsOf us dn).map V.int) := fun st H5 s5 hst => by
          have s35 := (sx.trans sm).trans s5
          have hp5 := s35 _ _ hp3
          exact ⟨hp5, fun o => ⟨b3.trans ((Same.but s35).trans (But.upd _ _ _)), (But.upd _ _ _).sqt hp5 rfl (same_sqt s35 ht3), (But.upd _ _ _).sqt hp5 rfl hst⟩⟩
        refine .inl ⟨D, _, rfl, SqL.of hD, fun r nr => ?_⟩
        have sr := same_upd nr (o := .tup (((us.drop 1).map fun u => u.2 / 10 ^ dn).map V.int))
        refine ⟨x, r, [.int 1], ((us.drop 1).map fun u => u.2 / 10 ^ dn).map V.int, rfl, rfl, SqT.of (sr _ _ hx4), SqT.of upd_same, Nat.le_trans (Nat.add_le_add_left (lenr _) 1) (by decide), (fun z => nomatch z), fun _ z => ?_, fun _ z y ny => ?_⟩
        · obtain ⟨f1, f2⟩ := fin x _ sr (SqT.of (by
            have e : (stepsOf us dn).map V.int = [.int 1] := by unfold stepsOf; rw [List.map_cons, z]
            rw [e]
            exact sr _ _ hx4))
          obtain ⟨f3, f4, f5⟩ := f2 (.ins L.C dx (putF "steps" (.ref x) (putF "told" (.ref t) (fs5 ua dn rs cy lt))))
          exact ⟨_, rfl, p, L.C, dx, _, rfl, f1, cl, L.nSteps, Nat.lt_of_le_of_lt lt6 (by decide), x, rfl, f3, upd_same, f4, f5⟩
        · obtain ⟨f1, f2⟩ := fin y _ (sr.trans (same_upd ny)) (SqT.of upd_same)
          obtain ⟨f3, f4, f5⟩ := f2 (.ins L.C dx (putF "steps" (.ref y) (putF "told" (.ref t) (fs5 ua dn rs cy lt))))
          exact ⟨_, rfl, p, L.C, dx, _, rfl, f1, cl, L.nSteps, Nat.lt_of_le_of_lt lt6 (by decide), y, rfl, f3, upd_same, f4, f5⟩
    rintro σ' H6 ⟨st, rfl, b6, hp6, ht6, hs6⟩
    -- the thresholds
    refine ⟨(by show 1 ≤ sizeLine; decide), fun x nx => ?_⟩
    have sx := same_upd nx (o := .tup [.int 0])
    obtain ⟨ps, ha, hu⟩ := (hU.but hp nt b6).same sx
    have el := UP.len hu
    refine comp_units (paired_drop 1 hu) hl6 (fun Qt hq => rest_of (te := tVar 1) ha (by rw [List.length_map, el]; exact g.u.lo) (fun Qt h => ⟨_, rfl, h⟩) (fun c H1 s1 h => hq c H1 s1 (by rw [List.map_drop]; exact h))) (fn := fun u => u.2 * lt) ?_ (fun y => rfl) ?_
    · intro pu u H4 Qe hm sm hs q4
      obtain ⟨k1, k2⟩ := each u hm
      exact ⟨.ref pu, rfl, pu, _, 1, .int u.2, rfl, rfl, hs, rfl, .int lt, rfl, u.2, lt, rfl, rfl, .inl ⟨by omega, by omega⟩, q4⟩
    · intro D H4 sm nD hD
      have hx4 : H4 x = some (.tup [.int 0]) := sm _ _ upd_same
      have fin : ∀ (th : Addr) (H5 : Hp), Same H4 H5 → SqT K H5 th ((thrsOf us lt).map V.int) → H5 p = some (.ins L.C dx (putF "steps" (.ref st) (putF "told" (.ref t) (fs5 ua dn rs cy lt)))) ∧ Q .non (upd H5 p (.ins L.C dx (flds ua dn rs cy lt t st th))) := fun th H5 s5 hth => by
        have s35 := (sx.trans sm).trans s5
        have hp5 := s35 _ _ hp6
        exact ⟨hp5, q _ t st th (b6.trans ((Same.but s35).trans (But.upd _ _ _))) upd_same ((But.upd _ _ _).sqt hp5 rfl (same_sqt s35 ht6)) ((But.upd _ _ _).sqt hp5 rfl (same_sqt s35 hs6)) ((But.upd _ _ _).sqt hp5 rfl hth)⟩
      refine .inl ⟨D, _, rfl, SqL.of hD, fun r nr => ?_⟩
      have sr := same_upd nr (o := .tup (((us.drop 1).map fun u => u.2 * lt).map V.int))
      refine ⟨x, r, [.int 0], ((us.drop 1).map fun u => u.2 * lt).map V.int, rfl, rfl, SqT.of (sr _ _ hx4), SqT.of upd_same, Nat.le_trans (Nat.add_le_add_left (lenr _) 1) (by decide), (fun z => nomatch z), fun _ z => ?_, fun _ z y ny => ?_⟩
      · obtain ⟨f1, f2⟩ := fin x _ sr (SqT.of (by
          have e : (thrsOf us lt).map V.int = [.int 0] := by unfold thrsOf; rw [List.map_cons, z]
          rw [e]
          exact sr _ _ hx4))
        exact ⟨_, rfl, p, L.C, dx, _, rfl, f1, cl, L.nThr, Nat.lt_of_le_of_lt (lt7 _) (by decide), f2⟩
      · obtain ⟨f1, f2⟩ := fin y _ (sr.trans (same_upd ny)) (SqT.of upd_same)
        exact ⟨_, rfl, p, L.C, dx, _, rfl, f1, cl, L.nThr, Nat.lt_of_le_of_lt (lt7 _) (by decide), f2⟩
end
end My

namespace My
open PySem PySem.Spec PyProof.Rows L2
abbrev sPlaced : Stmt := top 29
abbrev sRounded : Stmt := top 31
abbrev sGoes : Stmt := top 32
abbrev sCar : Stmt := top 33
abbrev sWritten : Stmt := top 34
abbrev sFigOf : Stmt := top 30
abbrev sCLad : Stmt := top 41
theorem scGoes : FnScope ["below", "rest", "step", "rounding"] ["below", "rest", "step", "rounding"] (defScope sGoes) := ⟨rfl, rfl, rfl, by decide +kernel, rfl, by decide +kernel, by decide +kernel⟩
theorem scRounded : FnScope ["number", "step", "rounding", "below", "rest"] ["number", "step", "rounding"] (defScope sRounded) := ⟨rfl, rfl, rfl, by decide +kernel, rfl, by decide +kernel, by decide +kernel⟩
theorem scCar : FnScope ["ladder", "place", "mark"] ["ladder", "place", "mark"] (defScope sCar) := ⟨rfl, rfl, rfl, by decide +kernel, rfl, by decide +kernel, by decide +kernel⟩
theorem scCLad : FnScope ["ladder"] ["ladder"] (defScope sCLad) := ⟨rfl, rfl, rfl, by decide +kernel, rfl, by decide +kernel, by decide +kernel⟩
/-! ### the mirror -/
def goesUp (b r st : Int) (s : Str) : Bool :=
  if s = "up" then decide (0 < r) else if s = "near" then decide (st ≤ 2 * r) else if s = "even" then decide (st < 2 * r) || (decide (2 * r = st) && decide (b % 2 = 1)) else false
def rnd (n st : Int) (s : Str) : Int := if goesUp (n / st) (n % st) st s = true then n / st + 1 else n / st
/-- a ladder stands at p -/
def LadAt (K : PySem.W.Frag) (C : Addr) (H : Hp) (p : Addr) (us : List (Str × Int)) (d : Nat) (s : Str) (c : Bool) (l : Int) : Prop :=
  ∃ dx ua t st th, H p = some (.ins C dx (flds ua d s c l t st th)) ∧ UA K H ua us ∧ SqT K H t [.ref ua, .int (d : Int), .str s, .bl c, .int l] ∧ SqT K H st ((stepsOf us d).map V.int) ∧ SqT K H th ((thrsOf us l).map V.int)
theorem LadAt.same {K : PySem.W.Frag} {C : Addr} {H H' : Hp} {p : Addr} {us : List (Str × Int)} {d : Nat} {s : Str} {c : Bool} {l : Int} (k : Same H H') (h : LadAt K C H p us d s c l) : LadAt K C H' p us d s c l := by
  obtain ⟨dx, ua, t, st, th, h1, h2, h3, h4, h5⟩ := h
  exact ⟨dx, ua, t, st, th, k _ _ h1, h2.same k, same_sqt k h3, same_sqt k h4, same_sqt k h5⟩
theorem len_steps (us : List (Str × Int)) (d : Nat) (h : 1 ≤ us.length) : (stepsOf us d).length = us.length := by
  unfold stepsOf
  rw [List.length_cons, List.length_map, List.length_drop]
  omega
theorem len_thrs (us : List (Str × Int)) (l : Int) (h : 1 ≤ us.length) : (thrsOf us l).length = us.length := by
  unfold thrsOf
  rw [List.length_cons, List.length_map, List.length_drop]
  omega
def spGoes : Sp := fun vs H Q _ => ∃ (b r st : Int) (s : Str), vs = [.int b, .int r, .int st, .str s] ∧ Q (.bl (goesUp b r st s)) H
def spRounded : Sp := fun vs H Q _ => ∃ (n st : Int) (s : Str), vs = [.int n, .int st, .str s] ∧ 0 < st ∧ st.natAbs < 2 ^ 64 ∧ ∀ H', Same H H' → Q (.int (rnd n st s)) H'
def isCar (us : List (Str × Int)) (d : Nat) (c : Bool) (l : Int) (p : Nat) (m : Int) : Bool := c && (decide (p + 1 < us.length) && decide ((thrsOf us l).getD (p + 1) 0 ≤ m * (stepsOf us d).getD p 0))
def spCar (K : PySem.W.Frag) (C : Addr) : Sp := fun vs H Q _ => ∃ (a : Addr) (us : List (Str × Int)) (d : Nat) (s : Str) (c : Bool) (l : Int) (p : Nat) (m : Int), vs = [.ref a, .int (p : Int), .int m] ∧ LadAt K C H a us d s c l ∧ Good us d s l ∧ p < us.length ∧ Q (.bl (isCar us d c l p m)) H
def spCLad (K : PySem.W.Frag) (C : Addr) : Sp := fun vs H Q _ => ∃ (a : Addr) (us : List (Str × Int)) (d : Nat) (s : Str) (c : Bool) (l : Int), vs = [.ref a] ∧ LadAt K C H a us d s c l ∧ Q .non H
def spCNum : Sp := fun vs H Q _ => ∃ n : Int, vs = [.int n] ∧ 0 ≤ n ∧ n ≤ 1000000000000000000 ∧ Q .non H
/-- what isinstance asks of the class -/
structure LadI (K : PySem.W.Frag) (C : Addr) : Prop where
  i1 : PySem.W.findIn K (.ref C) "__class__" = some (some (.builtin "object.__class__"))
  i2 : PySem.W.specialIn K (.builtin "object.__class__") "__get__" = some (some (.builtin "getset_descriptor.__get__"))
  i3 : PySem.W.takesIn K (.builtin "object.__class__") = some true
  i4 : PySem.W.mroIn K C (.type "object") = some true
  i5 : PySem.W.kitOne K (.ref C) (.ref C) = some true
theorem steps_ok {us : List (Str × Int)} {d : Nat} {s : Str} {l : Int} (g : Good us d s l) {p : Nat} (hp : p < us.length) : (stepsOf us d)[p]? = some ((stepsOf us d).getD p 0) ∧ 0 < (stepsOf us d).getD p 0 ∧ (stepsOf us d).getD p 0 ≤ 1000000000000000000 := by
  have e := len_steps us d g.u.lo
  have h1 : (stepsOf us d)[p]? = some (stepsOf us d)[p] := List.getElem?_eq_getElem (by omega)
  have h2 : (stepsOf us d).getD p 0 = (stepsOf us d)[p] := by rw [List.getD_eq_getElem?_getD, h1]; rfl
  rw [h2]
  refine ⟨h1, ?_⟩
  have hm : (stepsOf us d)[p] ∈ stepsOf us d := List.getElem_mem _
  unfold stepsOf at hm
  rcases List.mem_cons.mp hm with z | z
  · have e2 : (stepsOf us d)[p] = 1 := z
    rw [e2]
    exact ⟨by decide, by decide⟩
  · obtain ⟨u, hu, e2⟩ := List.mem_map.mp z
    have e3 : u.2 / 10 ^ d = (stepsOf us d)[p] := e2
    rw [← e3]
    obtain ⟨j, hj⟩ := List.getElem?_of_mem (List.mem_of_mem_drop hu)
    obtain ⟨_, k1, k2, _⟩ := g.u.each j u hj
    have hz := g.div u hu
    have hp := pow_lo d
    have hq : (2 * 10 ^ d : Int) ∣ u.2 := Int.dvd_of_emod_eq_zero hz
    obtain ⟨q, hq⟩ := hq
    have e4 : u.2 / 10 ^ d = 2 * q := by
      rw [hq, show (2 * 10 ^ d * q : Int) = 2 * q * 10 ^ d by rw [Int.mul_assoc, Int.mul_assoc, Int.mul_comm (10 ^ d) q]]
      exact Int.mul_ediv_cancel _ (by omega)
    have hqpos : 0 < q := by
      rcases Int.lt_or_le 0 q with z | z
      · exact z
      · exfalso
        have : 2 * 10 ^ d * q ≤ 0 := Int.mul_nonpos_of_nonneg_of_nonpos (by omega) z
        omega
    constructor
    · omega
    · have : u.2 / 10 ^ d ≤ u.2 := Int.ediv_le_self _ (by omega)
      omega
section
variable {P : Program} {w : World} {K : PySem.W.Frag} {mg : Str → Option Value} {base : Heap}
theorem ok_goes (d : Dd K mg "goes_up" sGoes ["below", "rest", "step", "rounding"]) : FnOk P w K mg base CX0 2 d.f d.fd ["below", "rest", "step", "rounding"] spGoes := by
  refine d.F.ok scGoes (fun vs H Q E h => ?_) (fun cdv A outer s H vs Q E hr h => ?_)
  · obtain ⟨_, _, _, _, rfl, _⟩ := h
    rfl
  · obtain ⟨b, r, st, z, rfl, q⟩ := h
    refine ⟨_, pss_cons (ps_if (pt_cmpR op_eq (pv 3) pe_str (nomark _)) (pss_one (ps_ret (pe_cmpR op_gt (pv 1) pe_int (nomark _)))) pss_nil)
      (pss_cons (ps_if (pt_cmpR op_eq (pv 3) pe_str (nomark _)) (pss_one (ps_ret (pe_cmpR op_ge (pe_op op_mul pe_int (pv 1)) (pv 2) (nomark _)))) pss_nil)
      (pss_cons (ps_if (pt_cmpR op_eq (pv 3) pe_str (nomark _)) (pss_one (ps_ret (pe_or (pe_cmpR op_gt (pe_op op_mul pe_int (pv 1)) (pv 2) (nomark _))
        (pe_one (pe_and (pe_cmpR op_eq (pe_op op_mul pe_int (pv 1)) (pv 2) (nomark _)) (pe_one (pe_cmpR op_eq (pe_op op_mod (pv 0) pe_int) pe_int (nomark _)))))))) pss_nil)
      (pss_one (ps_ret pe_bl)))), ?_⟩
    unfold goesUp at q
    have hd : ∀ x : Str, decide (V.str z = V.str x) = true → z = x := fun x e => V.str.inj (of_decide_eq_true e)
    have hn : ∀ x : Str, ¬ decide (V.str z = V.str x) = true → ¬ z = x := fun x e y => e (decide_eq_true (congrArg V.str y))
    refine ⟨_, rfl, rfl, _, rfl, ite2 (fun e => ?_) (fun e => ?_)⟩
    · rw [if_pos (hd _ e)] at q
      exact ⟨_, rfl, r, 0, rfl, rfl, q⟩
    rw [if_neg (hn _ e)] at q
    refine ⟨_, rfl, rfl, _, rfl, ite2 (fun e => ?_) (fun e => ?_)⟩
    · rw [if_pos (hd _ e)] at q
      exact ⟨_, rfl, 2, r, rfl, rfl, .inl ⟨by decide, by decide⟩, _, rfl, _, st, rfl, rfl, q⟩
    rw [if_neg (hn _ e)] at q
    refine ⟨_, rfl, rfl, _, rfl, ite2 (fun e => ?_) (fun e => ?_)⟩
    · rw [if_pos (hd _ e)] at q
      refine ⟨_, rfl, 2, r, rfl, rfl, .inl ⟨by decide, by decide⟩, _, rfl, _, st, rfl, rfl, _, rfl, ite2 (fun e1 => ?_) (fun e1 => ?_)⟩
      · have e2 : decide (st < 2 * r) = true := e1
        rw [e2] at q
        exact q
      · have e2 : decide (st < 2 * r) = false := Bool.eq_false_iff.mpr e1
        rw [e2, Bool.false_or] at q
        refine ⟨_, rfl, 2, r, rfl, rfl, .inl ⟨by decide, by decide⟩, _, rfl, rfl, _, rfl, ite2 (fun e3 => ?_) (fun e3 => ?_)⟩
        · have e4 : (2 * r = st) := V.int.inj (of_decide_eq_true e3)
          rw [decide_eq_true e4, Bool.true_and] at q
          refine ⟨_, rfl, b, 2, rfl, rfl, (by show (0 : Int) < 2; decide), rfl, ?_⟩
          have e5 : decide (V.int (b % 2) = V.int 1) = decide (b % 2 = 1) := by simp
          show Q (.bl (decide (V.int (b % 2) = V.int 1))) H
          rw [e5]
          exact q
        · have e4 : ¬ (2 * r = st) := fun z => e3 (decide_eq_true (congrArg V.int z))
          rw [decide_eq_false e4, Bool.false_and] at q
          exact q
    rw [if_neg (hn _ e)] at q
    exact q
theorem ok_rounded (d : Dd K mg "rounded" sRounded ["number", "step", "rounding"]) (dG : Dd K mg "goes_up" sGoes ["below", "rest", "step", "rounding"]) (B : Bt mg) : FnOk P w K mg base CX0 3 d.f d.fd ["number", "step", "rounding"] spRounded := by
  have GG : FnOk P w K mg base CX0 2 dG.f dG.fd ["below", "rest", "step", "rounding"] spGoes := ok_goes dG
  refine d.F.ok scRounded (fun vs H Q E h => ?_) (fun cdv A outer s H vs Q E hr h => ?_)
  · obtain ⟨_, _, _, rfl, _⟩ := h
    rfl
  · obtain ⟨n, st, z, rfl, h0, h1, q⟩ := h
    refine ⟨_, pss_cons (ps_asg (pe_callB call_divmodW (by rfl) B.divmod (by decide +kernel) (pa_cons (pv 0) (pa_cons (pv 1) pa_nil))) (pg_tup rfl (pgs_cons (pg_name (i := 3) scRounded.nd rfl (.inl rfl)) (pgs_cons (pg_name (i := 4) scRounded.nd rfl (.inl rfl)) pgs_nil))))
      (pss_cons (ps_if (pt_val (pe_call GG hr (by rfl) dG.g dG.F.kp dG.b .nil pass0 (pa_cons (pv 3) (pa_cons (pv 4) (pa_cons (pv 1) (pa_cons (pv 2) pa_nil)))))) (pss_one (ps_ret (pe_op op_add (pv 3) pe_int))) pss_nil)
      (pss_one (ps_ret (pv 3)))), ?_⟩
    refine ⟨_, rfl, _, rfl, n, st, rfl, divp_small _ h0 h1, fun p np => ?_⟩
    refine ⟨p, _, rfl, SqT.of upd_same, rfl, _, _, rfl, _, _, rfl, rfl, ?_⟩
    have qq := q _ (same_upd np (o := .tup [.int (n / st), .int (n % st)]))
    unfold rnd at qq
    refine ⟨_, rfl, _, rfl, _, rfl, _, rfl, n / st, n % st, st, z, rfl, _, rfl, ite2 (fun e => ?_) (fun e => ?_)⟩
    · rw [if_pos e] at qq
      exact ⟨_, rfl, _, 1, rfl, rfl, qq⟩
    · rw [if_neg e] at qq
      exact ⟨_, rfl, qq⟩
theorem ok_clad (d : Dd K mg "check_ladder" sCLad ["ladder"]) (L : LadC K mg) (I : LadI K L.C) (B : Bt mg) : FnOk P w K mg base CX0 2 d.f d.fd ["ladder"] (spCLad K L.C) := by
  refine d.F.ok scCLad (fun vs H Q E h => ?_) (fun cdv A outer s H vs Q E hr h => ?_)
  · obtain ⟨_, _, _, _, _, _, rfl, _⟩ := h
    rfl
  · obtain ⟨a, us, dn, z, c, l, rfl, ⟨dx, ua, t, st, th, hp, _⟩, q⟩ := h
    refine ⟨_, pss_one (ps_if (pt_not (pt_val (pe_callB call_isi (by rfl) B.isinstance (by decide +kernel) (pa_cons (pv 0) (pa_cons (pe_glob (v := .ref L.C) (by rfl) L.g rfl) pa_nil))))) (pss_one ps_never) pss_nil), ?_⟩
    exact ⟨_, rfl, _, _, _, _, true, rfl, .own L.C, .base (.ins hp L.cl I.i1 I.i2 I.i3 I.i4), I.i5, _, rfl, iteF q⟩
theorem ok_car (d : Dd K mg "is_carried" sCar ["ladder", "place", "mark"]) (L : LadC K mg) (B : Bt mg) : FnOk P w K mg base CX0 2 d.f d.fd ["ladder", "place", "mark"] (spCar K L.C) := by
  refine d.F.ok scCar (fun vs H Q E h => ?_) (fun cdv A outer s H vs Q E hr h => ?_)
  · obtain ⟨_, _, _, _, _, _, _, _, rfl, _⟩ := h
    rfl
  · obtain ⟨a, us, dn, z, c, l, p, m, rfl, ⟨dx, ua, t, st, th, hp, ⟨ps, hua, hu⟩, ht, hs, hth⟩, g, hlt, q⟩ := h
    refine ⟨_, pss_cons (ps_if (PW.pt (pw_or (pt_not (pt_val (pe_fld (pv 0) rfl))) (pw_or1 (pt_cmpR op_eq (pe_op op_add (pv 1) pe_int) (pe_callB call_len_seq (by rfl) B.len PySem.boot_len (pa_cons (pe_fld (pv 0) rfl) pa_nil)) (nomark _))))) (pss_one (ps_ret pe_bl)) pss_nil)
      (pss_one (ps_ret (pe_cmpR op_ge (pe_op op_mul (pv 2) (pe_ix ix_tup (pe_fld (pv 0) rfl) (pv 1) (fun _ _ => rfl))) (pe_ix ix_tup (pe_fld (pv 0) rfl) (pe_op op_add (pv 1) pe_int) (fun _ _ => rfl)) (nomark _)))), ?_⟩
    unfold isCar at q
    have el := UP.len hu
    refine ⟨_, rfl, a, L.C, dx, _, _, rfl, hp, L.cl, L.nCarry, fl_carry .., _, rfl, ?_⟩
    cases c with
    | false =>
      refine iteT ?_
      refine iteT ?_
      exact q
    | true =>
      refine iteF ?_
      rw [Bool.true_and] at q
      refine ⟨_, rfl, p, 1, rfl, rfl, _, rfl, a, L.C, dx, _, _, rfl, hp, L.cl, L.nUnits, fl_units .., ua, _, rfl, .inr hua, rfl, _, rfl, ite2 (fun e => ?_) (fun e => ?_)⟩
      · have e1 : (p : Int) + 1 = ((ps.map V.ref).length : Int) := V.int.inj (of_decide_eq_true e)
        rw [List.length_map, el] at e1
        rw [decide_eq_false (show ¬ p + 1 < us.length by omega), Bool.false_and] at q
        exact q
      · have e1 : ¬ (p : Int) + 1 = ((ps.map V.ref).length : Int) := fun z => e (decide_eq_true (congrArg V.int z))
        rw [List.length_map, el] at e1
        have h1 : p + 1 < us.length := by omega
        rw [decide_eq_true h1, Bool.true_and] at q
        obtain ⟨s1, s2, s3⟩ := steps_ok g hlt
        have lt := len_thrs us l g.u.lo
        have t1 : (thrsOf us l)[p + 1]? = some ((thrsOf us l).getD (p + 1) 0) := by
          have h2 : (thrsOf us l)[p + 1]? = some (thrsOf us l)[p + 1] := List.getElem?_eq_getElem (by omega)
          rw [List.getD_eq_getElem?_getD, h2]
          rfl
        refine ⟨_, rfl, _, rfl, a, L.C, dx, _, _, rfl, hp, L.cl, L.nSteps, fl_steps .., _, rfl, st, _, p, .int ((stepsOf us dn).getD p 0), rfl, rfl, hs, atI_nat (by rw [List.getElem?_map, s1]; rfl), m, _, rfl, rfl, .inr ⟨by omega, by omega⟩, ?_⟩
        refine ⟨_, rfl, a, L.C, dx, _, _, rfl, hp, L.cl, L.nThr, fl_thr .., _, rfl, p, 1, rfl, rfl, th, _, (p + 1 : Nat), .int ((thrsOf us l).getD (p + 1) 0), rfl, rfl, hth, atI_nat (by rw [List.getElem?_map, t1]; rfl), _, _, rfl, rfl, q⟩
end
end My

namespace My
open PySem PySem.Spec PyProof.Rows L2
/-! ### texts as lists of signs -/
theorem str_ext {x y : Str} (h : x.cps.toList = y.cps.toList) : x = y := by
  cases x
  cases y
  exact congrArg Str.mk (Array.toList_inj.mp h)
theorem str_app (x y : Str) : (x ++ y).cps.toList = x.cps.toList ++ y.cps.toList := Array.toList_append
theorem str_len (x : Str) : x.length = x.cps.toList.length := by show x.cps.size = _; simp
/-- the signs of a number -/
def dg (m : Int) : List Nat := (Str.ofString (toString m)).cps.toList
theorem dg_digits {m : Int} (h : 0 ≤ m) : ∀ c ∈ dg m, 48 ≤ c ∧ c ≤ 57 := by
  obtain ⟨k, rfl⟩ := Int.eq_ofNat_of_zero_le h
  intro c hc
  unfold dg at hc
  rw [PySem.W.KIN.signs_num] at hc
  obtain ⟨ch, hch, e⟩ := List.mem_map.mp hc
  have r := PyProof.Rows.digit_range (Nat.isDigit_of_mem_toDigits (by decide) (by decide) hch)
  rw [← e]
  exact r
theorem dg_pos {m : Int} (h : 0 ≤ m) : 1 ≤ (dg m).length := by
  obtain ⟨k, rfl⟩ := Int.eq_ofNat_of_zero_le h
  unfold dg
  rw [PySem.W.KIN.signs_num, List.length_map]
  exact toDigits_len_ge 10 k
theorem dg_small {m : Int} (h2 : m.natAbs < 10 ^ 40) : (dg m).length ≤ 41 := by
  unfold dg
  rw [← str_len]
  have e := PySem.int_text_length_le10 (a := m) (k := 40) (by decide) h2
  rw [PySem.ofString_length]
  exact e
/-- a number filled with zeros -/
def zf (d : Nat) (m : Int) : List Nat := List.replicate (d + 1 - (dg m).length) 48 ++ dg m
theorem zf_len (d : Nat) (m : Int) : (zf d m).length = max (d + 1) (dg m).length := by
  unfold zf
  rw [List.length_append, List.length_replicate]
  omega
def body (d : Nat) (m : Int) : List Nat := (zf d m).take ((zf d m).length - d) ++ 46 :: (zf d m).drop ((zf d m).length - d)
/-- the figure of a place and a mark -/
def writ (us : List (Str × Int)) (d p : Nat) (m : Int) : Str := if p = 0 ∨ d = 0 then Str.ofString (toString m) ++ (us.getD p ("", 0)).1 else ⟨(body d m).toArray⟩ ++ (us.getD p ("", 0)).1
theorem zfill_zf {d : Nat} {m : Int} (h : 0 ≤ m) : (Txt.zfill (Str.ofString (toString m)) ((d : Int) + 1)).cps.toList = zf d m := by
  have hl : (Str.ofString (toString m)).length = (dg m).length := str_len _
  unfold Txt.zfill
  rw [hl]
  by_cases c : ((d : Int) + 1) ≤ ((dg m).length : Int)
  · rw [if_pos c]
    unfold zf
    rw [show d + 1 - (dg m).length = 0 by omega]
    rfl
  · rw [if_neg c]
    have e1 : ((d : Int) + 1).toNat - (dg m).length = d + 1 - (dg m).length := by omega
    rw [e1]
    have hp := dg_pos h
    obtain ⟨c0, r, e2⟩ : ∃ c0 r, dg m = c0 :: r := by
      cases e : dg m with
      | nil => rw [e] at hp; exact absurd hp (by decide)
      | cons a l => exact ⟨a, l, rfl⟩
    have hc0 := dg_digits h c0 (by rw [e2]; exact List.mem_cons_self ..)
    have e3 : (Str.ofString (toString m)).cps[0]? = some c0 := by
      rw [← Array.getElem?_toList]
      show (dg m)[0]? = some c0
      rw [e2]
      rfl
    unfold zfilled
    rw [e3]
    split
    · rename_i q; have := Option.some.inj q; omega
    · rename_i q; have := Option.some.inj q; omega
    · unfold Builtin.Str.padded zf dg
      simp
theorem cut_to {z : Str} {d : Nat} (h1 : 1 ≤ d) : (cutS z none (some (-(d : Int)))).cps.toList = z.cps.toList.take (z.cps.toList.length - d) := by
  unfold cutS
  have e : HT.sIx z.length z.length (some (-(d : Int))) = z.length - d := by
    show (if (-(d : Int)) < 0 then ((-(d : Int)) + (z.length : Int)).toNat else min (-(d : Int)).toNat z.length) = _
    rw [if_pos (by omega)]
    omega
  rw [HT.sIx_none, e, str_len]
  simp
theorem cut_from {z : Str} {d : Nat} (h1 : 1 ≤ d) : (cutS z (some (-(d : Int))) none).cps.toList = z.cps.toList.drop (z.cps.toList.length - d) := by
  unfold cutS
  have e : HT.sIx z.length 0 (some (-(d : Int))) = z.length - d := by
    show (if (-(d : Int)) < 0 then ((-(d : Int)) + (z.length : Int)).toNat else min (-(d : Int)).toNat z.length) = _
    rw [if_pos (by omega)]
    omega
  rw [HT.sIx_none, e, str_len]
  simp only [List.toList_toArray]
  refine List.take_of_length_le ?_
  rw [List.length_drop]
  exact Nat.le_refl _
theorem cut_ton {z : Str} {k : Nat} (h1 : k ≤ z.cps.toList.length) : (cutS z none (some (k : Int))).cps.toList = z.cps.toList.take k := by
  unfold cutS
  rw [HT.sIx_none, HT.sIx_nat, str_len, Nat.min_eq_left h1]
  simp
theorem cut_fromn {z : Str} {k : Nat} (h1 : k ≤ z.cps.toList.length) : (cutS z (some (k : Int)) none).cps.toList = z.cps.toList.drop k := by
  unfold cutS
  rw [HT.sIx_none, HT.sIx_nat, str_len, Nat.min_eq_left h1]
  simp only [List.toList_toArray]
  refine List.take_of_length_le ?_
  rw [List.length_drop]
  exact Nat.le_refl _
theorem fold_app (n : Nat) : ∀ a : Array Nat, ((List.replicate n (#[48] : Array Nat)).foldl (· ++ ·) a).toList = a.toList ++ List.replicate n 48 := by
  induction n with
  | zero => intro a; simp
  | succ n ih =>
    intro a
    rw [List.replicate_succ, List.foldl_cons, ih]
    simp [List.replicate_succ]
theorem mul_zero (k : Int) : (Txt.mul ("0" : Str) k).cps.toList = List.replicate k.toNat 48 := by
  unfold Txt.mul
  by_cases h : k < 1
  · rw [if_pos h, show k.toNat = 0 by omega]
    rfl
  · rw [if_neg h]
    by_cases h1 : k = 1
    · subst h1
      rfl
    · have e : (k == 1 || ("0" : Str).length == 0) = false := by
        have e1 : (k == 1) = false := by simpa using h1
        rw [e1]
        rfl
      rw [e, if_neg Bool.false_ne_true]
      have e2 : ("0" : Str).cps = #[48] := rfl
      show ((List.replicate k.toNat ("0" : Str).cps).foldl (· ++ ·) #[]).toList = _
      rw [e2, fold_app]
      rfl
end My

namespace My
open PySem PySem.Spec PyProof.Rows L2
theorem scPlaced : FnScope ["ladder", "number", "place", "mark", "low"] ["ladder", "number"] (defScope sPlaced) := ⟨rfl, rfl, rfl, by decide +kernel, rfl, by decide +kernel, by decide +kernel⟩
theorem scWritten : FnScope ["ladder", "place", "mark", "name", "digits"] ["ladder", "place", "mark"] (defScope sWritten) := ⟨rfl, rfl, rfl, by decide +kernel, rfl, by decide +kernel, by decide +kernel⟩
theorem scFigOf : FnScope ["ladder", "number", "place", "mark"] ["ladder", "number"] (defScope sFigOf) := ⟨rfl, rfl, rfl, by decide +kernel, rfl, by decide +kernel, by decide +kernel⟩
def cntOf (us : List (Str × Int)) (l n : Int) : Nat := ((thrsOf us l).filter fun t => decide (t ≤ n)).length
def placeOf (us : List (Str × Int)) (l n : Int) : Nat := cntOf us l n - 1
theorem cnt_pos {us : List (Str × Int)} {l n : Int} (h : 0 ≤ n) : 1 ≤ cntOf us l n := by
  unfold cntOf thrsOf
  rw [List.filter_cons, if_pos (decide_eq_true h), List.length_cons]
  omega
theorem cnt_le {us : List (Str × Int)} {l n : Int} (h : 1 ≤ us.length) : cntOf us l n ≤ us.length := by
  unfold cntOf
  rw [← len_thrs us l h]
  exact List.length_filter_le _ _
/-- the place and the mark by which a number is shown -/
def placedM (us : List (Str × Int)) (d : Nat) (s : Str) (c : Bool) (l n : Int) : Nat × Int :=
  if isCar us d c l (placeOf us l n) (rnd n ((stepsOf us d).getD (placeOf us l n) 0) s) = true
  then (placeOf us l n + 1, rnd n ((stepsOf us d).getD (placeOf us l n + 1) 0) s)
  else (placeOf us l n, rnd n ((stepsOf us d).getD (placeOf us l n) 0) s)
def spPlaced (K : PySem.W.Frag) (C : Addr) : Sp := fun vs H Q _ => ∃ (a : Addr) (us : List (Str × Int)) (d : Nat) (s : Str) (c : Bool) (l n : Int), vs = [.ref a, .int n] ∧ LadAt K C H a us d s c l ∧ Good us d s l ∧ 0 ≤ n ∧
  ∀ (r : Addr) (H' : Hp), Same H H' → SqT K H' r [.int ((placedM us d s c l n).1 : Int), .int (placedM us d s c l n).2] → Q (.ref r) H'
def spWritten (K : PySem.W.Frag) (C : Addr) : Sp := fun vs H Q _ => ∃ (a : Addr) (us : List (Str × Int)) (d : Nat) (s : Str) (c : Bool) (l : Int) (p : Nat) (m : Int), vs = [.ref a, .int (p : Int), .int m] ∧ LadAt K C H a us d s c l ∧ Good us d s l ∧ p < us.length ∧ 0 ≤ m ∧ m < 10 ^ 40 ∧ Q (.str (writ us d p m)) H
theorem isCar_lt {us : List (Str × Int)} {d : Nat} {c : Bool} {l : Int} {p : Nat} {m : Int} (h : isCar us d c l p m = true) : p + 1 < us.length := by
  unfold isCar at h
  rw [Bool.and_eq_true, Bool.and_eq_true] at h
  exact of_decide_eq_true h.2.1
theorem name_small {us : List (Str × Int)} (g : GoodUs us) (p : Nat) : (us.getD p ("", 0)).1.length ≤ 3 := by
  rw [List.getD_eq_getElem?_getD]
  cases e : us[p]? with
  | none => decide
  | some u => exact (g.each p u e).1.1
section
variable {P : Program} {w : World} {K : PySem.W.Frag} {mg : Str → Option Value} {base : Heap}
theorem ok_placed (d : Dd K mg "placed" sPlaced ["ladder", "number"]) (dR : Dd K mg "rounded" sRounded ["number", "step", "rounding"]) (dG : Dd K mg "goes_up" sGoes ["below", "rest", "step", "rounding"]) (dC : Dd K mg "is_carried" sCar ["ladder", "place", "mark"]) (L : LadC K mg) (B : Bt mg) :
    FnOk P w K mg base CX0 4 d.f d.fd ["ladder", "number"] (spPlaced K L.C) := by
  have GR : FnOk P w K mg base CX0 3 dR.f dR.fd ["number", "step", "rounding"] spRounded := ok_rounded dR dG B
  have GC : FnOk P w K mg base CX0 2 dC.f dC.fd ["ladder", "place", "mark"] (spCar K L.C) := ok_car dC L B
  refine d.F.ok scPlaced (fun vs H Q E h => ?_) (fun cdv A outer s H vs Q E hr h => ?_)
  · obtain ⟨_, _, _, _, _, _, _, rfl, _⟩ := h
    rfl
  · obtain ⟨a, us, dn, z, c, l, n, rfl, hL, g, h0, q⟩ := h
    have hr1 : Room 2 _ := hr.mono (by decide)
    have nd := scPlaced.nd
    refine ⟨_, Evl.pss_cut (ps_set (i := 2) nd rfl (.inl rfl) (pe_op op_sub (pe_callB call_len_seq (by rfl) B.len PySem.boot_len (pa_cons
        (pe_lc (own := [("low", 4)]) (g := gName 4) rfl nd (pi_tup (pe_fld (pv 0) rfl)) (blkOk_by (own := [("low", 4)]) (N := ["ladder", "number", "place", "mark", "low"]) (sc := defScope sPlaced) (by decide +kernel)) (fun _ _ _ _ _ => pg_name (i := 4) nd rfl (Or.inl rfl))
          (fun _ _ _ _ _ => pts_one (pt_cmpR op_le (pv 4) (pv 1) (nomark _))) (fun _ _ _ _ _ => pv 4)) pa_nil)) pe_int))
      (pss_cons (ps_set (i := 3) nd rfl (.inl rfl) (pe_call GR hr (by rfl) dR.g dR.F.kp dR.b .nil pass0 (pa_cons (pv 1) (pa_cons (pe_ix ix_tup (pe_fld (pv 0) rfl) (pv 2) (fun _ _ => rfl)) (pa_cons (pe_fld (pv 0) rfl) pa_nil)))))
      (pss_cons (ps_if (pt_not (pt_val (pe_call GC hr1 (by rfl) dC.g dC.F.kp dC.b .nil pass0 (pa_cons (pv 0) (pa_cons (pv 2) (pa_cons (pv 3) pa_nil)))))) (pss_one (ps_ret (pe_tup (pa_cons (pv 2) (pa_cons (pv 3) pa_nil))))) pss_nil)
      (pss_one (ps_ret (pe_tup (pa_cons (pe_op op_add (pv 2) pe_int) (pa_cons (pe_call GR hr (by rfl) dR.g dR.F.kp dR.b .nil pass0 (pa_cons (pv 1) (pa_cons (pe_ix ix_tup (pe_fld (pv 0) rfl) (pe_op op_add (pv 2) pe_int) (fun _ _ => rfl)) (pa_cons (pe_fld (pv 0) rfl) pa_nil)))) pa_nil))))))), ?_⟩
    have hc1 := cnt_pos (us := us) (l := l) h0
    have hc2 := cnt_le (l := l) (n := n) g.u.lo
    refine ⟨fun σ' H' => Same H H' ∧ σ' = [some (.ref a), some (.int n), some (.int (placeOf us l n : Int)), none, none], ?_, ?_⟩
    · obtain ⟨dx, ua, t, st, th, hp, hua, ht, hs, hth⟩ := hL
      refine ⟨.ref a, rfl, a, L.C, dx, _, _, rfl, hp, L.cl, L.nThr, fl_thr .., th, rfl, ⟨_, hth⟩, fun D nD => ?_⟩
      refine lc_tup (K := K) (a := th) (xs := (thrsOf us l).map V.int) (fun i H2 => Same H H2 ∧ H2 D = some (.lst ((((thrsOf us l).take i).filter fun t => decide (t ≤ n)).map V.int))) ⟨same_upd nD, upd_same⟩ (fun i H2 _ h => same_sqt h.1 hth) ?_ ?_
      · rintro i x H2 hi ⟨sm, hD⟩
        rw [List.getElem?_map] at hi
        cases e : (thrsOf us l)[i]? with
        | none => rw [e] at hi; cases hi
        | some y =>
          rw [e] at hi
          have ex := (Option.some.inj hi).symm
          subst ex
          have et : ((thrsOf us l).take (i + 1)).filter (fun t => decide (t ≤ n)) = ((thrsOf us l).take i).filter (fun t => decide (t ≤ n)) ++ (if decide (y ≤ n) = true then [y] else []) := by
            rw [List.take_add_one, e, List.filter_append]
            congr 1
            show List.filter _ [y] = _
            rw [List.filter_cons]
            rfl
          refine ⟨rfl, .int y, rfl, .int n, rfl, y, n, rfl, rfl, _, rfl, ite2 (fun c1 => ?_) (fun c1 => ?_)⟩
          · refine ⟨.int y, rfl, _, hD, ?_, fun b o eb => ?_, ?_⟩
            · rw [List.length_map]
              have k1 : (((thrsOf us l).take i).filter fun t => decide (t ≤ n)).length ≤ 6 := Nat.le_trans (List.length_filter_le _ _) (by rw [List.length_take, len_thrs us l g.u.lo]; have := g.u.hi; omega)
              exact Nat.lt_of_le_of_lt k1 (by decide)
            · rw [upd_ne (ne_of_none eb nD)]
              exact sm _ _ eb
            · have c2 : decide (y ≤ n) = true := c1
              rw [upd_same, et, if_pos c2, List.map_append]
              rfl
          · have c2 : ¬ decide (y ≤ n) = true := c1
            refine ⟨sm, ?_⟩
            rw [et, if_neg c2, List.append_nil]
            exact hD
      · rintro H2 ⟨sm, hD⟩
        rw [List.length_map, List.take_of_length_le (Nat.le_refl _)] at hD
        refine ⟨D, _, rfl, .inl (SqL.of hD), _, 1, rfl, rfl, sm, ?_⟩
        have e : (((((thrsOf us l).filter fun t => decide (t ≤ n)).map V.int).length : Nat) : Int) - 1 = (placeOf us l n : Int) := by
          rw [List.length_map]
          show ((cntOf us l n : Nat) : Int) - 1 = ((cntOf us l n - 1 : Nat) : Int)
          omega
        show [some (V.ref a), some (V.int n), some (V.int (((((thrsOf us l).filter fun t => decide (t ≤ n)).map V.int).length : Int) - 1)), none, none] = _
        rw [e]
    · rintro σ' H1 ⟨s1, rfl⟩
      have hpl : placeOf us l n < us.length := by unfold placeOf; omega
      obtain ⟨pm, unf⟩ : ∃ pm, placedM us dn z c l n = pm := ⟨_, rfl⟩
      rw [unf] at q
      unfold placedM at unf
      generalize placeOf us l n = p at hpl unf ⊢
      obtain ⟨dx, ua, t, st, th, hp, hua, ht, hs, hth⟩ := hL.same s1
      obtain ⟨k1, k2, k3⟩ := steps_ok g hpl
      refine ⟨_, rfl, _, rfl, a, L.C, dx, _, _, rfl, hp, L.cl, L.nSteps, fl_steps .., _, rfl, st, _, p, .int ((stepsOf us dn).getD p 0), rfl, rfl, hs, atI_nat (by rw [List.getElem?_map, k1]; rfl), _, rfl, a, L.C, dx, _, _, rfl, hp, L.cl, L.nRnd, fl_rnd .., n, _, z, rfl, k2, by omega, fun H2 s2 => ?_⟩
      have hL2 := (hL.same s1).same s2
      refine ⟨_, rfl, _, rfl, _, rfl, a, us, dn, z, c, l, p, _, rfl, hL2, g, hpl, ?_⟩
      cases ec : isCar us dn c l p (rnd n ((stepsOf us dn).getD p 0) z) with
      | false =>
        rw [ec, if_neg Bool.false_ne_true] at unf
        refine ⟨false, rfl, iteT ?_⟩
        refine ⟨_, rfl, _, rfl, (by show 2 ≤ sizeLine; decide), fun r nr => ?_⟩
        refine q r _ ((s1.trans s2).trans (same_upd nr)) ?_
        subst unf
        exact SqT.of upd_same
      | true =>
        rw [ec, if_pos rfl] at unf
        refine ⟨true, rfl, iteF ?_⟩
        have hp1 := isCar_lt ec
        obtain ⟨j1, j2, j3⟩ := steps_ok g hp1
        obtain ⟨dx', ua', t', st', th', hp', hua', ht', hs', hth'⟩ := hL2
        refine ⟨_, rfl, p, 1, rfl, rfl, _, rfl, _, rfl, a, L.C, dx', _, _, rfl, hp', L.cl, L.nSteps, fl_steps .., _, rfl, p, 1, rfl, rfl, st', _, ((p + 1 : Nat) : Int), .int ((stepsOf us dn).getD (p + 1) 0), rfl, rfl, hs', atI_nat (by rw [List.getElem?_map, j1]; rfl),
          _, rfl, a, L.C, dx', _, _, rfl, hp', L.cl, L.nRnd, fl_rnd .., n, _, z, rfl, j2, by omega, fun H3 s3 => ?_⟩
        refine ⟨(by show 2 ≤ sizeLine; decide), fun r nr => ?_⟩
        refine q r _ (((s1.trans s2).trans s3).trans (same_upd nr)) ?_
        subst unf
        exact SqT.of upd_same
end
end My

namespace My
open PySem PySem.Spec PyProof.Rows L2
theorem pad_ok {d : Nat} (h : d ≤ 3) : PadOk ((d : Int) + 1) = true := by
  match d, h with
  | 0, _ => decide +kernel
  | 1, _ => decide +kernel
  | 2, _ => decide +kernel
  | 3, _ => decide +kernel
  | n + 4, h => omega
theorem small41 {n k : Nat} (h : n ≤ 41) (hk : k ≤ 50) : n + k ≤ sizeLine := Nat.le_trans (Nat.add_le_add h hk) (by decide)
theorem rnd_lo {n st : Int} {s : Str} (h0 : 0 ≤ n) (h1 : 0 < st) : 0 ≤ rnd n st s ∧ rnd n st s ≤ n + 1 := by
  unfold rnd
  have a := Int.ediv_nonneg h0 (Int.le_of_lt h1)
  have b := Int.ediv_le_self st h0
  split <;> omega
theorem placedM_ok {us : List (Str × Int)} {d : Nat} {s : Str} {c : Bool} {l n : Int} (g : Good us d s l) (h0 : 0 ≤ n) : (placedM us d s c l n).1 < us.length ∧ 0 ≤ (placedM us d s c l n).2 ∧ (placedM us d s c l n).2 ≤ n + 1 := by
  have hc1 := cnt_pos (us := us) (l := l) h0
  have hc2 := cnt_le (l := l) (n := n) g.u.lo
  have hpl : placeOf us l n < us.length := by unfold placeOf; omega
  unfold placedM
  split
  · rename_i e
    have hp1 := isCar_lt e
    obtain ⟨k1, k2, k3⟩ := steps_ok g hp1
    exact ⟨hp1, rnd_lo h0 k2⟩
  · obtain ⟨k1, k2, k3⟩ := steps_ok g hpl
    exact ⟨hpl, rnd_lo h0 k2⟩
/-- the figure of a number -/
def shown (us : List (Str × Int)) (d : Nat) (s : Str) (c : Bool) (l n : Int) : Str := writ us d (placedM us d s c l n).1 (placedM us d s c l n).2
def spShow (K : PySem.W.Frag) (C : Addr) : Sp := fun vs H Q _ => ∃ (a : Addr) (us : List (Str × Int)) (d : Nat) (s : Str) (c : Bool) (l n : Int), vs = [.ref a, .int n] ∧ LadAt K C H a us d s c l ∧ Good us d s l ∧ 0 ≤ n ∧ n ≤ 1000000000000000000 ∧
  ∀ H', Same H H' → Q (.str (shown us d s c l n)) H'
def spFig (K : PySem.W.Frag) (C : Addr) : Sp := fun vs H Q _ => ∃ (a : Addr) (us : List (Str × Int)) (d : Nat) (s : Str) (c : Bool) (l n : Int), vs = [.ref a, .int n] ∧ LadAt K C H a us d s c l ∧ Good us d s l ∧ 0 ≤ n ∧ n ≤ 1000000000000000000000000000000 ∧
  ∀ H', Same H H' → Q (.str (shown us d s c l n)) H'
section
variable {P : Program} {w : World} {K : PySem.W.Frag} {mg : Str → Option Value} {base : Heap}
theorem ok_written (d : Dd K mg "written" sWritten ["ladder", "place", "mark"]) (L : LadC K mg) (B : Bt mg) : FnOk P w K mg base CX0 2 d.f d.fd ["ladder", "place", "mark"] (spWritten K L.C) := by
  refine d.F.ok scWritten (fun vs H Q E h => ?_) (fun cdv A outer s H vs Q E hr h => ?_)
  · obtain ⟨_, _, _, _, _, _, _, _, rfl, _⟩ := h
    rfl
  · obtain ⟨a, us, dn, z, c, l, p, m, rfl, ⟨dx, ua, t, st, th, hp, ⟨ps, hua, hu⟩, ht, hs, hth⟩, g, hlt, hm, hm2, q⟩ := h
    have nd := scWritten.nd
    refine ⟨_, pss_cons (ps_set (i := 3) nd rfl (.inl rfl) (pe_ix ix_tup (pe_ix ix_tup (pe_fld (pv 0) rfl) (pv 1) (fun _ _ => rfl)) pe_int (fun _ _ => rfl)))
      (pss_cons (ps_set (i := 4) nd rfl (.inl rfl) (pe_callTy call_str_int (by rfl) B.str (by decide +kernel) (pa_cons (pv 2) pa_nil)))
      (pss_cons (ps_if (PW.pt (pw_or (pt_cmpR op_eq (pv 1) pe_int (nomark _)) (pw_or1 (pt_cmpR op_eq (pe_fld (pv 0) rfl) pe_int (nomark _))))) (pss_one (ps_ret (pe_op op_add_str (pv 4) (pv 3)))) pss_nil)
      (pss_cons (ps_set (i := 4) nd rfl (.inl rfl) (pe_bm PySem.F.plainAttrs_str PySem.F.slot_str_zfill PySem.F.type_str_zfill mt_zfill (pv 4) (pa_cons (pe_op op_add (pe_fld (pv 0) rfl) pe_int) pa_nil)))
      (pss_one (ps_ret (pe_op op_add_str (pe_op op_add_str (pe_op op_add_str (pe_slice sl_str (pv 4) po_none (po_some (pe_un un_neg (pe_fld (pv 0) rfl)))) pe_str) (pe_slice sl_str (pv 4) (po_some (pe_un un_neg (pe_fld (pv 0) rfl))) po_none)) (pv 3))))))), ?_⟩
    obtain ⟨u, hu2⟩ : ∃ u, us[p]? = some u := ⟨us[p], List.getElem?_eq_getElem hlt⟩
    obtain ⟨pu, hpu, hsu⟩ := paired_at hu hu2
    have eN : (us.getD p ("", 0)).1 = u.1 := by rw [List.getD_eq_getElem?_getD, hu2]; rfl
    have lN : u.1.length ≤ 3 := (g.u.each p u hu2).1.1
    have hm3 : m.natAbs < 10 ^ 40 := by omega
    have ld := dg_small hm3
    have hp1 := dg_pos hm
    have lds : (Str.ofString (toString m)).length = (dg m).length := str_len _
    unfold writ at q
    rw [eN] at q
    have hlog : m.natAbs.log2 < 1920 := Nat.lt_of_lt_of_le (PySem.Flt.log2_lt_of (k := 200) (by decide) (Nat.lt_trans hm3 (by decide))) (by decide)
    refine ⟨_, rfl, a, L.C, dx, _, _, rfl, hp, L.cl, L.nUnits, fl_units .., _, rfl, ua, _, p, .ref pu, rfl, rfl, hua, atI_nat (get_ref hpu), pu, _, 0, .str u.1, rfl, rfl, hsu, rfl, ?_⟩
    refine ⟨_, rfl, m, rfl, hlog, ?_⟩
    have add1 : (p = 0 ∨ dn = 0) → Q (.str (Str.ofString (toString m) ++ u.1)) H := fun e => by rw [if_pos e] at q; exact q
    refine ⟨_, rfl, rfl, _, rfl, ite2 (fun e => ?_) (fun e => ?_)⟩
    · have e0 : p = 0 := by have := V.int.inj (of_decide_eq_true e); omega
      refine iteT ?_
      exact ⟨_, rfl, _, rfl, _, _, rfl, rfl, by rw [lds]; exact small41 ld (Nat.le_trans lN (by decide)), add1 (.inl e0)⟩
    · have e0 : ¬ p = 0 := fun z => e (decide_eq_true (by rw [z]; rfl))
      refine ⟨_, rfl, a, L.C, dx, _, _, rfl, hp, L.cl, L.nDec, fl_dec .., rfl, _, rfl, ite2 (fun e1 => ?_) (fun e1 => ?_)⟩
      · have e2 : dn = 0 := by have := V.int.inj (of_decide_eq_true e1); omega
        exact ⟨_, rfl, _, rfl, _, _, rfl, rfl, by rw [lds]; exact small41 ld (Nat.le_trans lN (by decide)), add1 (.inr e2)⟩
      · have e2 : ¬ dn = 0 := fun z => e1 (decide_eq_true (by rw [z]; rfl))
        rw [if_neg (fun z => z.elim e0 e2)] at q
        have d3 := g.d3
        have ez : (Txt.zfill (Str.ofString (toString m)) ((dn : Int) + 1)).cps.toList = zf dn m := zfill_zf hm
        have lz : (Txt.zfill (Str.ofString (toString m)) ((dn : Int) + 1)).length ≤ 41 := by rw [str_len, ez, zf_len]; omega
        refine ⟨_, rfl, rfl, _, rfl, a, L.C, dx, _, _, rfl, hp, L.cl, L.nDec, fl_dec .., _, 1, rfl, rfl, _, _, rfl, rfl, pad_ok d3, ?_⟩
        generalize Txt.zfill (Str.ofString (toString m)) ((dn : Int) + 1) = zz at ez lz ⊢
        have c1 : (cutS zz none (some (-(dn : Int)))).cps.toList = (zf dn m).take ((zf dn m).length - dn) := by rw [cut_to (by omega), ez]
        have c2 : (cutS zz (some (-(dn : Int))) none).cps.toList = (zf dn m).drop ((zf dn m).length - dn) := by rw [cut_from (by omega), ez]
        have lzf : (zf dn m).length ≤ 41 := by rw [← ez, ← str_len]; exact lz
        have lc1 : (cutS zz none (some (-(dn : Int)))).length ≤ 41 := by rw [str_len, c1, List.length_take]; omega
        have lc2 : (cutS zz (some (-(dn : Int))) none).length ≤ 41 := by rw [str_len, c2, List.length_drop]; omega
        have fin : (cutS zz none (some (-(dn : Int))) ++ ("." : Str) ++ cutS zz (some (-(dn : Int))) none) = (⟨(body dn m).toArray⟩ : Str) := by
          refine str_ext ?_
          rw [str_app, str_app, c1, c2, List.append_assoc]
          rfl
        have lp : (cutS zz none (some (-(dn : Int))) ++ ("." : Str)).length ≤ 42 := by
          rw [str_len, str_app, List.length_append, ← str_len]
          exact Nat.add_le_add lc1 (Nat.le_refl 1)
        refine ⟨_, rfl, _, rfl, a, L.C, dx, _, _, rfl, hp, L.cl, L.nDec, fl_dec .., dn, rfl, -(dn : Int), rfl, zz, rfl, Nat.le_trans lz (by decide), _, ".", rfl, rfl, Nat.le_trans (Nat.add_le_add lc1 (Nat.le_refl 1)) (by decide), ?_⟩
        refine ⟨_, rfl, _, rfl, a, L.C, dx, _, _, rfl, hp, L.cl, L.nDec, fl_dec .., dn, rfl, -(dn : Int), rfl, zz, rfl, Nat.le_trans lz (by decide), _, _, rfl, rfl, Nat.le_trans (Nat.add_le_add lp lc2) (by decide), _, rfl, _, u.1, rfl, rfl, ?_, ?_⟩
        · rw [fin, str_len]
          show (body dn m).length + u.1.length ≤ sizeLine
          have lb : (body dn m).length ≤ 42 := by
            unfold body
            rw [List.length_append, List.length_take, List.length_cons, List.length_drop]
            omega
          exact Nat.le_trans (Nat.add_le_add lb lN) (by decide)
        · show Q (.str ((cutS zz none (some (-(dn : Int))) ++ ("." : Str) ++ cutS zz (some (-(dn : Int))) none) ++ u.1)) H
          rw [fin]
          exact q
theorem ok_figof (d : Dd K mg "figure_of" sFigOf ["ladder", "number"]) (dP : Dd K mg "placed" sPlaced ["ladder", "number"])
    (dR : Dd K mg "rounded" sRounded ["number", "step", "rounding"]) (dG : Dd K mg "goes_up" sGoes ["below", "rest", "step", "rounding"]) (dC : Dd K mg "is_carried" sCar ["ladder", "place", "mark"]) (dT : Dd K mg "written" sWritten ["ladder", "place", "mark"])
    (L : LadC K mg) (B : Bt mg) : FnOk P w K mg base CX0 5 d.f d.fd ["ladder", "number"] (spFig K L.C) := by
  have GP : FnOk P w K mg base CX0 4 dP.f dP.fd ["ladder", "number"] (spPlaced K L.C) := ok_placed dP dR dG dC L B
  have GT : FnOk P w K mg base CX0 2 dT.f dT.fd ["ladder", "place", "mark"] (spWritten K L.C) := ok_written dT L B
  refine d.F.ok scFigOf (fun vs H Q E h => ?_) (fun cdv A outer s H vs Q E hr h => ?_)
  · obtain ⟨_, _, _, _, _, _, _, rfl, _⟩ := h
    rfl
  · obtain ⟨a, us, dn, z, c, l, n, rfl, hL, g, h0, h1, q⟩ := h
    have hr1 : Room 2 _ := hr.mono (by decide)
    have nd := scFigOf.nd
    refine ⟨_, pss_cons (ps_asg (pe_call GP hr (by rfl) dP.g dP.F.kp dP.b .nil pass0 (pa_cons (pv 0) (pa_cons (pv 1) pa_nil))) (pg_tup rfl (pgs_cons (pg_name (i := 2) nd rfl (.inl rfl)) (pgs_cons (pg_name (i := 3) nd rfl (.inl rfl)) pgs_nil))))
      (pss_one (ps_ret (pe_call GT hr1 (by rfl) dT.g dT.F.kp dT.b .nil pass0 (pa_cons (pv 0) (pa_cons (pv 2) (pa_cons (pv 3) pa_nil)))))), ?_⟩
    obtain ⟨k1, k2, k3⟩ := placedM_ok (c := c) g h0
    refine ⟨_, rfl, _, rfl, a, us, dn, z, c, l, n, rfl, hL, g, h0, fun r H1 s1 hr' => ?_⟩
    refine ⟨r, _, rfl, hr', rfl, _, _, rfl, _, _, rfl, rfl, ?_⟩
    exact ⟨_, rfl, _, rfl, _, rfl, a, us, dn, z, c, l, _, _, rfl, hL.same s1, g, k1, k2, by omega, q H1 s1⟩
end
end My

namespace My
open PySem PySem.Spec PyProof.Rows L2
def nms : List Str := ["", "K", "M", "g", "Tx", "abc"]
def nm6 (j : Nat) : Str := nms.getD (j % 6) ""
theorem nm6_good (j : Nat) : GoodN (nm6 j) := by
  have h : ∀ k, k < 6 → GoodN (nms.getD k "") := by
    intro k hk
    match k, hk with
    | 0, _ => exact ⟨by decide +kernel, by decide +kernel, by decide +kernel, by decide +kernel⟩
    | 1, _ => exact ⟨by decide +kernel, by decide +kernel, by decide +kernel, by decide +kernel⟩
    | 2, _ => exact ⟨by decide +kernel, by decide +kernel, by decide +kernel, by decide +kernel⟩
    | 3, _ => exact ⟨by decide +kernel, by decide +kernel, by decide +kernel, by decide +kernel⟩
    | 4, _ => exact ⟨by decide +kernel, by decide +kernel, by decide +kernel, by decide +kernel⟩
    | 5, _ => exact ⟨by decide +kernel, by decide +kernel, by decide +kernel, by decide +kernel⟩
    | n + 6, h => omega
  exact h _ (Nat.mod_lt _ (by decide))
theorem nms_inj : ∀ x, x < 6 → ∀ y, y < 6 → nms.getD x "" = nms.getD y "" → x = y := by decide +kernel
theorem nm6_inj {a b : Nat} (h : nm6 a = nm6 b) : a % 6 = b % 6 := nms_inj _ (Nat.mod_lt _ (by decide)) _ (Nat.mod_lt _ (by decide)) h
/-- good units, or none -/
structure GU (us : List (Str × Int)) : Prop where
  hi : us.length ≤ 6
  each : ∀ i u, us[i]? = some u → GoodN u.1 ∧ 1 ≤ u.2 ∧ u.2 ≤ 1000000000000000000 ∧ Fit (us.take i) u
theorem GU.good {us : List (Str × Int)} (g : GU us) (h : 1 ≤ us.length) : GoodUs us := ⟨h, g.hi, g.each⟩
theorem GU.nil : GU [] := ⟨by decide, fun i u h => by simp at h⟩
theorem GU.snoc {us : List (Str × Int)} {u : Str × Int} (g : GU us) (hl : us.length < 6) (h1 : GoodN u.1) (h2 : 1 ≤ u.2) (h3 : u.2 ≤ 1000000000000000000) (h4 : Fit us u) : GU (us ++ [u]) := by
  refine ⟨by rw [List.length_append]; show us.length + 1 ≤ 6; omega, fun i v hv => ?_⟩
  rcases Nat.lt_or_ge i us.length with hi | hi
  · rw [List.getElem?_append_left hi] at hv
    rw [List.take_append_of_le_length (Nat.le_of_lt hi)]
    exact g.each i v hv
  · rw [List.getElem?_append_right hi] at hv
    have e : i - us.length = 0 := by
      have := (List.getElem?_eq_some_iff.mp hv).1
      simp at this
      omega
    rw [e] at hv
    have ev : u = v := Option.some.inj hv
    subst ev
    have ei : i = us.length := by omega
    subst ei
    rw [List.take_left]
    exact ⟨h1, h2, h3, h4⟩
theorem GU.take {us : List (Str × Int)} (g : GU us) (k : Nat) : GU (us.take k) := by
  refine ⟨Nat.le_trans (by rw [List.length_take]; omega) g.hi, fun i u hu => ?_⟩
  rw [List.getElem?_take] at hu
  split at hu
  · rename_i hik
    rw [List.take_take, Nat.min_eq_left (Nat.le_of_lt hik)]
    exact g.each i u hu
  · cases hu
/-- what the next size may be -/
def Next (us : List (Str × Int)) (z : Int) : Prop := (us = [] ∧ z = 1) ∨ ∃ l, us[us.length - 1]? = some l ∧ us ≠ [] ∧ 0 < l.2 ∧ l.2 < z ∧ z % l.2 = 0 ∧ z % 2 = 0 ∧ z ≤ 120000 * 21 ^ (us.length - 1)
theorem pow21 {n : Nat} (h : n ≤ 5) : (120000 * 21 ^ n : Int) ≤ 490092120000 := by
  match n, h with
  | 0, _ => decide
  | 1, _ => decide
  | 2, _ => decide
  | 3, _ => decide
  | 4, _ => decide
  | 5, _ => decide
  | n + 6, h => omega
theorem Next.fit {us : List (Str × Int)} {z : Int} {n : Str} (h : Next us z) (hn : ∀ v ∈ us, v.1 ≠ n) : Fit us (n, z) := by
  rcases h with ⟨h1, h2⟩ | ⟨l, h1, h2, h3, h4, h5, _⟩
  · exact .inl ⟨h1, h2⟩
  · exact .inr ⟨l, h1, h2, h3, h4, h5, hn⟩
theorem Next.size {us : List (Str × Int)} {z : Int} (h : Next us z) (hl : us.length ≤ 6) : 1 ≤ z ∧ z ≤ 490092120000 := by
  rcases h with ⟨h1, h2⟩ | ⟨l, h1, h2, h3, h4, h5, _, h6⟩
  · omega
  · have := pow21 (n := us.length - 1) (by omega)
    omega
theorem last_snoc {us : List (Str × Int)} {u : Str × Int} : (us ++ [u])[(us ++ [u]).length - 1]? = some u := by
  rw [List.length_append]
  show (us ++ [u])[us.length + 1 - 1]? = _
  rw [Nat.add_sub_cancel, List.getElem?_append_right (Nat.le_refl _), Nat.sub_self]
  rfl
theorem Next.first {part r : Int} {n : Str} (hp : 2 ≤ part) (hp2 : part ≤ 2000) (he : part % 2 = 0) (h0 : 0 ≤ r) (h1 : r < 60) : Next [(n, 1)] (part * (1 + r)) := by
  have a1 : part * 1 ≤ part * (1 + r) := Int.mul_le_mul_of_nonneg_left (by omega) (by omega)
  have a2 : part * (1 + r) ≤ 2000 * (1 + r) := Int.mul_le_mul_of_nonneg_right hp2 (by omega)
  refine .inr ⟨(n, 1), rfl, by simp, (by show (0 : Int) < 1; decide), ?_, Int.emod_one _, ?_, ?_⟩
  · show (1 : Int) < part * (1 + r)
    omega
  · rw [Int.mul_emod, he, Int.zero_mul]
    rfl
  · show part * (1 + r) ≤ 120000 * 21 ^ 0
    omega
theorem Next.more {us : List (Str × Int)} {z r : Int} {n : Str} (h : Next us z) (hne : us ≠ []) (h0 : 0 ≤ r) (h1 : r < 20) : Next (us ++ [(n, z)]) (z * (2 + r)) := by
  rcases h with ⟨h2, _⟩ | ⟨l, _, _, h3, h4, h5, h6, h7⟩
  · exact absurd h2 hne
  · have hz : 0 < z := by omega
    have a1 : z * 2 ≤ z * (2 + r) := Int.mul_le_mul_of_nonneg_left (by omega) (by omega)
    have a2 : z * (2 + r) ≤ z * 21 := Int.mul_le_mul_of_nonneg_left (by omega) (by omega)
    refine .inr ⟨(n, z), last_snoc, by simp, hz, ?_, Int.mul_emod_right _ _, ?_, ?_⟩
    · show z < z * (2 + r)
      omega
    · rw [Int.mul_emod, h6, Int.zero_mul]
      rfl
    · have hl : 1 ≤ us.length := List.length_pos_iff.mpr hne
      have e : (us ++ [(n, z)]).length - 1 = (us.length - 1) + 1 := by rw [List.length_append]; show us.length + 1 - 1 = _; omega
      rw [e, Int.pow_succ]
      have a3 : z * 21 ≤ (120000 * 21 ^ (us.length - 1)) * 21 := Int.mul_le_mul_of_nonneg_right h7 (by decide)
      rw [Int.mul_assoc] at a3
      omega
/-- thousands -/
def thou : List (Str × Int) := [("", 1), ("K", 1000), ("M", 1000000), ("G", 1000000000), ("T", 1000000000000)]
theorem gn_of {z : Str} (h1 : z.length ≤ 3) (h2 : Txt.stripChars z letters = "" ∧ PyData.strOk z = true ∧ z.cps.toList.all (letters.cps.contains ·) = true) : GoodN z := ⟨h1, h2⟩
theorem thou_gu : GU thou := by
  have g1 : GU [("", 1)] := GU.nil.snoc (u := ("", 1)) (by decide) (gn_of (by decide +kernel) (by decide +kernel)) (by decide) (by decide) (.inl ⟨rfl, rfl⟩)
  have g2 : GU [("", 1), ("K", 1000)] := g1.snoc (u := ("K", 1000)) (by decide) (gn_of (by decide +kernel) (by decide +kernel)) (by decide) (by decide) (.inr ⟨("", 1), rfl, by simp, by decide, by decide, by decide, by decide +kernel⟩)
  have g3 : GU [("", 1), ("K", 1000), ("M", 1000000)] := g2.snoc (u := ("M", 1000000)) (by decide) (gn_of (by decide +kernel) (by decide +kernel)) (by decide) (by decide) (.inr ⟨("K", 1000), rfl, by simp, by decide, by decide, by decide, by decide +kernel⟩)
  have g4 : GU [("", 1), ("K", 1000), ("M", 1000000), ("G", 1000000000)] := g3.snoc (u := ("G", 1000000000)) (by decide) (gn_of (by decide +kernel) (by decide +kernel)) (by decide) (by decide) (.inr ⟨("M", 1000000), rfl, by simp, by decide, by decide, by decide, by decide +kernel⟩)
  exact g4.snoc (u := ("T", 1000000000000)) (by decide) (gn_of (by decide +kernel) (by decide +kernel)) (by decide) (by decide) (.inr ⟨("G", 1000000000), rfl, by simp, by decide, by decide, by decide, by decide +kernel⟩)
theorem thou_even (k : Nat) : ∀ u ∈ (thou.take k).drop 1, u.2 % 2 = 0 := by
  intro u hu
  have h1 : u ∈ thou.drop 1 := by
    rw [List.drop_take] at hu
    exact List.mem_of_mem_take hu
  unfold thou at h1
  simp only [List.drop_succ_cons, List.drop_zero, List.mem_cons, List.not_mem_nil, or_false] at h1
  rcases h1 with rfl | rfl | rfl | rfl <;> decide
def nms8 : List Str := ["", "K", "M", "g", "Tx", "abc", "G", "T"]
/-- no name is "one" (each is one of a few), and no size is great -/
def NoOne (us : List (Str × Int)) : Prop := ∀ u ∈ us, (u.1 ≠ "one" ∧ u.1 ∈ nms8) ∧ u.2 ≤ 1000000000000
theorem nm6_noone (j : Nat) : nm6 j ≠ "one" ∧ nm6 j ∈ nms8 := by
  have h : ∀ k, k < 6 → nms.getD k "" ≠ "one" ∧ nms.getD k "" ∈ nms8 := by decide +kernel
  exact h _ (Nat.mod_lt _ (by decide))
theorem thou_noone : NoOne thou := by
  intro u hu
  unfold thou at hu
  simp only [List.mem_cons, List.not_mem_nil, or_false] at hu
  rcases hu with rfl | rfl | rfl | rfl | rfl <;> decide +kernel
theorem thou_noone' (k : Nat) : NoOne (thou.take k) := fun u hu => thou_noone u (List.mem_of_mem_take hu)
end My

namespace My
open PySem PySem.Spec PyProof.Rows L2
abbrev sUnits : Stmt := top 101
abbrev nUnits : List Str := ["_law_spring_here", "_law_part", "_law_small", "_law_names", "_law_found", "_law_size_here", "_law_shift", "_law_k", "_law_first", "_law_unit"]
theorem scUnits : FnScope nUnits ["_law_spring_here", "_law_part", "_law_small"] (defScope sUnits) := ⟨rfl, rfl, rfl, by decide +kernel, rfl, by decide +kernel, by decide +kernel⟩
def spUnits (K : PySem.W.Frag) : Sp := fun vs H Q _ => ∃ (a : Addr) (part : Int) (small : Bool), vs = [.ref a, .int part, .bl small] ∧ Spr H a ∧ 2 ≤ part ∧ part ≤ 2000 ∧ part % 2 = 0 ∧
  ∀ (r : Addr) (us : List (Str × Int)) (H' : Hp), But a H H' → Spr H' a → UA K H' r us → GoodUs us → (∀ u ∈ us.drop 1, u.2 % 2 = 0) → NoOne us → Q (.ref r) H'
theorem Spr.nt {H : Hp} {a : Addr} (h : Spr H a) : ∃ o, H a = some o ∧ notTup o = true := by
  obtain ⟨x, y, z, e⟩ := h
  exact ⟨_, e, rfl⟩
theorem But.sqtS {K : PySem.W.Frag} {a t : Addr} {xs : List V} {H H' : Hp} (hp : Spr H a) (b : But a H H') (h : SqT K H t xs) : SqT K H' t xs := by
  obtain ⟨o, e, n⟩ := hp.nt
  exact b.sqt e n h
theorem UA.butS {K : PySem.W.Frag} {a t : Addr} {us : List (Str × Int)} {H H' : Hp} (hp : Spr H a) (b : But a H H') (h : UA K H t us) : UA K H' t us := by
  obtain ⟨o, e, n⟩ := hp.nt
  exact h.but e n b
theorem UP.butS {K : PySem.W.Frag} {a : Addr} {ps : List Addr} {us : List (Str × Int)} {H H' : Hp} (hp : Spr H a) (b : But a H H') (h : UP K H ps us) : UP K H' ps us := paired_imp (fun _ _ => b.sqtS hp) h
theorem PE.imp {X : Cx} {e : Expr} {t t' : TE} (h : PE X e t) (i : ∀ σ H Q, t' σ H Q → t σ H Q) : PE X e t' := ⟨fun pins s σ H Q I q => h.1 pins s σ H Q I (i σ H Q q)⟩
/-- x if c else y, two written numbers: one of them -/
def tEither (ta : TE) (x y : Int) : TE := fun σ H Q => ta σ H fun v H1 => (∃ b, v = .bl b) ∧ ∀ m, m = x ∨ m = y → Q (.int m) H1
def mono (t : TE) : Prop := ∀ σ H (Q Q' : VK), (∀ v H1, Q v H1 → Q' v H1) → t σ H Q → t σ H Q'
theorem mono_var (i : Nat) : mono (tVar i) := fun σ H Q Q' h ⟨v, e, q⟩ => ⟨v, e, h _ _ q⟩
theorem pe_either {X : Cx} {c : Expr} {ta : TE} {x y : Int} {j1 j2 : Nat} {p1 p2 pos : Pos} (hc : PT X c (tB ta)) (m : mono ta) : PE X (.IfExp c (.Constant (.int x) j1 p1) (.Constant (.int y) j2 p2) pos) (tEither ta x y) := by
  refine PE.imp (pe_ifExp hc pe_int pe_int) fun σ H Q h => ?_
  refine m σ H _ _ (fun v H1 h1 => ?_) h
  obtain ⟨⟨b, rfl⟩, h2⟩ := h1
  refine ⟨b, rfl, ?_⟩
  cases b with
  | true => exact h2 x (.inl rfl)
  | false => exact h2 y (.inr rfl)
section
variable {P : Program} {w : World} {K : PySem.W.Frag} {mg : Str → Option Value} {base : Heap}
theorem ok_units (d : Dd K mg "_law_units" sUnits ["_law_spring_here", "_law_part", "_law_small"]) (dG : Dd K mg "_law_gulp" sGulp ["_law_spring_here", "_law_many"]) (B : Bt mg) : FnOk P w K mg base CX0 3 d.f d.fd ["_law_spring_here", "_law_part", "_law_small"] (spUnits K) := by
  have G : FnOk P w K mg base CX0 2 dG.f dG.fd ["_law_spring_here", "_law_many"] spGulp := ok_gulp dG.F B
  refine d.F.ok scUnits (fun vs H Q E h => ?_) (fun cdv A outer s H vs Q E hr h => ?_)
  · obtain ⟨_, _, _, rfl, _⟩ := h
    rfl
  · obtain ⟨a, part, small, rfl, hS, hp1, hp2, hp3, q⟩ := h
    have nd := scUnits.nd
    refine ⟨_, Evl.pss_cut (ps_if (PW.pt (pw_and (pt_not (pt_val (pv 2))) (pw_and1 (pt_cmpR op_eq (pe_call G hr (by rfl) dG.g dG.F.kp dG.b .nil pass0 (pa_cons (pv 0) (pa_cons pe_int pa_nil))) pe_int (nomark _)))))
        (pss_one (ps_ret (pe_slice sl_tupA (pe_tup (pa_cons (pe_tup (pa_cons pe_str (pa_cons pe_int pa_nil))) (pa_cons (pe_tup (pa_cons pe_str (pa_cons pe_int pa_nil))) (pa_cons (pe_tup (pa_cons pe_str (pa_cons (pe_op op_pow pe_int pe_int) pa_nil)))
          (pa_cons (pe_tup (pa_cons pe_str (pa_cons (pe_op op_pow pe_int pe_int) pa_nil))) (pa_cons (pe_tup (pa_cons pe_str (pa_cons (pe_op op_pow pe_int pe_int) pa_nil))) pa_nil))))))
          po_none (po_some (pe_op op_add pe_int (pe_call G hr (by rfl) dG.g dG.F.kp dG.b .nil pass0 (pa_cons (pv 0) (pa_cons pe_int pa_nil)))))))) pss_nil)
      (pss_cons (ps_par3 (i := 3) (j := 4) (l := 5) rfl nd rfl rfl rfl (by decide) (by decide) (by decide) rfl rfl rfl
          (pa_cons (pe_lst (pa_cons pe_str (pa_cons pe_str (pa_cons pe_str (pa_cons pe_str (pa_cons pe_str (pa_cons pe_str pa_nil))))))) (pa_cons (pe_lst pa_nil) (pa_cons pe_int pa_nil))) rfl)
      (pss_cons (ps_set (i := 6) nd rfl (.inl rfl) (pe_call G hr (by rfl) dG.g dG.F.kp dG.b .nil pass0 (pa_cons (pv 0) (pa_cons pe_int pa_nil))))
      (pss_cons (ps_for PassesOwn.never rfl (pi_range1 rfl B.range (pa_cons (pe_op op_add pe_int (pe_call G hr (by rfl) dG.g dG.F.kp dG.b .nil pass0 (pa_cons (pv 0) (pa_cons (pe_either (pt_val (pv 2)) (mono_var 2)) pa_nil)))) pa_nil)) (pg_name (i := 7) nd rfl (.inl rfl))
          (pss_cons (ps_expr (pe_bm PySem.F.plainAttrs_list PySem.F.slot_list_append PySem.F.type_list_append mt_append (pv 4) (pa_cons (pe_tup (pa_cons (pe_ix ix_list (pv 3) (pe_op op_mod (pe_callTy call_int1 (by rfl) B.int (by decide +kernel) (pa_cons (pe_op op_add (pv 7) (pv 6)) pa_nil)) pe_int) (fun _ _ => rfl)) (pa_cons (pv 5) pa_nil))) pa_nil)))
          (pss_cons (ps_set (i := 8) nd rfl (.inl rfl) (pe_op op_mul (pv 1) (pe_op op_add pe_int (pe_call G hr (by rfl) dG.g dG.F.kp dG.b .nil pass0 (pa_cons (pv 0) (pa_cons (pe_either (pt_val (pv 2)) (mono_var 2)) pa_nil))))))
          (pss_one (ps_set (i := 5) nd rfl (.inl rfl) (pe_ifExp (pt_cmpR op_eq (pv 7) pe_int (nomark _)) (pv 8) (pe_op op_mul (pv 5) (pe_op op_add pe_int (pe_call G hr (by rfl) dG.g dG.F.kp dG.b .nil pass0 (pa_cons (pv 0) (pa_cons (pe_either (pt_val (pv 2)) (mono_var 2)) pa_nil)))))))))))
      (pss_one (ps_ret (pe_tupleOf (by rfl) B.tuple
        (pe_lc (own := [("_law_unit", 9)]) (g := gName 9) rfl nd (pi_list (pv 4)) (blkOk_by (own := [("_law_unit", 9)]) (N := nUnits) (sc := defScope sUnits) (by decide +kernel)) (fun _ _ _ _ _ => pg_name (i := 9) nd rfl (Or.inl rfl))
          (fun _ _ _ _ _ => pts_one (pt_cmpR op_le (pe_ix (r := rIxT K) ix_tup (pv 9) pe_int (fun _ _ => rfl)) (pe_op op_pow pe_int pe_int) (nomark _))) (fun _ _ _ _ _ => pv 9)))))))), ?_⟩
    refine ⟨fun σ' H' => σ' = L2.start nUnits [.ref a, .int part, .bl small] ∧ But a H H' ∧ Spr H' a, ?_, ?_⟩
    · refine ⟨_, rfl, small, rfl, ?_⟩
      cases small with
      | true => exact iteF ⟨rfl, But.refl _ _, hS⟩
      | false =>
        refine iteT ?_
        refine ⟨_, rfl, a, 2, rfl, hS, by decide, by decide, fun r H1 h0 h1 s1 b1 => ⟨rfl, _, rfl, ite2 (fun _ => ?_) (fun _ => ⟨rfl, b1, s1⟩)⟩⟩
        refine ⟨(by show 2 ≤ sizeLine; decide), fun p1 n1 => ⟨(by show 2 ≤ sizeLine; decide), fun p2 n2 => ⟨10, 6, rfl, rfl, ⟨by decide, by decide, by decide⟩, (by show 2 ≤ sizeLine; decide), fun p3 n3 => ⟨10, 9, rfl, rfl, ⟨by decide, by decide, by decide⟩, (by show 2 ≤ sizeLine; decide), fun p4 n4 =>
          ⟨10, 12, rfl, rfl, ⟨by decide, by decide, by decide⟩, (by show 2 ≤ sizeLine; decide), fun p5 n5 => ⟨(by show 5 ≤ sizeLine; decide), fun p0 n0 => ?_⟩⟩⟩⟩⟩⟩
        have m1 := same_upd n1 (o := .tup [.str "", .int 1])
        have m2 := same_upd n2 (o := .tup [.str "K", .int 1000])
        have m3 := same_upd n3 (o := .tup [.str "M", .int 1000000])
        have m4 := same_upd n4 (o := .tup [.str "G", .int 1000000000])
        have m5 := same_upd n5 (o := .tup [.str "T", .int 1000000000000])
        have m0 := same_upd n0 (o := .tup [.ref p1, .ref p2, .ref p3, .ref p4, .ref p5])
        have m50 := m5.trans m0
        have m40 := m4.trans m50
        have m30 := m3.trans m40
        have m20 := m2.trans m30
        have m10 := m1.trans m20
        have hU : UP K _ [p1, p2, p3, p4, p5] thou := .cons (SqT.of (m20 _ _ upd_same)) (.cons (SqT.of (m30 _ _ upd_same)) (.cons (SqT.of (m40 _ _ upd_same)) (.cons (SqT.of (m50 _ _ upd_same)) (.cons (SqT.of (m0 _ _ upd_same)) .nil))))
        have h0' : SqT K _ p0 ([p1, p2, p3, p4, p5].map V.ref) := SqT.of (upd_same (H := upd (upd (upd (upd (upd H1 p1 (.tup [.str "", .int 1])) p2 (.tup [.str "K", .int 1000])) p3 (.tup [.str "M", .int 1000000])) p4 (.tup [.str "G", .int 1000000000])) p5 (.tup [.str "T", .int 1000000000000])))
        have sf := s1.same m10
        refine ⟨_, rfl, a, 5, rfl, sf, by decide, by decide, fun r2 H2 k0 k1 s2 b2 => ⟨1, r2, rfl, rfl, _, rfl, ?_⟩⟩
        have bb := (b1.trans (Same.but m10)).trans b2
        have hU2 := UP.butS sf b2 hU
        have h02 := b2.sqtS sf h0'
        refine ⟨p0, _, rfl, h02, fun _ => ?_, fun _ c nc => ?_⟩
        · exact q p0 thou H2 bb s2 ⟨_, h02, hU2⟩ (thou_gu.good (by decide)) (thou_even 5) thou_noone
        · obtain ⟨k, rfl⟩ : ∃ k : Nat, r2 = (k : Int) := ⟨r2.toNat, by omega⟩
          have sc := same_upd nc (o := .tup (cutV ([p1, p2, p3, p4, p5].map V.ref) none (some (1 + (k : Int)))))
          refine q c (thou.take (k + 1)) _ (bb.trans (Same.but sc)) (s2.same sc) ⟨[p1, p2, p3, p4, p5].take (k + 1), ?_, paired_take (k + 1) (paired_imp (fun _ _ => same_sqt sc) hU2)⟩ ((thou_gu.take (k + 1)).good (by rw [List.length_take]; show 1 ≤ min (k + 1) 5; omega)) (thou_even (k + 1)) (thou_noone' (k + 1))
          rw [List.map_take, ← cut_take (k + 1) (by show k + 1 ≤ 5; omega)]
          have e : (1 + (k : Int)) = ((k + 1 : Nat) : Int) := by omega
          rw [← e]
          exact SqT.of upd_same
    · rintro σ' H1 ⟨rfl, b1, s1⟩
      -- names, found, size
      refine ⟨(by show 6 ≤ sizeLine; decide), fun nl nnl => ⟨Nat.zero_le _, fun f nf => ⟨_, _, _, rfl, ?_⟩⟩⟩
      have t1 := same_upd nnl (o := .lst [.str "", .str "K", .str "M", .str "g", .str "Tx", .str "abc"])
      have t2 := same_upd nf (o := .lst [])
      have t12 := t1.trans t2
      have nla : nl ≠ a := by
        obtain ⟨x, y, z, e⟩ := s1
        exact (ne_of_none e nnl).symm
      have nfa : f ≠ a := by
        obtain ⟨x, y, z, e⟩ := s1.same t1
        exact (ne_of_none e nf).symm
      have nfl : nl ≠ f := ne_of_none upd_same nf
      refine ⟨_, rfl, a, 6, rfl, s1.same t12, by decide, by decide, fun sh H2 sh0 sh1 s2 b2 => ?_⟩
      obtain ⟨sn, rfl⟩ : ∃ k : Nat, sh = (k : Int) := ⟨sh.toNat, by omega⟩
      have hnl2 : H2 nl = some (.lst (nms.map V.str)) := b2 _ _ (t2 _ _ upd_same) nla
      have hf2 : H2 f = some (.lst []) := b2 _ _ upd_same nfa
      have b12 : But a H H2 := (b1.trans (Same.but t12)).trans b2
      have hnotf : ∀ b o, H b = some o → b ≠ a → b ≠ f ∧ b ≠ nl := fun b o e n => ⟨ne_of_none (t1 _ _ (b1 _ _ e n)) nf, ne_of_none (b1 _ _ e n) nnl⟩
      refine ⟨_, rfl, _, rfl, ⟨small, rfl⟩, fun m hm => ?_⟩
      refine ⟨a, m, rfl, s2, by omega, by omega, fun r H3 r0 r1 s3 b3 => ?_⟩
      obtain ⟨rn, rfl⟩ : ∃ k : Nat, r = (k : Int) := ⟨r.toNat, by omega⟩
      have hrn : rn < 6 := by omega
      refine ⟨1, (rn : Int), rfl, rfl, _, rfl, by omega, by omega, ?_⟩
      rw [show ((1 : Int) + (rn : Int)).toNat = rn + 1 by omega]
      refine for_range (lo := 0) (n := rn + 1) (fun i σ H' => ∃ (us : List (Str × Int)) (ps : List Addr) (sz : Int) (v7 v8 : Option V), σ = [some (.ref a), some (.int part), some (.bl small), some (.ref nl), some (.ref f), some (.int sz), some (.int (sn : Int)), v7, v8, none] ∧
          But a H H' ∧ Spr H' a ∧ H' nl = some (.lst (nms.map V.str)) ∧ H' f = some (.lst (ps.map V.ref)) ∧ UP K H' ps us ∧ us.length = i ∧ GU us ∧ Next us sz ∧ (∀ u ∈ us.drop 1, u.2 % 2 = 0) ∧ ∀ v ∈ us, ∃ j, j < i ∧ v.1 = nm6 (j + sn) ∧ v.2 ≤ 1000000000000) ?_ ?_ ?_
      · exact ⟨[], [], 1, none, none, rfl, b12.trans b3, s3, b3 _ _ hnl2 nla, b3 _ _ hf2 nfa, .nil, rfl, GU.nil, .inl ⟨rfl, rfl⟩, (fun u hu => by simp at hu), (fun v hv => by simp at hv)⟩
      · rintro i σ H4 hi ⟨us, ps, sz, v7, v8, rfl, b4, s4, hnl, hf, hU, hlen, gu, nx, ev, hnm⟩
        have el := UP.len hU
        -- found.append((names[..], size))
        have hat : atI (nms.map V.str) (((0 : Int) + (i : Int) + (sn : Int)) % 6) = some (.str (nm6 (i + sn))) := by
          have e1 : ((0 : Int) + (i : Int) + (sn : Int)) % 6 = (((i + sn) % 6 : Nat) : Int) := by omega
          rw [e1]
          refine atI_nat ?_
          have h6 : (i + sn) % 6 < nms.length := Nat.mod_lt _ (by decide)
          rw [List.getElem?_map, List.getElem?_eq_getElem h6]
          unfold nm6
          rw [List.getD_eq_getElem?_getD, List.getElem?_eq_getElem h6]
          rfl
        refine ⟨_, rfl, .inl ⟨rfl, _, SqL.of hf⟩, _, rfl, _, rfl, _, rfl, _, _, rfl, rfl, .inl ⟨_, rfl, _, 6, rfl, rfl, (by show (0 : Int) < 6; decide), nl, _, _, .str (nm6 (i + sn)), rfl, rfl, SqL.of hnl, hat, _, rfl, (by show 2 ≤ sizeLine; decide), fun t nt => ?_⟩⟩
        have st := same_upd nt (o := .tup [.str (nm6 (i + sn)), .int sz])
        have nft : f ≠ t := ne_of_none hf nt
        have nat' : t ≠ a := by
          obtain ⟨x, y, z, e⟩ := s4
          exact (ne_of_none e nt).symm
        refine ⟨f, _, _, rfl, rfl, st _ _ hf, ?_, ?_⟩
        · rw [List.length_map, el, hlen]
          exact Nat.lt_of_lt_of_le (show i < 7 by omega) (by decide)
        have hU5 : UP K (upd (upd H4 t (.tup [.str (nm6 (i + sn)), .int sz])) f (.lst (ps.map V.ref ++ [.ref t]))) (ps ++ [t]) (us ++ [(nm6 (i + sn), sz)]) := by
          have hf' := st _ _ hf
          refine PySem.Paired.snoc (paired_imp (fun _ _ => (But.upd f _ _).sqt hf' rfl) (paired_imp (fun _ _ => same_sqt st) hU)) ?_
          exact (But.upd f _ _).sqt hf' rfl (SqT.of upd_same)
        have b5 : But a H (upd (upd H4 t (.tup [.str (nm6 (i + sn)), .int sz])) f (.lst (ps.map V.ref ++ [.ref t]))) := fun b o e n => by
          rw [upd_ne (hnotf b o e n).1]
          exact st _ _ (b4 b o e n)
        have s5 : Spr (upd (upd H4 t (.tup [.str (nm6 (i + sn)), .int sz])) f (.lst (ps.map V.ref ++ [.ref t]))) a := by
          obtain ⟨x, y, z, e⟩ := s4.same st
          exact ⟨x, y, z, by rw [upd_ne nfa.symm]; exact e⟩
        have hnl5 : (upd (upd H4 t (.tup [.str (nm6 (i + sn)), .int sz])) f (.lst (ps.map V.ref ++ [.ref t]))) nl = some (.lst (nms.map V.str)) := by
          rw [upd_ne nfl]
          exact st _ _ hnl
        have hf5 : (upd (upd H4 t (.tup [.str (nm6 (i + sn)), .int sz])) f (.lst (ps.map V.ref ++ [.ref t]))) f = some (.lst ((ps ++ [t]).map V.ref)) := by
          rw [upd_same, List.map_append]
          rfl
        have zb := nx.size gu.hi
        have hnew : ∀ v ∈ us, v.1 ≠ nm6 (i + sn) := fun v hv e => by
          obtain ⟨j, hj, ej, _⟩ := hnm v hv
          have := nm6_inj (ej.symm.trans e)
          omega
        have gu' : GU (us ++ [(nm6 (i + sn), sz)]) := gu.snoc (u := (nm6 (i + sn), sz)) (by omega) (nm6_good _) zb.1 (by show sz ≤ 1000000000000000000; omega) (nx.fit hnew)
        have ev' : ∀ u ∈ (us ++ [(nm6 (i + sn), sz)]).drop 1, u.2 % 2 = 0 := fun u hu => by
          cases us with
          | nil => simp at hu
          | cons u0 r0 =>
            rw [List.cons_append, List.drop_succ_cons, List.drop_zero] at hu
            rcases List.mem_append.mp hu with z | z
            · exact ev u (by rw [List.drop_succ_cons, List.drop_zero]; exact z)
            · have e : u = (nm6 (i + sn), sz) := by simpa using z
              subst e
              rcases nx with ⟨h1, _⟩ | ⟨l, _, _, _, _, _, h6, _⟩
              · exact absurd h1 (by simp)
              · exact h6
        have hnm' : ∀ v ∈ us ++ [(nm6 (i + sn), sz)], ∃ j, j < i + 1 ∧ v.1 = nm6 (j + sn) ∧ v.2 ≤ 1000000000000 := fun v hv => by
          rcases List.mem_append.mp hv with z | z
          · obtain ⟨j, h1, h2⟩ := hnm v z
            exact ⟨j, by omega, h2⟩
          · have e : v = (nm6 (i + sn), sz) := by simpa using z
            subst e
            exact ⟨i, by omega, rfl, by show sz ≤ _; omega⟩
        have hlen' : (us ++ [(nm6 (i + sn), sz)]).length = i + 1 := by rw [List.length_append, hlen]; rfl
        generalize upd (upd H4 t (.tup [.str (nm6 (i + sn)), .int sz])) f (.lst (ps.map V.ref ++ [.ref t])) = H5 at hU5 b5 s5 hnl5 hf5
        -- first = part * (1 + ..)
        refine ⟨_, rfl, _, rfl, _, rfl, ⟨small, rfl⟩, fun m1 hm1 => ⟨a, m1, rfl, s5, by omega, by omega, fun q1 H6 q10 q11 s6 b6 => ⟨1, q1, rfl, rfl, part, _, rfl, rfl, .inl ⟨by omega, by omega⟩, ?_⟩⟩⟩
        have hU6 := UP.butS s5 b6 hU5
        have b06 := b5.trans b6
        have hnl6 := b6 _ _ hnl5 nla
        have hf6 := b6 _ _ hf5 nfa
        refine ⟨_, rfl, rfl, _, rfl, ite2 (fun e => ?_) (fun e => ?_)⟩
        · have i0 : i = 0 := by have := V.int.inj (of_decide_eq_true e); omega
          have u0 : us = [] := List.length_eq_zero_iff.mp (by omega)
          have nx' : Next (us ++ [(nm6 (i + sn), sz)]) (part * (1 + q1)) := by
            rcases nx with ⟨_, h2⟩ | ⟨_, _, h2, _⟩
            · subst u0
              subst h2
              exact Next.first hp1 hp2 hp3 q10 (by omega)
            · exact absurd u0 h2
          exact ⟨_, rfl, _, ps ++ [t], _, _, _, rfl, b06, s6, hnl6, hf6, hU6, hlen', gu', nx', ev', hnm'⟩
        · have i0 : i ≠ 0 := fun z => e (decide_eq_true (by subst z; rfl))
          have u0 : us ≠ [] := fun z => i0 (by rw [← hlen, z]; rfl)
          refine ⟨_, rfl, _, rfl, _, rfl, ⟨small, rfl⟩, fun m2 hm2 => ⟨a, m2, rfl, s6, by omega, by omega, fun q2 H7 q20 q21 s7 b7 => ⟨2, q2, rfl, rfl, sz, _, rfl, rfl, .inl ⟨by omega, by omega⟩, ?_⟩⟩⟩
          exact ⟨_, ps ++ [t], _, _, _, rfl, b06.trans b7, s7, b7 _ _ hnl6 nla, b7 _ _ hf6 nfa, UP.butS s6 b7 hU6, hlen', gu', nx.more u0 q20 (by omega), ev', hnm'⟩
      · rintro σ H4 ⟨us, ps, sz, v7, v8, rfl, b4, s4, hnl, hf, hU, hlen, gu, nx, ev, hnm⟩
        have el := UP.len hU
        refine ⟨_, rfl, f, rfl, ⟨_, SqL.of hf⟩, fun D nD => ?_⟩
        have nfD : f ≠ D := ne_of_none hf nD
        refine lc_list (K := K) (a := f) (xs := ps.map V.ref) (fun i H5 => Same H4 H5 ∧ H5 D = some (.lst ((ps.take i).map V.ref))) ⟨same_upd nD, upd_same⟩ (fun i H5 _ h => SqL.of (h.1 _ _ hf)) ?_ ?_
        · rintro i x H5 hi ⟨sm, hD⟩
          obtain ⟨pu, hpu, rfl⟩ := of_get_ref hi
          obtain ⟨u, hu2, hs⟩ := paired_fst hU hpu
          obtain ⟨_, _, k3, _⟩ := gu.each i u hu2
          refine ⟨rfl, .ref pu, rfl, pu, _, 1, .int u.2, rfl, rfl, same_sqt sm hs, rfl, 10, 18, rfl, rfl, ⟨by decide, by decide, by decide⟩, u.2, _, rfl, rfl, _, rfl, ?_⟩
          have e : decide (u.2 ≤ (10 : Int) ^ (18 : Int).toNat) = true := decide_eq_true k3
          rw [e]
          refine iteT ?_
          refine ⟨.ref pu, rfl, _, hD, ?_, fun b o eb => ?_, ?_⟩
          · rw [List.length_map, List.length_take]
            have := gu.hi
            exact Nat.lt_of_lt_of_le (show min i ps.length < 7 by omega) (by decide)
          · rw [upd_ne (ne_of_none eb nD)]
            exact sm _ _ eb
          · rw [upd_same, List.take_add_one, hpu, List.map_append]
            rfl
        · rintro H5 ⟨sm, hD⟩
          rw [List.length_map, List.take_of_length_le (Nat.le_refl _)] at hD
          refine .inl ⟨D, _, rfl, SqL.of hD, fun c nc => ?_⟩
          have sc := same_upd nc (o := .tup (ps.map V.ref))
          exact q c us _ ((b4.trans (Same.but sm)).trans (Same.but sc)) ((s4.same sm).same sc) ⟨ps, SqT.of upd_same, paired_imp (fun _ _ => same_sqt (sm.trans sc)) hU⟩ (gu.good (by omega)) ev (fun v hv => by
            obtain ⟨j, _, e, h⟩ := hnm v hv
            exact ⟨by rw [e]; exact nm6_noone _, h⟩)
end
end My

namespace My
open PySem PySem.Spec PyProof.Rows L2
abbrev sTold : Stmt := top 102
abbrev nTold : List Str := ["_law_spring_here", "_law_small", "_law_power", "_law_part", "_law_units_here", "_law_sort", "_law_name", "_law_size_here"]
theorem scTold : FnScope nTold ["_law_spring_here", "_law_small"] (defScope sTold) := ⟨rfl, rfl, rfl, by decide +kernel, rfl, by decide +kernel, by decide +kernel⟩
/-- what a ladder is made of stands at r -/
def ToldAt (K : PySem.W.Frag) (H : Hp) (r : Addr) (us : List (Str × Int)) (d : Nat) (s : Str) (c : Bool) (l : Int) : Prop := ∃ ua, SqT K H r [.ref ua, .int (d : Int), .str s, .bl c, .int l] ∧ UA K H ua us
theorem ToldAt.same {K : PySem.W.Frag} {H H' : Hp} {r : Addr} {us : List (Str × Int)} {d : Nat} {s : Str} {c : Bool} {l : Int} (k : Same H H') (h : ToldAt K H r us d s c l) : ToldAt K H' r us d s c l := by
  obtain ⟨ua, h1, h2⟩ := h
  exact ⟨ua, same_sqt k h1, h2.same k⟩
theorem ToldAt.but {K : PySem.W.Frag} {H H' : Hp} {a r : Addr} {us : List (Str × Int)} {d : Nat} {s : Str} {c : Bool} {l : Int} (hp : Spr H a) (k : But a H H') (h : ToldAt K H r us d s c l) : ToldAt K H' r us d s c l := by
  obtain ⟨ua, h1, h2⟩ := h
  exact ⟨ua, k.sqtS hp h1, UA.butS hp k h2⟩
def spTold (K : PySem.W.Frag) : Sp := fun vs H Q _ => ∃ (a : Addr) (small : Bool), vs = [.ref a, .bl small] ∧ Spr H a ∧
  ∀ (r : Addr) (us : List (Str × Int)) (d : Nat) (s : Str) (c : Bool) (l : Int) (H' : Hp), But a H H' → Spr H' a → ToldAt K H' r us d s c l → Good us d s l → NoOne us → l ≤ 100 → Q (.ref r) H'
def spMade (K : PySem.W.Frag) (C : Addr) : Sp := fun vs H Q _ => ∃ (r : Addr) (us : List (Str × Int)) (d : Nat) (s : Str) (c : Bool) (l : Int), vs = [.ref r] ∧ ToldAt K H r us d s c l ∧ Good us d s l ∧
  ∀ (p : Addr) (H' : Hp), Same H H' → LadAt K C H' p us d s c l → Q (.ref p) H'
/-- Ladder(.., carry = .., least = ..) -/
theorem kb_linit {K : PySem.W.Frag} {mg : Str → Option Value} (L : LadC K mg) : KBn K L.fd ["self", "units", "decimals", "rounding", "carry", "least"] 4 ["carry", "least"] (fun us ws => us ++ ws) (fun us ws => us ++ ws) := by
  obtain ⟨oc, od, kV, doc, pm, an, cdv, ct, osl, e, _⟩ := L.F.ex
  rw [e]
  refine ⟨fun s us ws _ h1 h2 => ?_, fun h1 h2 => h1.append h2⟩
  match us, ws, h1, h2 with
  | [_, _, _, _], [_, _], _, _ => exact .of_eq rfl
section
variable {P : Program} {w : World} {K : PySem.W.Frag} {mg : Str → Option Value} {base : Heap}
theorem ok_told (d : Dd K mg "_law_told" sTold ["_law_spring_here", "_law_small"]) (dU : Dd K mg "_law_units" sUnits ["_law_spring_here", "_law_part", "_law_small"]) (dS : Dd K mg "_law_some_of" sSome ["_law_spring_here", "_law_things"]) (dG : Dd K mg "_law_gulp" sGulp ["_law_spring_here", "_law_many"]) (B : Bt mg) :
    FnOk P w K mg base CX0 4 d.f d.fd ["_law_spring_here", "_law_small"] (spTold K) := by
  have G : FnOk P w K mg base CX0 2 dG.f dG.fd ["_law_spring_here", "_law_many"] spGulp := ok_gulp dG.F B
  have GS : FnOk P w K mg base CX0 3 dS.f dS.fd ["_law_spring_here", "_law_things"] (spSome K) := ok_some dS.F dG.F dG.b dG.g B
  have GU' : FnOk P w K mg base CX0 3 dU.f dU.fd ["_law_spring_here", "_law_part", "_law_small"] (spUnits K) := ok_units dU dG B
  refine d.F.ok scTold (fun vs H Q E h => ?_) (fun cdv A outer s H vs Q E hr h => ?_)
  · obtain ⟨_, _, rfl, _⟩ := h
    rfl
  · obtain ⟨a, small, rfl, hS, q⟩ := h
    have nd := scTold.nd
    have hr1 : Room 2 _ := hr.mono (by decide)
    refine ⟨_, Evl.pss_cut (ps_set (i := 2) nd rfl (.inl rfl) (pe_call GS hr (by rfl) dS.g dS.F.kp dS.b .nil pass0 (pa_cons (pv 0) (pa_cons (pe_ifExp (pt_val (pv 1)) (pe_lst (pa_cons pe_int (pa_cons pe_int (pa_cons pe_int pa_nil)))) (pe_lst (pa_cons pe_int (pa_cons pe_int (pa_cons pe_int (pa_cons pe_int (pa_cons pe_int pa_nil))))))) pa_nil))))
      (pss_cons (ps_set (i := 3) nd rfl (.inr rfl) (pe_op op_mul pe_int (pe_ix ix_list (pe_lst (pa_cons pe_int (pa_cons pe_int (pa_cons pe_int (pa_cons pe_int pa_nil))))) (pv 2) (fun _ _ => rfl))))
      (pss_cons (ps_set (i := 4) nd rfl (.inl rfl) (pe_call GU' hr (by rfl) dU.g dU.F.kp dU.b .nil pass0 (pa_cons (pv 0) (pa_cons (pv 3) (pa_cons (pv 1) pa_nil)))))
      (Evl.pss_cut (ps_if (pt_not (pt_val (pe_callB (cr_all rfl) (by rfl) B.all (by decide +kernel) (pa_cons
          (pe_lc (own := [("_law_name", 6), ("_law_size_here", 7)]) (g := gTup K 2 (gCons (gName 6) (gCons (gName 7) gNil))) (tt := tYes) rfl nd (pi_tup (pe_slice sl_tupA (pv 4) (po_some pe_int) po_none))
            (blkOk_by (own := [("_law_name", 6), ("_law_size_here", 7)]) (N := nTold) (sc := defScope sTold) (by decide +kernel)) (fun _ _ _ _ _ => pg_tup rfl (pgs_cons (pg_name (i := 6) nd rfl (Or.inl rfl)) (pgs_cons (pg_name (i := 7) nd rfl (Or.inl rfl)) pgs_nil))) (fun _ _ _ _ _ => pts_nil)
            (fun _ _ _ _ _ => pe_cmpR op_eq (pe_op op_mul (pe_op op_fdiv (pv 7) (pv 3)) (pv 3)) (pv 7) (nomark _))) pa_nil)))) (pss_one (ps_set (i := 2) nd rfl (.inl rfl) pe_int)) pss_nil)
      (pss_cons (ps_set (i := 5) nd rfl (.inl rfl) (pe_call GS hr (by rfl) dS.g dS.F.kp dS.b .nil pass0 (pa_cons (pv 0) (pa_cons (pe_lst (pa_cons pe_str (pa_cons pe_str (pa_cons pe_str (pa_cons pe_str pa_nil))))) pa_nil))))
      (pss_one (ps_ret (pe_tup (pa_cons (pv 4) (pa_cons (pv 2) (pa_cons (pv 5) (pa_cons (pe_cmpR op_eq (pe_call G hr1 (by rfl) dG.g dG.F.kp dG.b .nil pass0 (pa_cons (pv 0) (pa_cons pe_int pa_nil))) pe_int (nomark _))
        (pa_cons (pe_call GS hr (by rfl) dS.g dS.F.kp dS.b .nil pass0 (pa_cons (pv 0) (pa_cons (pe_lst (pa_cons pe_int (pa_cons pe_int (pa_cons pe_int (pa_cons pe_int (pa_cons (pe_either (pt_val (pv 1)) (mono_var 1)) pa_nil)))))) pa_nil))) pa_nil)))))))))))), ?_⟩
    have nal : ∀ {H1 : Hp} {p : Addr}, Spr H1 a → H1 p = none → p ≠ a := fun ⟨_, _, _, e⟩ n => (ne_of_none e n).symm
    refine ⟨fun σ' H' => ∃ pw : Nat, pw ≤ 3 ∧ σ' = [some (.ref a), some (.bl small), some (.int (pw : Int)), none, none, none, none, none] ∧ But a H H' ∧ Spr H' a, ?_, ?_⟩
    · refine ⟨_, rfl, _, rfl, small, rfl, ite2 (fun _ => ?_) (fun _ => ?_)⟩
      · refine ⟨(by show 3 ≤ sizeLine; decide), fun p np => ⟨a, p, _, rfl, hS.same (same_upd np), .inl (SqL.of upd_same), nal hS np, by simp, (by show 3 < 1000; decide), fun v H1 hv s1 b1 => ?_⟩⟩
        have hv' : v = .int 0 ∨ v = .int 1 := by simp at hv; omega
        rcases hv' with rfl | rfl
        · exact ⟨0, by decide, rfl, (Same.but (same_upd np)).trans b1, s1⟩
        · exact ⟨1, by decide, rfl, (Same.but (same_upd np)).trans b1, s1⟩
      · refine ⟨(by show 5 ≤ sizeLine; decide), fun p np => ⟨a, p, _, rfl, hS.same (same_upd np), .inl (SqL.of upd_same), nal hS np, by simp, (by show 5 < 1000; decide), fun v H1 hv s1 b1 => ?_⟩⟩
        have hv' : v = .int 0 ∨ v = .int 1 ∨ v = .int 2 ∨ v = .int 3 := by simp at hv; omega
        rcases hv' with rfl | rfl | rfl | rfl
        · exact ⟨0, by decide, rfl, (Same.but (same_upd np)).trans b1, s1⟩
        · exact ⟨1, by decide, rfl, (Same.but (same_upd np)).trans b1, s1⟩
        · exact ⟨2, by decide, rfl, (Same.but (same_upd np)).trans b1, s1⟩
        · exact ⟨3, by decide, rfl, (Same.but (same_upd np)).trans b1, s1⟩
    rintro σ' H1 ⟨pw, hpw, rfl, b1, s1⟩
    -- part
    have plo := pow_lo pw
    have phi := pow_hi hpw
    refine ⟨(by show 4 ≤ sizeLine; decide), fun p np => ⟨_, rfl, p, _, pw, _, rfl, rfl, SqL.of upd_same, parts_at hpw, 2, _, rfl, rfl, .inl ⟨by decide, by decide⟩, ?_⟩⟩
    have sp := same_upd np (o := .lst [.int 1, .int 10, .int 100, .int 1000])
    refine ⟨_, rfl, _, rfl, _, rfl, a, _, small, rfl, s1.same sp, by omega, by omega, by omega, fun ua us H2 b2 s2 hU gus hev hone => ?_⟩
    have b02 := (b1.trans (Same.but sp)).trans b2
    obtain ⟨ps, hua, hu⟩ := id hU
    have el := UP.len hu
    refine ⟨fun σ' H' => ∃ d : Nat, d ≤ 3 ∧ (∀ u ∈ us.drop 1, u.2 % (2 * 10 ^ d) = 0) ∧ σ' = [some (.ref a), some (.bl small), some (.int (d : Int)), some (.int (2 * 10 ^ pw)), some (.ref ua), none, none, none] ∧ But a H H' ∧ Spr H' a ∧ UA K H' ua us, ?_, ?_⟩
    · refine rest_of (te := tVar 4) hua (by rw [List.length_map, el]; exact gus.lo) (fun Qt h => ⟨_, rfl, h⟩) fun c H3 s3 hc => ?_
      refine ⟨c, rfl, ⟨_, hc⟩, fun D nD => ?_⟩
      have hu3 := paired_drop 1 (paired_imp (fun _ _ => same_sqt s3) hu)
      have el3 := UP.len hu3
      rw [← List.map_drop] at hc
      refine lc_tup (K := K) (a := c) (xs := (ps.drop 1).map V.ref) (fun i H4 => Same H3 H4 ∧ H4 D = some (.lst ((((us.drop 1).take i).map fun u => decide (u.2 / (2 * 10 ^ pw) * (2 * 10 ^ pw) = u.2)).map V.bl))) ⟨same_upd nD, upd_same⟩ (fun i H4 _ h => same_sqt h.1 hc) ?_ ?_
      · rintro i x H4 hi ⟨sm, hD⟩
        obtain ⟨pu, hpu, rfl⟩ := of_get_ref hi
        obtain ⟨u, hu2, hs⟩ := paired_fst hu3 hpu
        have hm := List.mem_of_getElem? hu2
        refine ⟨pu, _, rfl, same_sqt sm hs, rfl, .str u.1, [.int u.2], rfl, .int u.2, [], rfl, rfl, ?_⟩
        refine ⟨rfl, _, rfl, _, rfl, u.2, _, rfl, rfl, ⟨by omega, by omega⟩, _, rfl, _, _, rfl, rfl, .inr ⟨by omega, by omega⟩, _, rfl, rfl, _, hD, ?_, fun b o eb => ?_, ?_⟩
        · rw [List.length_map, List.length_map, List.length_take, List.length_drop]
          have := gus.hi
          exact Nat.lt_of_lt_of_le (show min i (us.length - 1) < 7 by omega) (by decide)
        · rw [upd_ne (ne_of_none eb nD)]
          exact sm _ _ eb
        · rw [upd_same, List.take_add_one, hu2, List.map_append, List.map_append]
          have e : decide (V.int (u.2 / (2 * 10 ^ pw) * (2 * 10 ^ pw)) = V.int u.2) = decide (u.2 / (2 * 10 ^ pw) * (2 * 10 ^ pw) = u.2) := by simp
          show some (HO.lst (_ ++ [V.bl (decide (V.int (u.2 / (2 * 10 ^ pw) * (2 * 10 ^ pw)) = V.int u.2))])) = _
          rw [e]
          rfl
      · rintro H4 ⟨sm, hD⟩
        rw [List.length_map, el3, List.take_of_length_le (Nat.le_refl _)] at hD
        have s24 := s3.trans sm
        refine ⟨D, _, rfl, SqL.of hD, _, rfl, ?_⟩
        cases ea : ((us.drop 1).map fun u => decide (u.2 / (2 * 10 ^ pw) * (2 * 10 ^ pw) = u.2)).all id with
        | false =>
          refine iteT ?_
          refine ⟨0, by decide, fun u hm => ?_, rfl, b02.trans (Same.but s24), s2.same s24, hU.same s24⟩
          have := hev u hm
          show u.2 % (2 * 1) = 0
          exact this
        | true =>
          refine iteF ?_
          refine ⟨pw, hpw, fun u hm => ?_, rfl, b02.trans (Same.but s24), s2.same s24, hU.same s24⟩
          rw [List.all_eq_true] at ea
          have h1 := ea _ (List.mem_map.mpr ⟨u, hm, rfl⟩)
          have h2 : u.2 / (2 * 10 ^ pw) * (2 * 10 ^ pw) = u.2 := of_decide_eq_true h1
          have h3 := Int.mul_ediv_add_emod u.2 (2 * 10 ^ pw)
          rw [show (2 * 10 ^ pw : Int) * (u.2 / (2 * 10 ^ pw)) = u.2 / (2 * 10 ^ pw) * (2 * 10 ^ pw) from Int.mul_comm _ _, h2] at h3
          omega
    rintro σ' H3 ⟨dn, hd, hdiv, rfl, b3, s3, hU3⟩
    -- sort
    refine ⟨_, rfl, (by show 4 ≤ sizeLine; decide), fun p2 np2 => ⟨a, p2, _, rfl, s3.same (same_upd np2), .inl (SqL.of upd_same), nal s3 np2, by simp, (by show 4 < 1000; decide), fun v H4 hv s4 b4 => ?_⟩⟩
    obtain ⟨z, hz, rfl⟩ : ∃ z, z ∈ sorts ∧ v = .str z := by
      have hv' : v = .str "down" ∨ v = .str "up" ∨ v = .str "near" ∨ v = .str "even" := by simpa using hv
      unfold sorts
      rcases hv' with rfl | rfl | rfl | rfl <;> exact ⟨_, by simp, rfl⟩
    have sp2 := same_upd np2 (o := .lst [.str "down", .str "up", .str "near", .str "even"])
    have b04 := (b3.trans (Same.but sp2)).trans b4
    have hU4 := UA.butS (s3.same sp2) b4 (hU3.same sp2)
    refine ⟨_, rfl, _, rfl, _, rfl, _, rfl, a, 2, rfl, s4, by decide, by decide, fun r H5 r0 r1 s5 b5 => ⟨rfl, ?_⟩⟩
    have hU5 := UA.butS s4 b5 hU4
    refine ⟨_, rfl, _, rfl, ⟨small, rfl⟩, fun m hm => ⟨(by show 5 ≤ sizeLine; decide), fun p3 np3 => ⟨a, p3, _, rfl, s5.same (same_upd np3), .inl (SqL.of upd_same), nal s5 np3, by simp, (by show 5 < 1000; decide), fun v6 H6 hv6 s6 b6 => ?_⟩⟩⟩
    have sp3 := same_upd np3 (o := .lst [.int 1, .int 1, .int 1, .int 2, .int m])
    obtain ⟨l, hl1, hl2, rfl⟩ : ∃ l : Int, 1 ≤ l ∧ l ≤ 100 ∧ v6 = .int l := by
      have hv' : v6 = .int 1 ∨ v6 = .int 2 ∨ v6 = .int m := by simpa using hv6
      rcases hv' with rfl | rfl | rfl
      · exact ⟨1, by decide, by decide, rfl⟩
      · exact ⟨2, by decide, by decide, rfl⟩
      · exact ⟨m, by omega, by omega, rfl⟩
    have hU6 := UA.butS (s5.same sp3) b6 (hU5.same sp3)
    refine ⟨(by show 5 ≤ sizeLine; decide), fun r6 nr6 => ?_⟩
    have s66 := same_upd nr6 (o := .tup [.ref ua, .int (dn : Int), .str z, .bl (decide (V.int r = V.int 0)), .int l])
    exact q r6 us dn z (decide (V.int r = V.int 0)) l _ ((((b04.trans b5).trans (Same.but sp3)).trans b6).trans (Same.but s66)) (s6.same s66) ⟨ua, SqT.of upd_same, hU6.same s66⟩ ⟨gus, hd, hdiv, hz, hl1, by omega⟩ hone hl2
end
end My

namespace My
open PySem PySem.Spec PyProof.Rows L2
abbrev sMade : Stmt := top 103
abbrev nMade : List Str := ["_law_told_here", "_law_a", "_law_b", "_law_c", "_law_d", "_law_e"]
theorem scMade : FnScope nMade ["_law_told_here"] (defScope sMade) := ⟨rfl, rfl, rfl, by decide +kernel, rfl, by decide +kernel, by decide +kernel⟩
section
variable {P : Program} {w : World} {K : PySem.W.Frag} {mg : Str → Option Value} {base : Heap}
theorem ok_made (d : Dd K mg "_law_made" sMade ["_law_told_here"]) (L : LadC K mg)
    (GI : FnOk P w K mg base CX0 5 L.f L.fd ["self", "units", "decimals", "rounding", "carry", "least"] (spLInit K L.C)) : FnOk P w K mg base CX0 7 d.f d.fd ["_law_told_here"] (spMade K L.C) := by
  refine d.F.ok scMade (fun vs H Q E h => ?_) (fun cdv A outer s H vs Q E hr h => ?_)
  · obtain ⟨_, _, _, _, _, _, rfl, _⟩ := h
    rfl
  · obtain ⟨r, us, dn, z, c, l, rfl, ⟨ua, hr0, hU⟩, g, q⟩ := h
    have nd := scMade.nd
    refine ⟨_, pss_cons (ps_asg (pv 0) (pg_tup rfl (pgs_cons (pg_name (i := 1) nd rfl (.inl rfl)) (pgs_cons (pg_name (i := 2) nd rfl (.inl rfl)) (pgs_cons (pg_name (i := 3) nd rfl (.inl rfl)) (pgs_cons (pg_name (i := 4) nd rfl (.inl rfl)) (pgs_cons (pg_name (i := 5) nd rfl (.inl rfl)) pgs_nil)))))))
      (pss_one (ps_ret (pe_makeK L.M GI hr (by rfl) L.g (kb_linit L) pass0 (pa_cons (pv 1) (pa_cons (pv 2) (pa_cons (pv 3) pa_nil))) (pk_cons (pv 4) (pk_cons (pv 5) pk_nil))))), ?_⟩
    refine ⟨_, rfl, r, _, rfl, hr0, rfl, _, _, rfl, _, _, rfl, _, _, rfl, _, _, rfl, _, _, rfl, rfl, ?_⟩
    refine ⟨_, rfl, _, rfl, _, rfl, _, rfl, _, rfl, rfl, rfl, fun x dx nx ndx nex => ?_⟩
    have hx : (upd (upd H dx (.own x)) x (.ins L.C dx [])) x = some (.ins L.C dx []) := upd_same
    have s0 : Same H (upd (upd H dx (.own x)) x (.ins L.C dx [])) := fun b o e => by
      rw [upd_ne (ne_of_none e nx), upd_ne (ne_of_none e ndx)]
      exact e
    refine ⟨x, dx, ua, us, dn, z, c, l, rfl, hx, hU.same s0, g, fun H' t st th b1 h1 h2 h3 h4 => ⟨rfl, ?_⟩⟩
    have s1 : Same H H' := fun b o e => b1 b o (s0 b o e) (ne_of_none e nx)
    exact q x H' s1 ⟨dx, ua, t, st, th, h1, hU.same s1, h2, h3, h4⟩
end
end My

namespace My
open PySem PySem.Spec PyProof.Rows L2
/-! ### thresholds ascend -/
def szOf (us : List (Str × Int)) (i : Nat) : Int := (us.getD i ("", 0)).2
theorem szOf_at {us : List (Str × Int)} {i : Nat} {u : Str × Int} (h : us[i]? = some u) : szOf us i = u.2 := by
  unfold szOf
  rw [List.getD_eq_getElem?_getD, h]
  rfl
theorem sz_up {us : List (Str × Int)} (g : GoodUs us) {i : Nat} (h : i + 1 < us.length) : szOf us i < szOf us (i + 1) := by
  have h1 : us[i + 1]? = some us[i + 1] := List.getElem?_eq_getElem h
  have h0 : us[i]? = some us[i] := List.getElem?_eq_getElem (by omega)
  obtain ⟨_, _, _, hf⟩ := g.each (i + 1) _ h1
  rw [szOf_at h1, szOf_at h0]
  have el : (us.take (i + 1)).length = i + 1 := by rw [List.length_take]; omega
  rcases hf with ⟨e, _⟩ | ⟨l, hl, _, _, h3, _⟩
  · rw [e] at el
    cases el
  · rw [el, Nat.add_sub_cancel, List.getElem?_take] at hl
    rw [if_pos (Nat.lt_succ_self i), h0] at hl
    rw [Option.some.inj hl]
    exact h3
theorem thr_at {us : List (Str × Int)} {l : Int} {k : Nat} (h1 : 1 ≤ k) (h2 : k < us.length) : (thrsOf us l)[k]? = some (szOf us k * l) := by
  obtain ⟨j, rfl⟩ : ∃ j, k = j + 1 := ⟨k - 1, by omega⟩
  have h : us[j + 1]? = some us[j + 1] := List.getElem?_eq_getElem h2
  unfold thrsOf
  rw [List.getElem?_cons_succ, List.getElem?_map, List.getElem?_drop, Nat.add_comm 1 j, h, szOf_at h]
  rfl
theorem step_at {us : List (Str × Int)} {d k : Nat} (h1 : 1 ≤ k) (h2 : k < us.length) : (stepsOf us d).getD k 0 = szOf us k / 10 ^ d := by
  obtain ⟨j, rfl⟩ : ∃ j, k = j + 1 := ⟨k - 1, by omega⟩
  have h : us[j + 1]? = some us[j + 1] := List.getElem?_eq_getElem h2
  unfold stepsOf
  rw [List.getD_eq_getElem?_getD, List.getElem?_cons_succ, List.getElem?_map, List.getElem?_drop, Nat.add_comm 1 j, h, szOf_at h]
  rfl
theorem sz_mono {us : List (Str × Int)} (g : GoodUs us) : ∀ {j i : Nat}, i ≤ j → j < us.length → szOf us i ≤ szOf us j := by
  intro j
  induction j with
  | zero => intro i h _; rw [show i = 0 by omega]; exact Int.le_refl _
  | succ j ih =>
    intro i h hj
    rcases Nat.lt_or_ge i (j + 1) with z | z
    · have := ih (i := i) (by omega) (by omega)
      have := sz_up g hj
      omega
    · rw [show i = j + 1 by omega]
      exact Int.le_refl _
theorem thr_sorted {us : List (Str × Int)} {l : Int} (g : GoodUs us) (hl : 1 ≤ l) : (thrsOf us l).Pairwise (· ≤ ·) := by
  rw [List.pairwise_iff_getElem]
  intro i j hi hj hij
  have elen := len_thrs us l g.lo
  have hj' : (thrsOf us l)[j]? = some (szOf us j * l) := thr_at (by omega) (by omega)
  have ej : (thrsOf us l)[j] = szOf us j * l := by
    have := List.getElem?_eq_getElem hj
    rw [hj'] at this
    exact (Option.some.inj this).symm
  have pj : 1 ≤ szOf us j := by
    have h : us[j]? = some us[j] := List.getElem?_eq_getElem (by omega)
    rw [szOf_at h]
    exact (g.each j _ h).2.1
  show (thrsOf us l)[i] ≤ (thrsOf us l)[j]
  rw [ej]
  cases i with
  | zero =>
    show (0 : Int) ≤ szOf us j * l
    exact Int.mul_nonneg (by omega) (by omega)
  | succ i =>
    have hi' : (thrsOf us l)[i + 1]? = some (szOf us (i + 1) * l) := thr_at (by omega) (by omega)
    have ei : (thrsOf us l)[i + 1] = szOf us (i + 1) * l := by
      have := List.getElem?_eq_getElem hi
      rw [hi'] at this
      exact (Option.some.inj this).symm
    rw [ei]
    exact Int.mul_le_mul_of_nonneg_right (sz_mono g (by omega) (by omega)) (by omega)
theorem asc_cnt {n : Int} : ∀ {T : List Int}, T.Pairwise (· ≤ ·) → ∀ {k : Nat} {t : Int}, T[k]? = some t → (t ≤ n ↔ k < (T.filter fun x => decide (x ≤ n)).length)
  | [], _, k, t, h => by simp at h
  | x :: r, hp, k, t, h => by
    rw [List.pairwise_cons] at hp
    by_cases hx : x ≤ n
    · rw [List.filter_cons, if_pos (decide_eq_true hx), List.length_cons]
      cases k with
      | zero =>
        have e : x = t := Option.some.inj h
        subst e
        exact ⟨fun _ => Nat.succ_pos _, fun _ => hx⟩
      | succ k =>
        have ih := asc_cnt (n := n) hp.2 (k := k) (t := t) h
        rw [ih]
        omega
    · rw [List.filter_cons, if_neg (fun z => hx (of_decide_eq_true z))]
      have hall : ∀ y ∈ r, ¬ y ≤ n := fun y hy z => hx (Int.le_trans (hp.1 y hy) z)
      have e0 : (r.filter fun x => decide (x ≤ n)) = [] := List.filter_eq_nil_iff.mpr fun y hy z => hall y hy (of_decide_eq_true z)
      rw [e0]
      refine ⟨fun z => ?_, fun z => absurd z (Nat.not_lt_zero _)⟩
      cases k with
      | zero =>
        have e : x = t := Option.some.inj h
        subst e
        exact absurd z hx
      | succ k => exact absurd z (hall t (List.mem_of_getElem? h))
/-- a place is reached exactly up to the last one -/
theorem reached {us : List (Str × Int)} {l n : Int} (g : GoodUs us) (hl : 1 ≤ l) (h0 : 0 ≤ n) {k : Nat} (hk : k < us.length) : (k = 0 ∨ szOf us k * l ≤ n) ↔ k ≤ placeOf us l n := by
  have hc := cnt_pos (us := us) (l := l) h0
  unfold placeOf
  rcases Nat.eq_zero_or_pos k with z | z
  · subst z
    exact ⟨fun _ => Nat.zero_le _, fun _ => .inl rfl⟩
  · have h := asc_cnt (n := n) (thr_sorted (l := l) g hl) (thr_at (l := l) z hk)
    show _ ↔ k ≤ cntOf us l n - 1
    have e : (k < ((thrsOf us l).filter fun x => decide (x ≤ n)).length) = (k < cntOf us l n) := rfl
    rw [e] at h
    constructor
    · intro y
      rcases y with y | y
      · omega
      · have := h.mp y
        omega
    · intro y
      exact .inr (h.mpr (by omega))
theorem rnd_one (n : Int) (s : Str) : rnd n 1 s = n := by
  unfold rnd goesUp
  have e1 : n / 1 = n := Int.ediv_one n
  have e2 : n % 1 = 0 := Int.emod_one n
  rw [e1, e2]
  have e : (if s = "up" then decide ((0 : Int) < 0) else if s = "near" then decide ((1 : Int) ≤ 2 * 0) else if s = "even" then decide ((1 : Int) < 2 * 0) || (decide ((2 : Int) * 0 = 1) && decide (n % 2 = 1)) else false) = false := by
    split
    · rfl
    · split
      · rfl
      · split
        · rfl
        · rfl
  rw [e]
  rfl
theorem placed_zero {us : List (Str × Int)} {d : Nat} {s : Str} {c : Bool} {l n : Int} (g : Good us d s l) (h0 : 0 ≤ n) (h : placeOf us l n = 0) : placedM us d s c l n = (0, n) := by
  unfold placedM
  rw [h]
  have e1 : (stepsOf us d).getD 0 0 = 1 := rfl
  rw [e1, rnd_one]
  have e2 : isCar us d c l 0 n = false := by
    unfold isCar
    rcases Nat.lt_or_ge 1 us.length with z | z
    · have t1 := thr_at (l := l) (Nat.le_refl 1) z
      have e3 : (thrsOf us l).getD (0 + 1) 0 = szOf us 1 * l := by rw [List.getD_eq_getElem?_getD, t1]; rfl
      have hr := reached (n := n) g.u g.l1 h0 z
      have hn : ¬ szOf us 1 * l ≤ n := fun y => by
        have := hr.mp (.inr y)
        omega
      rw [e3, e1, Int.mul_one, decide_eq_false hn, Bool.and_false, Bool.and_false]
    · rw [decide_eq_false (show ¬ 0 + 1 < us.length by omega), Bool.false_and, Bool.and_false]
  rw [e2, if_neg Bool.false_ne_true]
end My

namespace My
open PySem PySem.Spec PyProof.Rows L2
theorem op_mul_str {X : Cx} : OpR X (binaryOp .Mult) (fun x y H Q => ∃ z n, x = .str z ∧ y = .int n ∧ MulOk z n ∧ Q (.str (Txt.mul z n)) H) := by
  intro pins s σ H x y v u Q I rx ry h
  obtain ⟨z, n, rfl, rfl, ok, q⟩ := h
  obtain ⟨t, rfl⟩ := rx
  obtain ⟨t', rfl⟩ := ry
  exact SB.mul ok (fun t' tk => ⟨.str (Txt.mul z n), H, I.tok _, ⟨_, rfl⟩, q⟩)
theorem mul_ok {n : Int} (h1 : -1000 ≤ n) (h2 : n ≤ 4) : MulOk ("0" : Str) n := by
  refine ⟨?_, fun h3 h4 => ?_, fun h3 h4 => ?_⟩
  · rw [decide_eq_false (by omega), decide_eq_false (by omega)]
    rfl
  · have : n = 1 ∨ n = 2 ∨ n = 3 ∨ n = 4 := by omega
    rcases this with rfl | rfl | rfl | rfl <;> decide
  · have : n = 1 ∨ n = 2 ∨ n = 3 ∨ n = 4 := by omega
    rcases this with rfl | rfl | rfl | rfl <;> decide +kernel
abbrev sLRnd : Stmt := top 104
abbrev sLParts : Stmt := top 105
abbrev nLRnd : List Str := ["_law_sort", "_law_top_here", "_law_step", "_law_mark", "_law_left"]
abbrev nLParts : List Str := ["_law_told_here", "_law_top_here", "_law_units_here", "_law_power", "_law_sort", "_law_goes_over", "_law_much", "_law_tens", "_law_at", "_law_mark", "_law_k"]
theorem scLRnd : FnScope nLRnd ["_law_sort", "_law_top_here", "_law_step"] (defScope sLRnd) := ⟨rfl, rfl, rfl, by decide +kernel, rfl, by decide +kernel, by decide +kernel⟩
theorem scLParts : FnScope nLParts ["_law_told_here", "_law_top_here"] (defScope sLParts) := ⟨rfl, rfl, rfl, by decide +kernel, rfl, by decide +kernel, by decide +kernel⟩
def spLRnd : Sp := fun vs H Q _ => ∃ (n st : Int) (s : Str), vs = [.str s, .int n, .int st] ∧ 0 < st ∧ st.natAbs < 2 ^ 64 ∧ ∀ H', Same H H' → Q (.int (rnd n st s)) H'
def spLParts (K : PySem.W.Frag) : Sp := fun vs H Q _ => ∃ (r : Addr) (us : List (Str × Int)) (d : Nat) (s : Str) (c : Bool) (l n : Int), vs = [.ref r, .int n] ∧ ToldAt K H r us d s c l ∧ Good us d s l ∧ 0 ≤ n ∧ n ≤ 1000000000000000000000000000000 ∧
  ∀ (t : Addr) (H' : Hp), Same H H' → SqT K H' t [.int ((placedM us d s c l n).1 : Int), .int (placedM us d s c l n).2] → Q (.ref t) H'
def spLWrit (K : PySem.W.Frag) : Sp := fun vs H Q _ => ∃ (r : Addr) (us : List (Str × Int)) (d : Nat) (s : Str) (c : Bool) (l : Int) (p : Nat) (m : Int), vs = [.ref r, .int (p : Int), .int m] ∧ ToldAt K H r us d s c l ∧ Good us d s l ∧ p < us.length ∧ 0 ≤ m ∧ m < 10 ^ 40 ∧ Q (.str (writ us d p m)) H
def spLSeen (K : PySem.W.Frag) : Sp := fun vs H Q _ => ∃ (r : Addr) (us : List (Str × Int)) (d : Nat) (s : Str) (c : Bool) (l n : Int), vs = [.ref r, .int n] ∧ ToldAt K H r us d s c l ∧ Good us d s l ∧ 0 ≤ n ∧ n ≤ 1000000000000000000000000000000 ∧
  ∀ H', Same H H' → Q (.str (shown us d s c l n)) H'
section
variable {P : Program} {w : World} {K : PySem.W.Frag} {mg : Str → Option Value} {base : Heap}
theorem ok_lrnd (d : Dd K mg "_law_rounded" sLRnd ["_law_sort", "_law_top_here", "_law_step"]) (B : Bt mg) : FnOk P w K mg base CX0 2 d.f d.fd ["_law_sort", "_law_top_here", "_law_step"] spLRnd := by
  refine d.F.ok scLRnd (fun vs H Q E h => ?_) (fun cdv A outer s H vs Q E hr h => ?_)
  · obtain ⟨_, _, _, rfl, _⟩ := h
    rfl
  · obtain ⟨n, st, z, rfl, h0, h1, q⟩ := h
    have nd := scLRnd.nd
    refine ⟨_, pss_cons (ps_asg (pe_callB call_divmodW (by rfl) B.divmod (by decide +kernel) (pa_cons (pe_callTy call_int1 (by rfl) B.int (by decide +kernel) (pa_cons (pv 1) pa_nil)) (pa_cons (pv 2) pa_nil))) (pg_tup rfl (pgs_cons (pg_name (i := 3) nd rfl (.inl rfl)) (pgs_cons (pg_name (i := 4) nd rfl (.inl rfl)) pgs_nil))))
      (pss_cons (ps_if (pt_cmpR op_eq (pv 0) pe_str (nomark _)) (pss_one (ps_ret (pe_op op_add (pv 3) (pe_callTy call_int1 (by rfl) B.int (by decide +kernel) (pa_cons (pe_cmpR op_gt (pv 4) pe_int (nomark _)) pa_nil))))) pss_nil)
      (pss_cons (ps_if (pt_cmpR op_eq (pv 0) pe_str (nomark _)) (pss_one (ps_ret (pe_op op_add (pv 3) (pe_callTy call_int1 (by rfl) B.int (by decide +kernel) (pa_cons (pe_cmpR op_ge (pe_op op_mul pe_int (pv 4)) (pv 2) (nomark _)) pa_nil))))) pss_nil)
      (pss_cons (ps_if (pt_cmpR op_eq (pv 0) pe_str (nomark _)) (pss_one (ps_ret (pe_op op_add (pv 3) (pe_callTy call_int1 (by rfl) B.int (by decide +kernel) (pa_cons
        (pe_or (pe_cmpR op_gt (pe_op op_mul pe_int (pv 4)) (pv 2) (nomark _)) (pe_one (pe_and (pe_cmpR op_eq (pe_op op_mul pe_int (pv 4)) (pv 2) (nomark _))
          (pe_one (pe_cmpR op_eq (pe_op op_mod (pe_callTy call_int1 (by rfl) B.int (by decide +kernel) (pa_cons (pv 3) pa_nil)) pe_int) pe_int (nomark _)))))) pa_nil))))) pss_nil)
      (pss_one (ps_ret (pv 3)))))), ?_⟩
    refine ⟨_, rfl, .inl ⟨n, rfl, _, rfl, n, st, rfl, divp_small _ h0 h1, fun p np => ?_⟩⟩
    refine ⟨p, _, rfl, SqT.of upd_same, rfl, _, _, rfl, _, _, rfl, rfl, ?_⟩
    have sm := same_upd np (o := .tup [.int (n / st), .int (n % st)])
    have qq := q _ sm
    have fin : ∀ k : Bool, goesUp (n / st) (n % st) st z = k → Q (.int (n / st + (if k then 1 else 0))) (upd H p (.tup [.int (n / st), .int (n % st)])) := fun k e => by
      unfold rnd at qq
      rw [e] at qq
      cases k with
      | true => exact qq
      | false =>
        rw [if_neg Bool.false_ne_true] at qq
        rw [if_neg Bool.false_ne_true, Int.add_zero]
        exact qq
    unfold goesUp at fin
    have hd : ∀ x : Str, decide (V.str z = V.str x) = true → z = x := fun x e => V.str.inj (of_decide_eq_true e)
    have hn : ∀ x : Str, ¬ decide (V.str z = V.str x) = true → ¬ z = x := fun x e y => e (decide_eq_true (congrArg V.str y))
    refine ⟨_, rfl, rfl, _, rfl, ite2 (fun e => ?_) (fun e => ?_)⟩
    · have f := fin _ rfl
      rw [if_pos (hd _ e)] at f
      exact ⟨_, rfl, _, rfl, _, 0, rfl, rfl, .inr ⟨_, rfl, _, _, rfl, rfl, f⟩⟩
    rw [if_neg (hn _ e)] at fin
    refine ⟨_, rfl, rfl, _, rfl, ite2 (fun e => ?_) (fun e => ?_)⟩
    · have f := fin _ rfl
      rw [if_pos (hd _ e)] at f
      exact ⟨_, rfl, _, rfl, 2, _, rfl, rfl, .inl ⟨by decide, by decide⟩, _, rfl, _, st, rfl, rfl, .inr ⟨_, rfl, _, _, rfl, rfl, f⟩⟩
    rw [if_neg (hn _ e)] at fin
    refine ⟨_, rfl, rfl, _, rfl, ite2 (fun e => ?_) (fun e => ?_)⟩
    · rw [if_pos (hd _ e)] at fin
      refine ⟨_, rfl, _, rfl, 2, _, rfl, rfl, .inl ⟨by decide, by decide⟩, _, rfl, _, st, rfl, rfl, _, rfl, ite2 (fun e1 => ?_) (fun e1 => ?_)⟩
      · have e2 : decide (st < 2 * (n % st)) = true := e1
        have f := fin true (by rw [e2]; rfl)
        exact .inr ⟨true, rfl, _, _, rfl, rfl, f⟩
      · have e2 : decide (st < 2 * (n % st)) = false := Bool.eq_false_iff.mpr e1
        rw [e2, Bool.false_or] at fin
        refine ⟨_, rfl, 2, _, rfl, rfl, .inl ⟨by decide, by decide⟩, _, rfl, rfl, _, rfl, ite2 (fun e3 => ?_) (fun e3 => ?_)⟩
        · have e4 : (2 * (n % st) = st) := V.int.inj (of_decide_eq_true e3)
          rw [decide_eq_true e4, Bool.true_and] at fin
          refine ⟨_, rfl, .inl ⟨_, rfl, _, 2, rfl, rfl, (by show (0 : Int) < 2; decide), rfl, .inr ⟨_, rfl, _, _, rfl, rfl, fin _ ?_⟩⟩⟩
          simp
        · have e4 : ¬ (2 * (n % st) = st) := fun z => e3 (decide_eq_true (congrArg V.int z))
          have f := fin false (by rw [decide_eq_false e4, Bool.false_and])
          exact .inr ⟨false, rfl, _, _, rfl, rfl, f⟩
    rw [if_neg (hn _ e)] at fin
    have f := fin false rfl
    rw [if_neg Bool.false_ne_true, Int.add_zero] at f
    exact ⟨_, rfl, f⟩
end
end My

namespace My
open PySem PySem.Spec PyProof.Rows L2
theorem int_lt64 {z : Int} (h1 : 0 < z) (h2 : z ≤ 1000000000000000000) : z.natAbs < 2 ^ 64 := by omega
theorem div_step {us : List (Str × Int)} {d : Nat} {s : Str} {l : Int} (g : Good us d s l) {p : Nat} (h1 : 1 ≤ p) (hp : p < us.length) : 0 < szOf us p / 10 ^ d ∧ szOf us p / 10 ^ d ≤ 1000000000000000000 := by
  obtain ⟨_, k2, k3⟩ := steps_ok g hp
  rw [step_at h1 hp] at k2 k3
  exact ⟨k2, k3⟩
theorem filt_snoc (f : Nat → Bool) (i : Nat) : (List.range (i + 1)).filter f = (List.range i).filter f ++ (if f i = true then [i] else []) := by
  rw [List.range_succ, List.filter_append]
  congr 1
  rw [List.filter_cons]
  rfl
section
variable {P : Program} {w : World} {K : PySem.W.Frag} {mg : Str → Option Value} {base : Heap}
theorem ok_lparts (d : Dd K mg "_law_parts" sLParts ["_law_told_here", "_law_top_here"]) (dR : Dd K mg "_law_rounded" sLRnd ["_law_sort", "_law_top_here", "_law_step"]) (B : Bt mg) : FnOk P w K mg base CX0 3 d.f d.fd ["_law_told_here", "_law_top_here"] (spLParts K) := by
  have GR : FnOk P w K mg base CX0 2 dR.f dR.fd ["_law_sort", "_law_top_here", "_law_step"] spLRnd := ok_lrnd dR B
  refine d.F.ok scLParts (fun vs H Q E h => ?_) (fun cdv A outer s H vs Q E hr h => ?_)
  · obtain ⟨_, _, _, _, _, _, _, rfl, _⟩ := h
    rfl
  · obtain ⟨r, us, dn, z, c, l, n, rfl, ⟨ua, hr0, hU⟩, g, h0, hn, q⟩ := h
    have nd := scLParts.nd
    refine ⟨_, pss_cons (ps_asg (pv 0) (pg_tup rfl (pgs_cons (pg_name (i := 2) nd rfl (.inr rfl)) (pgs_cons (pg_name (i := 3) nd rfl (.inl rfl)) (pgs_cons (pg_name (i := 4) nd rfl (.inl rfl)) (pgs_cons (pg_name (i := 5) nd rfl (.inl rfl)) (pgs_cons (pg_name (i := 6) nd rfl (.inr rfl)) pgs_nil)))))))
      (pss_cons (ps_set (i := 7) nd rfl (.inl rfl) (pe_ix ix_list (pe_lst (pa_cons pe_int (pa_cons pe_int (pa_cons pe_int (pa_cons pe_int pa_nil))))) (pv 3) (fun _ _ => rfl)))
      (Evl.pss_cut (ps_set (i := 8) nd rfl (.inl rfl) (pe_callB (cr_max rfl) (by rfl) B.max (by decide +kernel) (pa_cons
        (pe_lc (own := [("_law_k", 10)]) (g := gName 10) rfl nd (pi_range1 (by rfl) B.range (pa_cons (pe_callB call_len_seq (by rfl) B.len PySem.boot_len (pa_cons (pv 2) pa_nil)) pa_nil)) (blkOk_by (own := [("_law_k", 10)]) (N := nLParts) (sc := defScope sLParts) (by decide +kernel)) (fun _ _ _ _ _ => pg_name (i := 10) nd rfl (Or.inl rfl))
          (fun _ _ _ _ _ => pts_one (PW.pt (pw_or (pt_cmpR op_eq (pv 10) pe_int (nomark _)) (pw_or1 (pt_cmpR op_ge (pv 1) (pe_op op_mul (pv 6) (pe_ix (r := rIxT K) ix_tup (pe_ix (r := rIxT K) ix_tup (pv 2) (pv 10) (fun _ _ => rfl)) pe_int (fun _ _ => rfl))) (nomark _)))))) (fun _ _ _ _ _ => pv 10)) pa_nil)))
      (pss_cons (ps_if (pt_cmpR op_eq (pv 8) pe_int (nomark _)) (pss_one (ps_ret (pe_tup (pa_cons pe_int (pa_cons (pv 1) pa_nil))))) pss_nil)
      (pss_cons (ps_set (i := 9) nd rfl (.inl rfl) (pe_call GR hr (by rfl) dR.g dR.F.kp dR.b .nil pass0 (pa_cons (pv 4) (pa_cons (pv 1) (pa_cons (pe_op op_fdiv (pe_ix ix_tup (pe_ix ix_tup (pv 2) (pv 8) (fun _ _ => rfl)) pe_int (fun _ _ => rfl)) (pv 7)) pa_nil)))))
      (pss_cons (ps_if (PW.pt (pw_and (pt_val (pv 5)) (pw_and1 (pt_cmpR op_lt (pe_op op_add (pv 8) pe_int) (pe_callB call_len_seq (by rfl) B.len PySem.boot_len (pa_cons (pv 2) pa_nil)) (nomark _)))))
          (pss_one (ps_if (pt_cmpR op_ge (pe_op op_mul (pv 9) (pe_op op_fdiv (pe_ix ix_tup (pe_ix ix_tup (pv 2) (pv 8) (fun _ _ => rfl)) pe_int (fun _ _ => rfl)) (pv 7))) (pe_op op_mul (pv 6) (pe_ix ix_tup (pe_ix ix_tup (pv 2) (pe_op op_add (pv 8) pe_int) (fun _ _ => rfl)) pe_int (fun _ _ => rfl))) (nomark _))
            (pss_one (ps_ret (pe_tup (pa_cons (pe_op op_add (pv 8) pe_int) (pa_cons (pe_call GR hr (by rfl) dR.g dR.F.kp dR.b .nil pass0 (pa_cons (pv 4) (pa_cons (pv 1) (pa_cons (pe_op op_fdiv (pe_ix ix_tup (pe_ix ix_tup (pv 2) (pe_op op_add (pv 8) pe_int) (fun _ _ => rfl)) pe_int (fun _ _ => rfl)) (pv 7)) pa_nil)))) pa_nil))))) pss_nil)) pss_nil)
      (pss_one (ps_ret (pe_tup (pa_cons (pv 8) (pa_cons (pv 9) pa_nil)))))))))), ?_⟩
    have plo := pow_lo dn
    have phi := pow_hi g.d3
    have hl1 := g.l1
    have hl2 := g.l2
    refine ⟨_, rfl, r, _, rfl, hr0, rfl, _, _, rfl, _, _, rfl, _, _, rfl, _, _, rfl, _, _, rfl, rfl, ?_⟩
    refine ⟨(by show 4 ≤ sizeLine; decide), fun p np => ⟨_, rfl, p, _, dn, _, rfl, rfl, SqL.of upd_same, parts_at g.d3, ?_⟩⟩
    have sp := same_upd np (o := .lst [.int 1, .int 10, .int 100, .int 1000])
    -- units by their places
    have unit : ∀ {Hx : Hp}, UA K Hx ua us → ∀ {k : Nat}, k < us.length → ∃ (xs : List V) (pu : Addr) (nm : Str), SqT K Hx ua xs ∧ xs.length = us.length ∧ atI xs (k : Int) = some (.ref pu) ∧ SqT K Hx pu [.str nm, .int (szOf us k)] ∧ 1 ≤ szOf us k ∧ szOf us k ≤ 1000000000000000000 := fun ⟨ps, h1, h2⟩ k hk => by
      have hu : us[k]? = some us[k] := List.getElem?_eq_getElem hk
      obtain ⟨pu, hpu, hsu⟩ := paired_at h2 hu
      obtain ⟨_, z1, z2, _⟩ := g.u.each k _ hu
      refine ⟨_, pu, us[k].1, h1, by rw [List.length_map]; exact UP.len h2, atI_nat (get_ref hpu), ?_, ?_, ?_⟩
      · rw [szOf_at hu]; exact hsu
      · rw [szOf_at hu]; exact z1
      · rw [szOf_at hu]; exact z2
    have hc1 := cnt_pos (us := us) (l := l) h0
    have hc2 := cnt_le (l := l) (n := n) g.u.lo
    have hpl : placeOf us l n < us.length := by unfold placeOf; omega
    refine ⟨fun σ' H' => Same H H' ∧ σ' = [some (.ref r), some (.int n), some (.ref ua), some (.int (dn : Int)), some (.str z), some (.bl c), some (.int l), some (.int (10 ^ dn)), some (.int (placeOf us l n : Int)), none, none], ?_, ?_⟩
    · obtain ⟨xs0, _, _, hx0, hxl, _⟩ := unit (hU.same sp) hpl
      refine ⟨_, rfl, ua, _, rfl, .inr hx0, _, rfl, by omega, by have := g.u.hi; omega, fun D nD => ?_⟩
      rw [Int.toNat_natCast, hxl]
      have sD := same_upd nD (o := .lst [])
      refine lc_range (lo := 0) (n := us.length) (fun i H2 => Same H H2 ∧ H2 D = some (.lst ((((List.range i).filter fun k => decide (k = 0 ∨ szOf us k * l ≤ n)).map fun k : Nat => (k : Int)).map V.int))) ⟨sp.trans sD, upd_same⟩ ?_ ?_
      · rintro i H2 hi ⟨sm, hD⟩
        have sD' : ∀ v, Same H (upd H2 D (.lst v)) := fun v b o e => by
          rw [upd_ne (ne_of_none (sp _ _ e) nD)]
          exact sm _ _ e
        have lens : ((((List.range i).filter fun k => decide (k = 0 ∨ szOf us k * l ≤ n)).map fun k : Nat => (k : Int)).map V.int).length < sizeLine := by
          rw [List.length_map, List.length_map]
          have h1 := List.length_filter_le (fun k => decide (k = 0 ∨ szOf us k * l ≤ n)) (List.range i)
          rw [List.length_range] at h1
          have := g.u.hi
          exact Nat.lt_of_lt_of_le (show _ < 7 by omega) (by decide)
        have yes : (i = 0 ∨ szOf us i * l ≤ n) → (((List.range (i + 1)).filter fun k => decide (k = 0 ∨ szOf us k * l ≤ n)).map fun k : Nat => (k : Int)).map V.int = ((((List.range i).filter fun k => decide (k = 0 ∨ szOf us k * l ≤ n)).map fun k : Nat => (k : Int)).map V.int) ++ [.int (0 + (i : Int))] := fun e => by
          rw [filt_snoc, if_pos (decide_eq_true e), List.map_append, List.map_append, Int.zero_add]
          rfl
        refine ⟨rfl, _, rfl, rfl, _, rfl, ite2 (fun e => ?_) (fun e => ?_)⟩
        · have e0 : i = 0 := by have := V.int.inj (of_decide_eq_true e); omega
          refine iteT ?_
          refine ⟨_, rfl, _, hD, lens, sD' _, ?_⟩
          rw [upd_same, yes (.inl e0)]
        · have e0 : ¬ i = 0 := fun y => e (decide_eq_true (by subst y; rfl))
          obtain ⟨xs, pu, nm, x1, x2, x3, x4, x5, x6⟩ := unit (hU.same sm) hi
          refine ⟨_, rfl, _, rfl, _, rfl, _, rfl, ua, xs, (0 + (i : Int)), .ref pu, rfl, rfl, x1, (by rw [Int.zero_add]; exact x3), pu, _, 1, .int (szOf us i), rfl, rfl, x4, rfl, l, _, rfl, rfl, .inl ⟨by omega, by omega⟩, n, _, rfl, rfl, _, rfl, ?_⟩
          have ec : l * szOf us i = szOf us i * l := Int.mul_comm _ _
          by_cases e1 : szOf us i * l ≤ n
          · have e2 : decide (l * szOf us i ≤ n) = true := decide_eq_true (by rw [ec]; exact e1)
            rw [e2]
            refine iteT ?_
            refine ⟨_, rfl, _, hD, lens, sD' _, ?_⟩
            rw [upd_same, yes (.inr e1)]
          · have e2 : decide (l * szOf us i ≤ n) = false := decide_eq_false (by rw [ec]; exact e1)
            rw [e2]
            refine iteF ?_
            refine ⟨sm, ?_⟩
            rw [filt_snoc, if_neg (fun y => (of_decide_eq_true y).elim e0 e1), List.append_nil]
            exact hD
      · rintro H2 ⟨sm, hD⟩
        have hin : ∀ k : Nat, k < us.length → ((k : Int) ∈ (((List.range us.length).filter fun k => decide (k = 0 ∨ szOf us k * l ≤ n)).map fun k : Nat => (k : Int)) ↔ k ≤ placeOf us l n) := fun k hk => by
          rw [← reached g.u g.l1 h0 hk, List.mem_map]
          constructor
          · rintro ⟨j, hj, e⟩
            have ej : j = k := by omega
            subst ej
            exact of_decide_eq_true (List.mem_filter.mp hj).2
          · intro y
            exact ⟨k, List.mem_filter.mpr ⟨List.mem_range.mpr hk, decide_eq_true y⟩, rfl⟩
        have hpm := (hin _ hpl).mpr (Nat.le_refl _)
        refine ⟨D, _, rfl, SqL.of hD, List.length_pos_iff.mpr (fun y => by rw [y] at hpm; simp at hpm), fun m hm hmax => ?_⟩
        obtain ⟨k, hk, rfl⟩ := List.mem_map.mp hm
        have hkl := List.mem_range.mp (List.mem_filter.mp hk).1
        have h1 := (hin k hkl).mp hm
        have h2 := hmax _ hpm
        have ek : k = placeOf us l n := by omega
        subst ek
        exact ⟨sm, rfl⟩
    rintro σ' H1 ⟨s1, rfl⟩
    by_cases hz : placeOf us l n = 0
    · rw [placed_zero g h0 hz] at q
      rw [hz]
      refine ⟨_, rfl, rfl, _, rfl, iteT ?_⟩
      refine ⟨_, rfl, (by show 2 ≤ sizeLine; decide), fun t nt => q t _ (s1.trans (same_upd nt)) (SqT.of upd_same)⟩
    · have hz1 : 1 ≤ placeOf us l n := by omega
      obtain ⟨pm, unf⟩ : ∃ pm, placedM us dn z c l n = pm := ⟨_, rfl⟩
      rw [unf] at q
      unfold placedM isCar at unf
      generalize placeOf us l n = p at hz hz1 hpl unf ⊢
      rw [step_at hz1 hpl] at unf
      have e1 : ¬ decide (V.int (p : Int) = V.int 0) = true := fun y => hz (by have := V.int.inj (of_decide_eq_true y); omega)
      refine ⟨_, rfl, rfl, _, rfl, ite2 (fun y => absurd y e1) (fun _ => ?_)⟩
      obtain ⟨xs, pu, nm, x1, x2, x3, x4, x5, x6⟩ := unit (hU.same s1) hpl
      obtain ⟨k2, k3⟩ := div_step g hz1 hpl
      refine ⟨_, rfl, _, rfl, _, rfl, _, rfl, ua, xs, p, .ref pu, rfl, rfl, x1, x3, pu, _, 1, .int (szOf us p), rfl, rfl, x4, rfl, _, rfl, szOf us p, _, rfl, rfl, ⟨by omega, by omega⟩, n, _, z, rfl, k2, int_lt64 k2 k3, fun H2 s2 => ?_⟩
      have s12 := s1.trans s2
      obtain ⟨xs, pu, nm, x1, x2, x3, x4, x5, x6⟩ := unit (hU.same s12) hpl
      have last : isCar us dn c l p (rnd n (szOf us p / 10 ^ dn) z) = false → pm = (p, rnd n (szOf us p / 10 ^ dn) z) := fun e => by
        unfold isCar at e
        rw [step_at hz1 hpl] at e
        rw [e, if_neg Bool.false_ne_true] at unf
        exact unf.symm
      have endq : isCar us dn c l p (rnd n (szOf us p / 10 ^ dn) z) = false → ∀ t, H2 t = none → Q (.ref t) (upd H2 t (.tup [.int (p : Int), .int (rnd n (szOf us p / 10 ^ dn) z)])) := fun e t nt => by
        have := last e
        subst this
        exact q t _ (s12.trans (same_upd nt)) (SqT.of upd_same)
      refine ⟨_, rfl, c, rfl, ?_⟩
      cases c with
      | false =>
        refine iteF ?_
        refine ⟨_, rfl, _, rfl, (by show 2 ≤ sizeLine; decide), fun t nt => endq rfl t nt⟩
      | true =>
        refine iteT ?_
        refine ⟨_, rfl, p, 1, rfl, rfl, _, rfl, ua, xs, rfl, .inr x1, _, _, rfl, rfl, _, rfl, ite2 (fun e2 => ?_) (fun e2 => ?_)⟩
        · have hp1 : p + 1 < us.length := by
            have e3 : (p : Int) + 1 < (xs.length : Int) := of_decide_eq_true e2
            omega
          obtain ⟨ys, pv', nm', y1, y2, y3, y4, y5, y6⟩ := unit (hU.same s12) hp1
          have ep : ((p : Int) + 1) = ((p + 1 : Nat) : Int) := by omega
          obtain ⟨j2, j3⟩ := div_step g (show 1 ≤ p + 1 by omega) hp1
          have et : (thrsOf us l).getD (p + 1) 0 = szOf us (p + 1) * l := by rw [List.getD_eq_getElem?_getD, thr_at (by omega) hp1]; rfl
          have ec : l * szOf us (p + 1) = szOf us (p + 1) * l := Int.mul_comm _ _
          refine ⟨_, rfl, _, rfl, _, rfl, ua, xs, p, .ref pu, rfl, rfl, x1, x3, pu, _, 1, .int (szOf us p), rfl, rfl, x4, rfl, _, rfl, szOf us p, _, rfl, rfl, ⟨by omega, by omega⟩, _, _, rfl, rfl, .inr ⟨by omega, by omega⟩,
            _, rfl, _, rfl, _, rfl, p, 1, rfl, rfl, ua, ys, ((p : Int) + 1), .ref pv', rfl, rfl, y1, (by rw [ep]; exact y3), pv', _, 1, .int (szOf us (p + 1)), rfl, rfl, y4, rfl, l, _, rfl, rfl, .inl ⟨by omega, by omega⟩, _, _, rfl, rfl, _, rfl, ?_⟩
          rw [Bool.true_and, decide_eq_true hp1, Bool.true_and, et] at unf
          by_cases e4 : szOf us (p + 1) * l ≤ rnd n (szOf us p / 10 ^ dn) z * (szOf us p / 10 ^ dn)
          · have e5 : decide (l * szOf us (p + 1) ≤ rnd n (szOf us p / 10 ^ dn) z * (szOf us p / 10 ^ dn)) = true := decide_eq_true (by rw [ec]; exact e4)
            rw [e5]
            refine iteT ?_
            rw [if_pos (decide_eq_true e4), step_at (by omega) hp1] at unf
            refine ⟨_, rfl, p, 1, rfl, rfl, _, rfl, _, rfl, _, rfl, _, rfl, p, 1, rfl, rfl, ua, ys, ((p : Int) + 1), .ref pv', rfl, rfl, y1, (by rw [ep]; exact y3), pv', _, 1, .int (szOf us (p + 1)), rfl, rfl, y4, rfl, _, rfl, szOf us (p + 1), _, rfl, rfl, ⟨by omega, by omega⟩, n, _, z, rfl, j2, int_lt64 j2 j3, fun H3 s3 => ?_⟩
            refine ⟨(by show 2 ≤ sizeLine; decide), fun t nt => ?_⟩
            subst unf
            refine q t _ ((s12.trans s3).trans (same_upd nt)) ?_
            show SqT K _ t [.int ((p + 1 : Nat) : Int), _]
            rw [← ep]
            exact SqT.of upd_same
          · have e5 : decide (l * szOf us (p + 1) ≤ rnd n (szOf us p / 10 ^ dn) z * (szOf us p / 10 ^ dn)) = false := decide_eq_false (by rw [ec]; exact e4)
            rw [e5]
            refine iteF ?_
            refine ⟨_, rfl, _, rfl, (by show 2 ≤ sizeLine; decide), fun t nt => endq ?_ t nt⟩
            unfold isCar
            rw [Bool.true_and, decide_eq_true hp1, Bool.true_and, et, step_at hz1 hpl, decide_eq_false e4]
        · have hp1 : ¬ p + 1 < us.length := fun y => e2 (decide_eq_true (by rw [x2]; omega))
          refine ⟨_, rfl, _, rfl, (by show 2 ≤ sizeLine; decide), fun t nt => endq ?_ t nt⟩
          unfold isCar
          rw [decide_eq_false hp1, Bool.false_and, Bool.and_false]
end
end My

namespace My
open PySem PySem.Spec PyProof.Rows L2
abbrev sLWrit : Stmt := top 106
abbrev sLSeen : Stmt := top 107
abbrev nLWrit : List Str := ["_law_told_here", "_law_at", "_law_mark", "_law_line", "_law_power"]
abbrev nLSeen : List Str := ["_law_told_here", "_law_top_here", "_law_at", "_law_mark"]
theorem scLWrit : FnScope nLWrit ["_law_told_here", "_law_at", "_law_mark"] (defScope sLWrit) := ⟨rfl, rfl, rfl, by decide +kernel, rfl, by decide +kernel, by decide +kernel⟩
theorem scLSeen : FnScope nLSeen ["_law_told_here", "_law_top_here"] (defScope sLSeen) := ⟨rfl, rfl, rfl, by decide +kernel, rfl, by decide +kernel, by decide +kernel⟩
section
variable {P : Program} {w : World} {K : PySem.W.Frag} {mg : Str → Option Value} {base : Heap}
theorem ok_lwrit (d : Dd K mg "_law_written" sLWrit ["_law_told_here", "_law_at", "_law_mark"]) (B : Bt mg) : FnOk P w K mg base CX0 2 d.f d.fd ["_law_told_here", "_law_at", "_law_mark"] (spLWrit K) := by
  refine d.F.ok scLWrit (fun vs H Q E h => ?_) (fun cdv A outer s H vs Q E hr h => ?_)
  · obtain ⟨_, _, _, _, _, _, _, _, rfl, _⟩ := h
    rfl
  · obtain ⟨r, us, dn, z, c, l, p, m, rfl, ⟨ua, hr0, ⟨ps, hua, hu⟩⟩, g, hlt, hm, hm2, q⟩ := h
    have nd := scLWrit.nd
    refine ⟨_, pss_cons (ps_par (i := 3) (j := 4) rfl nd rfl rfl (by decide) rfl rfl (pa_cons (pe_callTy call_str_int (by rfl) B.str (by decide +kernel) (pa_cons (pv 2) pa_nil)) (pa_cons (pe_ix ix_tup (pv 0) pe_int (fun _ _ => rfl)) pa_nil)) rfl)
      (Evl.pss_cut (ps_if (PW.pt (pw_and (pt_cmpR op_gt (pv 1) pe_int (nomark _)) (pw_and1 (pt_cmpR op_gt (pv 4) pe_int (nomark _)))))
        (pss_cons (ps_set (i := 3) nd rfl (.inl rfl) (pe_op op_add_str (pe_op op_mul_str pe_str (pe_op op_sub (pe_op op_add (pv 4) pe_int) (pe_callB call_len_str (by rfl) B.len PySem.boot_len (pa_cons (pv 3) pa_nil)))) (pv 3)))
        (pss_one (ps_set (i := 3) nd rfl (.inl rfl) (pe_op op_add_str (pe_op op_add_str (pe_slice sl_str (pv 3) po_none (po_some (pe_op op_sub (pe_callB call_len_str (by rfl) B.len PySem.boot_len (pa_cons (pv 3) pa_nil)) (pv 4)))) pe_str)
          (pe_slice sl_str (pv 3) (po_some (pe_op op_sub (pe_callB call_len_str (by rfl) B.len PySem.boot_len (pa_cons (pv 3) pa_nil)) (pv 4))) po_none))))) pss_nil)
      (pss_one (ps_ret (pe_op op_add_str (pv 3) (pe_ix ix_tup (pe_ix ix_tup (pe_ix ix_tup (pv 0) pe_int (fun _ _ => rfl)) (pv 1) (fun _ _ => rfl)) pe_int (fun _ _ => rfl)))))), ?_⟩
    obtain ⟨u, hu2⟩ : ∃ u, us[p]? = some u := ⟨us[p], List.getElem?_eq_getElem hlt⟩
    obtain ⟨pu, hpu, hsu⟩ := paired_at hu hu2
    have eN : (us.getD p ("", 0)).1 = u.1 := by rw [List.getD_eq_getElem?_getD, hu2]; rfl
    have lN : u.1.length ≤ 3 := (g.u.each p u hu2).1.1
    have hm3 : m.natAbs < 10 ^ 40 := by omega
    have ld := dg_small hm3
    have hp1 := dg_pos hm
    have lds : (Str.ofString (toString m)).length = (dg m).length := str_len _
    have d3 := g.d3
    unfold writ at q
    rw [eN] at q
    have hlog : m.natAbs.log2 < 1920 := Nat.lt_of_lt_of_le (PySem.Flt.log2_lt_of (k := 200) (by decide) (Nat.lt_trans hm3 (by decide))) (by decide)
    refine ⟨_, rfl, m, rfl, hlog, _, rfl, r, _, 1, .int (dn : Int), rfl, rfl, hr0, rfl, _, _, rfl, ?_⟩
    have fin : ∀ y : Str, y.length ≤ 50 → Q (.str (y ++ u.1)) H → _ := fun y ly qy => (⟨y, ly, qy⟩ : ∃ y : Str, y.length ≤ 50 ∧ Q (.str (y ++ u.1)) H)
    refine ⟨fun σ' H' => H' = H ∧ ∃ y : Str, y.length ≤ 50 ∧ Q (.str (y ++ u.1)) H ∧ σ' = [some (.ref r), some (.int (p : Int)), some (.int m), some (.str y), some (.int (dn : Int))], ?_, ?_⟩
    · have plain : (p = 0 ∨ dn = 0) → ∃ y : Str, y.length ≤ 50 ∧ Q (.str (y ++ u.1)) H ∧ [some (.ref r), some (.int (p : Int)), some (.int m), some (.str (Str.ofString (toString m))), some (V.int (dn : Int))] = [some (.ref r), some (.int (p : Int)), some (.int m), some (.str y), some (.int (dn : Int))] := fun e => by
        rw [if_pos e] at q
        exact ⟨_, by omega, q, rfl⟩
      refine ⟨_, rfl, p, 0, rfl, rfl, _, rfl, ite2 (fun e => ?_) (fun e => ?_)⟩
      · have e0 : ¬ p = 0 := by have e' : (0 : Int) < (p : Int) := of_decide_eq_true e; omega
        refine ⟨_, rfl, dn, 0, rfl, rfl, _, rfl, ite2 (fun e1 => ?_) (fun e1 => ?_)⟩
        · have e2 : ¬ dn = 0 := by have e' : (0 : Int) < (dn : Int) := of_decide_eq_true e1; omega
          rw [if_neg (fun z => z.elim e0 e2)] at q
          have ez : (Txt.mul ("0" : Str) ((dn : Int) + 1 - ((Str.ofString (toString m)).length : Int)) ++ Str.ofString (toString m)).cps.toList = zf dn m := by
            rw [str_app, mul_zero]
            show List.replicate _ 48 ++ dg m = zf dn m
            unfold zf
            rw [lds, show ((dn : Int) + 1 - ((dg m).length : Int)).toNat = dn + 1 - (dg m).length by omega]
          have lm : (Txt.mul ("0" : Str) ((dn : Int) + 1 - ((Str.ofString (toString m)).length : Int))).length ≤ 4 := by
            rw [str_len, mul_zero, List.length_replicate]
            omega
          refine ⟨_, rfl, (dn : Int), 1, rfl, rfl, _, rfl, _, rfl, by rw [lds]; exact Nat.le_trans ld (by decide), _, _, rfl, rfl, "0", _, rfl, rfl, mul_ok (by rw [lds]; omega) (by omega), _, rfl, _, _, rfl, rfl, ?_, ?_⟩
          · rw [lds]
            exact Nat.le_trans (Nat.add_le_add lm ld) (by decide)
          generalize (Txt.mul ("0" : Str) ((dn : Int) + 1 - ((Str.ofString (toString m)).length : Int)) ++ Str.ofString (toString m)) = zz at ez ⊢
          have lz : zz.length = (zf dn m).length := by rw [str_len, ez]
          have lzf : (zf dn m).length ≤ 41 ∧ dn + 1 ≤ (zf dn m).length := by rw [zf_len]; omega
          have lz41 : zz.length ≤ sizeLine := by rw [lz]; exact Nat.le_trans lzf.1 (by decide)
          have ei : ((zz.length : Int) - (dn : Int)) = (((zf dn m).length - dn : Nat) : Int) := by rw [lz]; omega
          have c1 : (cutS zz none (some ((zz.length : Int) - (dn : Int)))).cps.toList = (zf dn m).take ((zf dn m).length - dn) := by rw [ei, cut_ton (by rw [ez]; omega), ez]
          have c2 : (cutS zz (some ((zz.length : Int) - (dn : Int))) none).cps.toList = (zf dn m).drop ((zf dn m).length - dn) := by rw [ei, cut_fromn (by rw [ez]; omega), ez]
          have lc1 : (cutS zz none (some ((zz.length : Int) - (dn : Int)))).length ≤ 41 := by rw [str_len, c1, List.length_take]; omega
          have lc2 : (cutS zz (some ((zz.length : Int) - (dn : Int))) none).length ≤ 41 := by rw [str_len, c2, List.length_drop]; omega
          have fin2 : (cutS zz none (some ((zz.length : Int) - (dn : Int))) ++ ("." : Str) ++ cutS zz (some ((zz.length : Int) - (dn : Int))) none) = (⟨(body dn m).toArray⟩ : Str) := by
            refine str_ext ?_
            rw [str_app, str_app, c1, c2, List.append_assoc]
            rfl
          have lp : (cutS zz none (some ((zz.length : Int) - (dn : Int))) ++ ("." : Str)).length ≤ 42 := by
            rw [str_len, str_app, List.length_append, ← str_len]
            exact Nat.add_le_add lc1 (Nat.le_refl 1)
          refine ⟨_, rfl, _, rfl, zz, rfl, lz41, _, rfl, _, _, rfl, rfl, _, rfl, zz, rfl, lz41, _, ".", rfl, rfl, Nat.le_trans (Nat.add_le_add lc1 (Nat.le_refl 1)) (by decide), ?_⟩
          refine ⟨_, rfl, _, rfl, zz, rfl, lz41, _, rfl, _, _, rfl, rfl, _, rfl, zz, rfl, lz41, _, _, rfl, rfl, Nat.le_trans (Nat.add_le_add lp lc2) (by decide), rfl, ⟨(body dn m).toArray⟩, ?_, q, ?_⟩
          · show (body dn m).toArray.size ≤ 50
            rw [List.size_toArray]
            unfold body
            rw [List.length_append, List.length_take, List.length_cons, List.length_drop]
            omega
          · rw [← fin2]
            rfl
        · have e2 : dn = 0 := by
            have e' : ¬ (0 : Int) < (dn : Int) := fun y => e1 (decide_eq_true y)
            omega
          exact ⟨rfl, plain (.inr e2)⟩
      · have e0 : p = 0 := by
          have e' : ¬ (0 : Int) < (p : Int) := fun y => e (decide_eq_true y)
          omega
        exact ⟨rfl, plain (.inl e0)⟩
    · rintro σ' H' ⟨rfl, y, ly, qy, rfl⟩
      exact ⟨_, rfl, _, rfl, r, _, 0, .ref ua, rfl, rfl, hr0, rfl, _, rfl, ua, _, p, .ref pu, rfl, rfl, hua, atI_nat (get_ref hpu), pu, _, 0, .str u.1, rfl, rfl, hsu, rfl, y, u.1, rfl, rfl, Nat.le_trans (Nat.add_le_add ly lN) (by decide), qy⟩
theorem ok_lseen (d : Dd K mg "_law_seen" sLSeen ["_law_told_here", "_law_top_here"]) (dP : Dd K mg "_law_parts" sLParts ["_law_told_here", "_law_top_here"]) (dW : Dd K mg "_law_written" sLWrit ["_law_told_here", "_law_at", "_law_mark"]) (dR : Dd K mg "_law_rounded" sLRnd ["_law_sort", "_law_top_here", "_law_step"]) (B : Bt mg) :
    FnOk P w K mg base CX0 4 d.f d.fd ["_law_told_here", "_law_top_here"] (spLSeen K) := by
  have GP : FnOk P w K mg base CX0 3 dP.f dP.fd ["_law_told_here", "_law_top_here"] (spLParts K) := ok_lparts dP dR B
  have GW : FnOk P w K mg base CX0 2 dW.f dW.fd ["_law_told_here", "_law_at", "_law_mark"] (spLWrit K) := ok_lwrit dW B
  refine d.F.ok scLSeen (fun vs H Q E h => ?_) (fun cdv A outer s H vs Q E hr h => ?_)
  · obtain ⟨_, _, _, _, _, _, _, rfl, _⟩ := h
    rfl
  · obtain ⟨r, us, dn, z, c, l, n, rfl, hT, g, h0, hn, q⟩ := h
    have hr1 : Room 2 _ := hr.mono (by decide)
    have nd := scLSeen.nd
    refine ⟨_, pss_cons (ps_asg (pe_call GP hr (by rfl) dP.g dP.F.kp dP.b .nil pass0 (pa_cons (pv 0) (pa_cons (pv 1) pa_nil))) (pg_tup rfl (pgs_cons (pg_name (i := 2) nd rfl (.inl rfl)) (pgs_cons (pg_name (i := 3) nd rfl (.inl rfl)) pgs_nil))))
      (pss_one (ps_ret (pe_call GW hr1 (by rfl) dW.g dW.F.kp dW.b .nil pass0 (pa_cons (pv 0) (pa_cons (pv 2) (pa_cons (pv 3) pa_nil)))))), ?_⟩
    obtain ⟨k1, k2, k3⟩ := placedM_ok (c := c) g h0
    refine ⟨_, rfl, _, rfl, r, us, dn, z, c, l, n, rfl, hT, g, h0, hn, fun t H1 s1 ht => ?_⟩
    refine ⟨t, _, rfl, ht, rfl, _, _, rfl, _, _, rfl, rfl, ?_⟩
    exact ⟨_, rfl, _, rfl, _, rfl, r, us, dn, z, c, l, _, _, rfl, hT.same s1, g, k1, k2, by omega, q H1 s1⟩
end
end My

namespace My
open PySem PySem.Spec PyProof.Rows L2
section
variable {X : Cx} {CX : CXT} {k : Nat} {f : Addr} {fd : FuncData} {ps ks : List Str} {sp : Sp} {E : XK} {x : Str} {p pos : Pos} {kws : List Keyword} {tk : TA} {g : List Value → List Value → List Value} {gV : List V → List V → List V}
/-- f(k = v, ..) -/
theorem pe_callN0 (F : FnOk X.prog X.w X.K X.mg X.base CX k f fd ps sp) (hr : Room k X.A) (hg : Gl X x) (hm : X.mg x = some (.ref f)) (hk : PySem.W.keepIn X.K (.ref f) = true) (hb : KBn X.K fd ps 0 ks g gV) (hx : Passes CX X E)
    (hkw : PK X kws tk) (hall : (backToKw pos (keywordEach kws X.env)).all (·.1.isSome) = true := by rfl) (hks : (backToKw pos (keywordEach kws X.env)).filterMap (·.1) = ks := by rfl) (hdb : (x == ("__debug__" : Str)) = false := by decide)
    (hpl : ((backTo pos (starEach [] X.env)).any (·.1) || (backToKw pos (keywordEach kws X.env)).any (·.1.isNone)) = false := by rfl) : PE X (.Call (.Name x p) [] kws pos) (tCallN 0 ks.length sp gV E tNil tk) := by
  constructor
  intro pins s σ H Q I h
  refine wpAny_Call_Name_kw (ld_glob I hg hm (PySem.W.callWith_KW0 (h₀ := X.base) I.ok.mod.kin hk hall (thn (hkw.run pos pins s σ H _ I h) ?_) hpl) hdb)
  rintro ws s2 ⟨zs, H2, I2, rz, l1, l2, q2⟩
  refine ⟨I2.kIn, ?_⟩
  subst hks
  exact run_fnN (us := []) (vs := []) F hr hb hx I2 .nil rz l1 l2 q2
end
abbrev sTop : Stmt := top 109
abbrev nTop : List Str := ["_law_spring_here", "_law_told_here", "_law_way", "_law_unit_here", "_law_step", "_law_near_here", "_law_half"]
theorem scTop : FnScope nTop ["_law_spring_here", "_law_told_here"] (defScope sTop) := ⟨rfl, rfl, rfl, by decide +kernel, rfl, by decide +kernel, by decide +kernel⟩
def spTop (K : PySem.W.Frag) : Sp := fun vs H Q _ => ∃ (a r : Addr) (us : List (Str × Int)) (d : Nat) (s : Str) (c : Bool) (l : Int), vs = [.ref a, .ref r] ∧ Spr H a ∧ ToldAt K H r us d s c l ∧ Good us d s l ∧
  ∀ (n : Int) (H' : Hp), 0 ≤ n → n ≤ 1000000000000000000 → But a H H' → Spr H' a → Q (.int n) H'
def spSomeT (K : PySem.W.Frag) : Sp := fun vs H Q _ => ∃ (a t : Addr) (xs : List V), vs = [.ref a, .ref t] ∧ Spr H a ∧ SqT K H t xs ∧ xs ≠ [] ∧ xs.length < 1000 ∧
  ∀ (v : V) (H' : Hp), v ∈ xs → Spr H' a → But a H H' → Q v H'
theorem clamp (v : Int) : 0 ≤ (if (if v < 1000000000000000000 then v else 1000000000000000000) > 0 then (if v < 1000000000000000000 then v else 1000000000000000000) else 0) ∧ (if (if v < 1000000000000000000 then v else 1000000000000000000) > 0 then (if v < 1000000000000000000 then v else 1000000000000000000) else 0) ≤ (1000000000000000000 : Int) := by
  split <;> split at * <;> omega
section
variable {P : Program} {w : World} {K : PySem.W.Frag} {mg : Str → Option Value} {base : Heap}
theorem ok_someT (d : Dd K mg "_law_some_of" sSome ["_law_spring_here", "_law_things"]) (dG : Dd K mg "_law_gulp" sGulp ["_law_spring_here", "_law_many"]) (B : Bt mg) : FnOk P w K mg base CX0 3 d.f d.fd ["_law_spring_here", "_law_things"] (spSomeT K) := by
  have G : FnOk P w K mg base CX0 2 dG.f dG.fd ["_law_spring_here", "_law_many"] spGulp := ok_gulp dG.F B
  refine d.F.ok scSome (fun vs H Q E h => ?_) (fun cdv A outer s H vs Q E hr h => ?_)
  · obtain ⟨_, _, _, rfl, _⟩ := h
    rfl
  · obtain ⟨a, t, xs, rfl, ha, ht, hne, hlen, k⟩ := h
    refine ⟨_, pss_one (ps_ret (pe_ix ix_tup (pv 1) (pe_call G hr (by rfl) dG.g dG.F.kp dG.b .nil pass0 (pa_cons (pv 0) (pa_cons (pe_callB call_len_seq (by rfl) B.len PySem.boot_len (pa_cons (pv 1) pa_nil)) pa_nil))) (fun _ _ => rfl))), ?_⟩
    have hpos : 0 < xs.length := List.length_pos_iff.mpr hne
    refine ⟨_, rfl, _, rfl, _, rfl, t, xs, rfl, .inr ht, a, _, rfl, ha, by omega, by omega, fun r H' h0 h1 s' b' => ?_⟩
    obtain ⟨i, rfl⟩ : ∃ i : Nat, r = (i : Int) := ⟨r.toNat, by omega⟩
    have hi : i < xs.length := by omega
    exact ⟨t, xs, i, xs[i], rfl, rfl, b'.sqtS ha ht, atI_nat (List.getElem?_eq_getElem hi), k _ _ (List.getElem_mem hi) s' b'⟩
theorem ok_top (d : Dd K mg "_law_top" sTop ["_law_spring_here", "_law_told_here"]) (dS : Dd K mg "_law_some_of" sSome ["_law_spring_here", "_law_things"]) (dG : Dd K mg "_law_gulp" sGulp ["_law_spring_here", "_law_many"]) (B : Bt mg) :
    FnOk P w K mg base CX0 4 d.f d.fd ["_law_spring_here", "_law_told_here"] (spTop K) := by
  have G : FnOk P w K mg base CX0 2 dG.f dG.fd ["_law_spring_here", "_law_many"] spGulp := ok_gulp dG.F B
  have GS : FnOk P w K mg base CX0 3 dS.f dS.fd ["_law_spring_here", "_law_things"] (spSome K) := ok_some dS.F dG.F dG.b dG.g B
  have GT : FnOk P w K mg base CX0 3 dS.f dS.fd ["_law_spring_here", "_law_things"] (spSomeT K) := ok_someT dS dG B
  refine d.F.ok scTop (fun vs H Q E h => ?_) (fun cdv A outer s H vs Q E hr h => ?_)
  · obtain ⟨_, _, _, _, _, _, _, rfl, _⟩ := h
    rfl
  · obtain ⟨a, r, us, dn, z, c, l, rfl, hS, hT, g, q⟩ := h
    have hr1 : Room 2 _ := hr.mono (by decide)
    have nd := scTop.nd
    refine ⟨_, pss_cons (ps_par (i := 2) (j := 3) rfl nd rfl rfl (by decide) rfl rfl (pa_cons (pe_call G hr1 (by rfl) dG.g dG.F.kp dG.b .nil pass0 (pa_cons (pv 0) (pa_cons pe_int pa_nil))) (pa_cons (pe_call GT hr (by rfl) dS.g dS.F.kp dS.b .nil pass0 (pa_cons (pv 0) (pa_cons (pe_ix ix_tup (pv 1) pe_int (fun _ _ => rfl)) pa_nil))) pa_nil)) rfl)
      (pss_cons (ps_set (i := 4) nd rfl (.inl rfl) (pe_callB (call_max2 rfl) (by rfl) B.max (by decide +kernel) (pa_cons pe_int (pa_cons (pe_op op_fdiv (pe_ix ix_tup (pv 3) pe_int (fun _ _ => rfl)) (pe_ix ix_list (pe_lst (pa_cons pe_int (pa_cons pe_int (pa_cons pe_int (pa_cons pe_int pa_nil))))) (pe_ix ix_tup (pv 1) pe_int (fun _ _ => rfl)) (fun _ _ => rfl))) pa_nil))))
      (pss_cons (ps_set (i := 5) nd rfl (.inl rfl) (pe_op op_sub (pe_call G hr1 (by rfl) dG.g dG.F.kp dG.b .nil pass0 (pa_cons (pv 0) (pa_cons pe_int pa_nil))) pe_int))
      (pss_cons (ps_if (pt_cmpR op_eq (pv 2) pe_int (nomark _)) (pss_one (ps_ret (pe_call G hr1 (by rfl) dG.g dG.F.kp dG.b .nil pass0 (pa_cons (pv 0) (pa_cons (pe_call GS hr (by rfl) dS.g dS.F.kp dS.b .nil pass0 (pa_cons (pv 0) (pa_cons (pe_lst (pa_cons pe_int (pa_cons pe_int (pa_cons (pe_op op_pow pe_int pe_int) (pa_cons (pe_op op_pow pe_int pe_int) pa_nil))))) pa_nil))) pa_nil))))) pss_nil)
      (pss_cons (ps_if (pt_cmpR op_eq (pv 2) pe_int (nomark _)) (pss_one (ps_ret (pe_callB (call_max2 rfl) (by rfl) B.max (by decide +kernel) (pa_cons pe_int (pa_cons (pe_callB (call_min2 rfl) (by rfl) B.min (by decide +kernel) (pa_cons (pe_op op_pow pe_int pe_int) (pa_cons
          (pe_op op_add (pe_op op_mul (pe_ix ix_tup (pv 1) pe_int (fun _ _ => rfl)) (pe_ix ix_tup (pv 3) pe_int (fun _ _ => rfl))) (pv 5)) pa_nil))) pa_nil))))) pss_nil)
      (pss_cons (ps_if (pt_cmpR op_eq (pv 2) pe_int (nomark _)) (pss_one (ps_ret (pe_callB (call_max2 rfl) (by rfl) B.max (by decide +kernel) (pa_cons pe_int (pa_cons (pe_callB (call_min2 rfl) (by rfl) B.min (by decide +kernel) (pa_cons (pe_op op_pow pe_int pe_int) (pa_cons
          (pe_op op_add (pe_op op_sub (pe_op op_mul (pe_ix ix_tup (pv 1) pe_int (fun _ _ => rfl)) (pe_ix ix_tup (pv 3) pe_int (fun _ _ => rfl))) (pe_op op_fdiv (pv 4) pe_int)) (pv 5)) pa_nil))) pa_nil))))) pss_nil)
      (pss_cons (ps_set (i := 6) nd rfl (.inl rfl) (pe_op op_mul (pe_op op_fdiv (pv 4) pe_int) (pe_op op_add pe_int (pe_op op_mul pe_int (pe_call G hr1 (by rfl) dG.g dG.F.kp dG.b .nil pass0 (pa_cons (pv 0) (pa_cons pe_int pa_nil)))))))
      (pss_one (ps_ret (pe_callB (call_max2 rfl) (by rfl) B.max (by decide +kernel) (pa_cons pe_int (pa_cons (pe_callB (call_min2 rfl) (by rfl) B.min (by decide +kernel) (pa_cons (pe_op op_pow pe_int pe_int) (pa_cons
          (pe_op op_add (pe_ifExp (pt_cmpR op_eq (pv 2) pe_int (nomark _)) (pv 6) (pe_op op_mul (pv 4) (pe_call G hr1 (by rfl) dG.g dG.F.kp dG.b .nil pass0 (pa_cons (pv 0) (pa_cons pe_int pa_nil))))) (pv 5)) pa_nil))) pa_nil))))))))))), ?_⟩
    have plo := pow_lo dn
    have phi := pow_hi g.d3
    refine ⟨_, rfl, a, 5, rfl, hS, by decide, by decide, fun way H1 w0 w1 s1 b1 => ?_⟩
    obtain ⟨ua, hr1', ps, hua, hu⟩ := hT.but hS b1
    have el := UP.len hu
    have hlo := g.u.lo
    refine ⟨_, rfl, _, rfl, r, _, 0, .ref ua, rfl, rfl, hr1', rfl, a, ua, _, rfl, s1, hua, (fun y => by
      have e : (ps.map V.ref).length = 0 := by rw [y]; rfl
      rw [List.length_map] at e
      omega), (by rw [List.length_map, el]; have := g.u.hi; omega), fun v H2 hv s2 b2 => ?_⟩
    obtain ⟨pu, hpu, rfl⟩ := List.mem_map.mp hv
    obtain ⟨j, hj⟩ := List.getElem?_of_mem hpu
    obtain ⟨u, hu2, hsu⟩ := paired_fst hu hj
    obtain ⟨_, z1, z2, _⟩ := g.u.each j u hu2
    have hsu2 := b2.sqtS s1 hsu
    have hr2 := b2.sqtS s1 hr1'
    refine ⟨_, _, rfl, ?_⟩
    -- step
    refine ⟨_, rfl, pu, _, 1, .int u.2, rfl, rfl, hsu2, rfl, (by show 4 ≤ sizeLine; decide), fun p np => ?_⟩
    have sp := same_upd np (o := .lst [.int 1, .int 10, .int 100, .int 1000])
    have q1 := Int.ediv_nonneg (a := u.2) (b := 10 ^ dn) (by omega) (by omega)
    have q2 := Int.ediv_le_self (a := u.2) (10 ^ dn) (by omega)
    refine ⟨_, rfl, r, _, 1, .int (dn : Int), rfl, rfl, same_sqt sp hr2, rfl, p, _, dn, _, rfl, rfl, SqL.of upd_same, parts_at g.d3, u.2, _, rfl, rfl, ⟨by omega, by omega⟩, 1, _, rfl, ?_⟩
    have hst : ∃ st : Int, (if u.2 / 10 ^ dn > 1 then u.2 / 10 ^ dn else 1) = st ∧ 1 ≤ st ∧ st ≤ 1000000000000000000 := ⟨_, rfl, by split <;> omega, by split <;> omega⟩
    obtain ⟨st, est, st1, st2⟩ := hst
    rw [est]
    have s2p := s2.same sp
    have b02 := (b1.trans b2).trans (Same.but sp)
    refine ⟨_, rfl, a, 5, rfl, s2p, by decide, by decide, fun nr H3 n0 n1 s3 b3 => ⟨nr, 2, rfl, rfl, ?_⟩⟩
    have b03 := b02.trans b3
    have hsu3 := b3.sqtS s2p (same_sqt sp hsu2)
    have hr3 := b3.sqtS s2p (same_sqt sp hr2)
    have hl1 := g.l1
    have hl2 := g.l2
    have e18 : ((10 : Int) ^ (18 : Int).toNat) = 1000000000000000000 := by decide
    refine ⟨_, rfl, rfl, _, rfl, ite2 (fun _ => ?_) (fun _ => ?_)⟩
    · refine ⟨_, rfl, _, rfl, 10, 7, rfl, rfl, ⟨by decide, by decide, by decide⟩, 10, 18, rfl, rfl, ⟨by decide, by decide, by decide⟩, (by show 4 ≤ sizeLine; decide), fun p2 np2 => ?_⟩
      have sp2 := same_upd np2 (o := .lst [.int 20, .int 3000, .int ((10 : Int) ^ (7 : Int).toNat), .int ((10 : Int) ^ (18 : Int).toNat)])
      have np2a : p2 ≠ a := by
        obtain ⟨_, _, _, e⟩ := s3
        exact (ne_of_none e np2).symm
      refine ⟨a, p2, _, rfl, s3.same sp2, .inl (SqL.of upd_same), np2a, by simp, (by show 4 < 1000; decide), fun v H4 hv s4 b4 => ?_⟩
      obtain ⟨m, hm1, hm2, rfl⟩ : ∃ m : Int, 1 ≤ m ∧ m ≤ 1000000000000000000 ∧ v = .int m := by
        have hv' : v = .int 20 ∨ v = .int 3000 ∨ v = .int ((10 : Int) ^ (7 : Int).toNat) ∨ v = .int ((10 : Int) ^ (18 : Int).toNat) := by simpa using hv
        rcases hv' with rfl | rfl | rfl | rfl
        · exact ⟨_, by decide, by decide, rfl⟩
        · exact ⟨_, by decide, by decide, rfl⟩
        · exact ⟨_, by decide, by decide, rfl⟩
        · exact ⟨_, by decide, by decide, rfl⟩
      exact ⟨a, m, rfl, s4, by omega, by omega, fun n H5 k0 k1 s5 b5 => q n H5 k0 (by omega) (((b03.trans (Same.but sp2)).trans b4).trans b5) s5⟩
    refine ⟨_, rfl, rfl, _, rfl, ite2 (fun _ => ?_) (fun _ => ?_)⟩
    · refine ⟨10, 18, rfl, rfl, ⟨by decide, by decide, by decide⟩, _, rfl, r, _, 4, .int l, rfl, rfl, hr3, rfl, _, rfl, pu, _, 1, .int u.2, rfl, rfl, hsu3, rfl, l, _, rfl, rfl, .inl ⟨by omega, by omega⟩, _, rfl, _, _, rfl, rfl, _, _, rfl, 0, _, rfl, ?_⟩
      obtain ⟨c1, c2⟩ := clamp (l * u.2 + (nr - 2))
      exact q _ H3 c1 c2 b03 s3
    refine ⟨_, rfl, rfl, _, rfl, ite2 (fun _ => ?_) (fun _ => ?_)⟩
    · refine ⟨10, 18, rfl, rfl, ⟨by decide, by decide, by decide⟩, _, rfl, r, _, 4, .int l, rfl, rfl, hr3, rfl, _, rfl, pu, _, 1, .int u.2, rfl, rfl, hsu3, rfl, l, _, rfl, rfl, .inl ⟨by omega, by omega⟩, _, rfl, st, 2, rfl, rfl, ⟨by decide, by decide⟩, _, _, rfl, rfl, _, rfl, _, _, rfl, rfl, _, _, rfl, 0, _, rfl, ?_⟩
      obtain ⟨c1, c2⟩ := clamp (l * u.2 - st / 2 + (nr - 2))
      exact q _ H3 c1 c2 b03 s3
    refine ⟨_, rfl, st, 2, rfl, rfl, ⟨by decide, by decide⟩, _, rfl, a, 3000, rfl, s3, by decide, by decide, fun h1 H4 h10 h11 s4 b4 => ⟨2, h1, rfl, rfl, .inl ⟨by decide, by decide⟩, 1, _, rfl, rfl, _, _, rfl, rfl, .inl ⟨by omega, by omega⟩, ?_⟩⟩
    refine ⟨10, 18, rfl, rfl, ⟨by decide, by decide, by decide⟩, _, rfl, rfl, _, rfl, ite2 (fun _ => ?_) (fun _ => ?_)⟩
    · refine ⟨_, rfl, _, rfl, _, _, rfl, rfl, _, _, rfl, 0, _, rfl, ?_⟩
      obtain ⟨c1, c2⟩ := clamp (st / 2 * (1 + 2 * h1) + (nr - 2))
      exact q _ H4 c1 c2 (b03.trans b4) s4
    · refine ⟨_, rfl, _, rfl, a, 3000, rfl, s4, by decide, by decide, fun h2 H5 h20 h21 s5 b5 => ⟨st, h2, rfl, rfl, .inl ⟨by omega, by omega⟩, _, rfl, _, _, rfl, rfl, _, _, rfl, 0, _, rfl, ?_⟩⟩
      obtain ⟨c1, c2⟩ := clamp (st * h2 + (nr - 2))
      exact q _ H5 c1 c2 ((b03.trans b4).trans b5) s5
end
end My

namespace My
open PySem PySem.Spec PyProof.Rows L2
/-! ### a figure is read back -/
theorem digit_noletter {c : Nat} (h : 48 ≤ c ∧ c ≤ 57) : letters.cps.contains c = false := by
  have h1 : ∀ k, k < 10 → letters.cps.contains (48 + k) = false := by decide +kernel
  have h2 := h1 (c - 48) (by omega)
  rw [show 48 + (c - 48) = c by omega] at h2
  exact h2
theorem take_rev {goes : Nat → Bool} : ∀ {N D : List Nat}, (∀ c ∈ N, goes c = true) → (∀ c, D.head? = some c → goes c = false) → (N ++ D).takeWhile goes = N
  | [], D, _, hd => by
    rw [List.nil_append]
    cases D with
    | nil => rfl
    | cons c r =>
      have := hd c rfl
      rw [List.takeWhile_cons, this]
      rfl
  | c :: N, D, hn, hd => by
    rw [List.cons_append, List.takeWhile_cons, hn c (List.mem_cons_self ..), if_pos rfl, take_rev (fun x hx => hn x (List.mem_cons_of_mem _ hx)) hd]
/-- t.rstrip(LETTERS): what stands ahead of the name -/
theorem rstrip_name {t : Str} {D N : List Nat} (ht : t.cps.toList = D ++ N) (hN : ∀ c ∈ N, letters.cps.contains c = true) (hD : ∀ c, D.getLast? = some c → 48 ≤ c ∧ c ≤ 57) : (Txt.rstripChars t letters).cps.toList = D := by
  unfold Txt.rstripChars
  rw [stripBy_eq]
  have e1 : stripLo (letters.cps.contains ·) false t = 0 := rfl
  have e2 : stripHi (letters.cps.contains ·) true t 0 = D.length := by
    show t.length - ((t.cps.toList.drop 0).reverse.takeWhile (letters.cps.contains ·)).length = _
    rw [List.drop_zero, ht, List.reverse_append, take_rev (fun c hc => hN c (List.mem_reverse.mp hc)) (fun c hc => ?_), List.length_reverse, str_len, ht, List.length_append]
    · omega
    · rw [List.head?_reverse] at hc
      exact digit_noletter (hD c hc)
  show (Builtin.Str.strSub t (stripLo (letters.cps.contains ·) false t) (stripHi (letters.cps.contains ·) true t (stripLo (letters.cps.contains ·) false t))).cps.toList = D
  rw [e1, e2]
  unfold Builtin.Str.strSub
  rw [Array.toList_extract, List.extract_eq_drop_take, ht]
  simp
theorem repl_filter : ∀ l : List Nat, PySem.StrLaws.replL [46] [] l = l.filter (fun c => c != 46)
  | [] => by rw [PySem.StrLaws.replL_nil]; rfl
  | c :: r => by
    by_cases h : c = 46
    · subst h
      rw [PySem.StrLaws.replL_hit (by simp) rfl, List.filter_cons]
      show [] ++ PySem.StrLaws.replL [46] [] r = _
      rw [repl_filter r]
      rfl
    · rw [PySem.StrLaws.replL_miss (by simp [h]), repl_filter r, List.filter_cons, if_pos (by simpa using h)]
theorem replace_point {t : Str} : (Txt.replace t "." "").cps.toList = t.cps.toList.filter (fun c => c != 46) := by
  rw [PySem.StrLaws.replace_list (by decide)]
  exact repl_filter _
theorem zf_digits {d : Nat} {m : Int} (h : 0 ≤ m) : ∀ c ∈ zf d m, 48 ≤ c ∧ c ≤ 57 := by
  intro c hc
  unfold zf at hc
  rcases List.mem_append.mp hc with y | y
  · rw [(List.mem_replicate.mp y).2]
    decide
  · exact dg_digits h c y
theorem filter_digits {l : List Nat} (h : ∀ c ∈ l, 48 ≤ c ∧ c ≤ 57) : l.filter (fun c => c != 46) = l := by
  refine List.filter_eq_self.mpr fun c hc => ?_
  have := h c hc
  simp
  omega
theorem filter_body {d : Nat} {m : Int} (h : 0 ≤ m) : (body d m).filter (fun c => c != 46) = zf d m := by
  unfold body
  have hz := zf_digits (d := d) h
  rw [List.filter_append, List.filter_cons]
  simp only [bne_self_eq_false, Bool.false_eq_true, if_false]
  rw [filter_digits (fun c hc => hz c (List.mem_of_mem_take hc)), filter_digits (fun c hc => hz c (List.mem_of_mem_drop hc)), List.take_append_drop]
theorem last_body {d : Nat} {m : Int} (h : 0 ≤ m) (hd : 1 ≤ d) : ∀ c, (body d m).getLast? = some c → 48 ≤ c ∧ c ≤ 57 := by
  intro c hc
  unfold body at hc
  have hlen : 1 ≤ ((zf d m).drop ((zf d m).length - d)).length := by
    rw [List.length_drop, zf_len]
    omega
  cases e : (zf d m).drop ((zf d m).length - d) with
  | nil => rw [e] at hlen; simp at hlen
  | cons a r =>
    rw [e, List.getLast?_append, List.getLast?_cons_cons] at hc
    have hm : c ∈ a :: r := by
      cases e2 : (a :: r).getLast? with
      | none => simp at e2
      | some y =>
        rw [e2] at hc
        have : y = c := by simpa using hc
        rw [← this]
        exact List.mem_of_getLast? e2
    rw [← e] at hm
    exact zf_digits h c (List.mem_of_mem_drop hm)
theorem last_dg {m : Int} (h : 0 ≤ m) : ∀ c, (dg m).getLast? = some c → 48 ≤ c ∧ c ≤ 57 := fun c hc => dg_digits h c (List.mem_of_getLast? hc)
theorem digits_ok {t : Str} (h : ∀ c ∈ t.cps.toList, 48 ≤ c ∧ c ≤ 57) (hl : 1 ≤ t.cps.toList.length) : Txt.isascii t = true ∧ Txt.isdigit t = true := by
  have hu : ∀ k, k < 10 → Unicode.isDigit (48 + k) = true := by decide +kernel
  constructor
  · unfold Txt.isascii
    rw [← Array.all_toList, List.all_eq_true]
    intro c hc
    have := h c hc
    exact decide_eq_true (by omega)
  · unfold Txt.isdigit
    rw [Bool.and_eq_true]
    refine ⟨decide_eq_true (by rw [str_len]; omega), ?_⟩
    rw [← Array.all_toList, List.all_eq_true]
    intro c hc
    have h1 := h c hc
    have h2 := hu (c - 48) (by omega)
    rw [show 48 + (c - 48) = c by omega] at h2
    exact h2
theorem val_zeros (n : Nat) (l : List Nat) : NumText.digitsVal (List.replicate n 48 ++ l) = NumText.digitsVal l := by
  induction n with
  | zero => rfl
  | succ n ih => rw [List.replicate_succ, List.cons_append, NumText.digitsVal_zero, ih]
/-- int of a mark's signs, zeros ahead or not -/
theorem int_back {t : Str} {n : Nat} {m : Int} (hm : 0 ≤ m) (ht : t.cps.toList = List.replicate n 48 ++ dg m) (hl : t.length ≤ 4300) : PySem.intText? t = some m := by
  obtain ⟨k, rfl⟩ := Int.eq_ofNat_of_zero_le hm
  have hd := dg_digits hm
  have hp := dg_pos hm
  have h1 : NumText.AllDigits t.cps.toList := by
    rw [ht]
    intro c hc
    rcases List.mem_append.mp hc with y | y
    · rw [(List.mem_replicate.mp y).2]
      decide
    · exact hd c y
  have h2 : t.cps.toList ≠ [] := by
    rw [ht]
    intro e
    have e2 : (dg (k : Int)).length = 0 := by rw [(List.append_eq_nil_iff.mp e).2]; rfl
    have hp' : 1 ≤ (dg (k : Int)).length := hp
    omega
  rw [PySem.intText_digits h1 h2 hl, ht, val_zeros]
  unfold dg
  rw [PySem.W.KIN.signs_num, PySem.W.KIN.val_back]
end My

namespace My
open PySem PySem.Spec PyProof.Rows L2
abbrev sPartsOf : Stmt := top 35
abbrev sPlaceU : Stmt := top 36
abbrev sIsMark : Stmt := top 37
abbrev sPFig : Stmt := top 44
theorem scPartsOf : FnScope ["ladder", "text", "ahead", "place", "digits", "mark"] ["ladder", "text"] (defScope sPartsOf) := ⟨rfl, rfl, rfl, by decide +kernel, rfl, by decide +kernel, by decide +kernel⟩
theorem scPlaceU : FnScope ["ladder", "name", "names", "unit"] ["ladder", "name"] (defScope sPlaceU) := ⟨rfl, rfl, rfl, by decide +kernel, rfl, by decide +kernel, by decide +kernel⟩
theorem scIsMark : FnScope ["digits"] ["digits"] (defScope sIsMark) := ⟨rfl, rfl, rfl, by decide +kernel, rfl, by decide +kernel, by decide +kernel⟩
theorem scPFig : FnScope ["ladder", "text", "parts"] ["ladder", "text"] (defScope sPFig) := ⟨rfl, rfl, rfl, by decide +kernel, rfl, by decide +kernel, by decide +kernel⟩
def spIsMark : Sp := fun vs H Q _ => ∃ z : Str, vs = [.str z] ∧ (∀ c ∈ z.cps.toList, 48 ≤ c ∧ c ≤ 57) ∧ 1 ≤ z.length ∧ z.length ≤ 24 ∧ Q (.bl true) H
def spPlaceU (K : PySem.W.Frag) (C : Addr) : Sp := fun vs H Q _ => ∃ (a : Addr) (us : List (Str × Int)) (d : Nat) (s : Str) (c : Bool) (l : Int) (p : Nat) (u : Str × Int), vs = [.ref a, .str u.1] ∧ LadAt K C H a us d s c l ∧ Good us d s l ∧ us[p]? = some u ∧
  ∀ H', Same H H' → Q (.int (p : Int)) H'
theorem names_apart {us : List (Str × Int)} (g : GoodUs us) {i j : Nat} {u v : Str × Int} (hij : i < j) (hi : us[i]? = some u) (hj : us[j]? = some v) : u.1 ≠ v.1 := by
  obtain ⟨_, _, _, hf⟩ := g.each j v hj
  have hm : u ∈ us.take j := List.mem_of_getElem? (i := i) (by rw [List.getElem?_take, if_pos hij]; exact hi)
  rcases hf with ⟨e, _⟩ | ⟨_, _, _, _, _, _, h⟩
  · rw [e] at hm
    cases hm
  · exact h u hm
section
variable {P : Program} {w : World} {K : PySem.W.Frag} {mg : Str → Option Value} {base : Heap}
theorem ok_ismark (d : Dd K mg "is_mark" sIsMark ["digits"]) (B : Bt mg) (gM : ∃ t, mg "MOST_DIGITS" = some (.int 24 t)) : FnOk P w K mg base CX0 2 d.f d.fd ["digits"] spIsMark := by
  obtain ⟨t1, g1⟩ := gM
  refine d.F.ok scIsMark (fun vs H Q E h => ?_) (fun cdv A outer s H vs Q E hr h => ?_)
  · obtain ⟨_, rfl, _⟩ := h
    rfl
  · obtain ⟨z, rfl, h1, h2, h3, q⟩ := h
    refine ⟨_, pss_one (ps_ret (pe_and (pe_bm0 PySem.F.plainAttrs_str PySem.F.slot_str_isascii PySem.F.type_str_isascii mt_isascii (pv 0)) (pe_and (pe_bm0 PySem.F.plainAttrs_str PySem.F.slot_str_isdigit PySem.F.type_str_isdigit mt_isdigit (pv 0))
      (pe_one (pe_cmpR op_le (pe_callB call_len_str (by rfl) B.len PySem.boot_len (pa_cons (pv 0) pa_nil)) (pe_glob (v := .int 24) (by rfl) g1 ⟨_, rfl⟩) (nomark _)))))), ?_⟩
    obtain ⟨e1, e2⟩ := digits_ok h1 (by rw [← str_len]; exact h2)
    refine ⟨_, rfl, rfl, z, rfl, rfl, trivial, _, rfl, ?_⟩
    rw [e1]
    refine iteT ?_
    refine ⟨_, rfl, rfl, z, rfl, rfl, trivial, _, rfl, ?_⟩
    rw [e2]
    refine iteT ?_
    refine ⟨_, rfl, z, rfl, Nat.le_trans h3 (by decide), _, _, rfl, rfl, ?_⟩
    have e3 : decide ((z.length : Int) ≤ 24) = true := decide_eq_true (by omega)
    show Q (.bl (decide ((z.length : Int) ≤ 24))) H
    rw [e3]
    exact q
theorem ok_placeu (d : Dd K mg "place_of_unit" sPlaceU ["ladder", "name"]) (L : LadC K mg) (B : Bt mg) : FnOk P w K mg base CX0 2 d.f d.fd ["ladder", "name"] (spPlaceU K L.C) := by
  refine d.F.ok scPlaceU (fun vs H Q E h => ?_) (fun cdv A outer s H vs Q E hr h => ?_)
  · obtain ⟨_, _, _, _, _, _, _, _, rfl, _⟩ := h
    rfl
  · obtain ⟨a, us, dn, z, c, l, p, u, rfl, ⟨dx, ua, t, st, th, hp, ⟨ps, hua, hu⟩, _⟩, g, hpu, q⟩ := h
    have nd := scPlaceU.nd
    have el := UP.len hu
    refine ⟨_, Evl.pss_cut (ps_setLc (i := 2) (own := [("unit", 3)]) (g := gName 3) (tt := tYes) (by rfl) nd rfl rfl (sw_true rfl rfl rfl (by decide +kernel)) (pi_tup (pe_fld (pv 0) rfl))
        (blkOk_by (own := [("unit", 3)]) (N := ["ladder", "name", "names", "unit"]) (sc := defScope sPlaceU) (by decide +kernel)) (fun _ _ _ _ _ => pg_name (i := 3) nd rfl (Or.inl rfl)) (fun _ _ _ _ _ => pts_nil)
        (fun _ _ _ _ _ => pe_ix (r := rIxT K) ix_tup (pv 3) pe_int (fun _ _ => rfl)))
      (pss_cons (ps_if (pt_cmpR op_notIn_seq (pv 1) (pv 2) (by rfl)) (pss_one (ps_ret pe_non)) pss_nil)
      (pss_one (ps_ret (pe_bm PySem.F.plainAttrs_list PySem.F.slot_list_index PySem.F.type_list_index mt_index (pv 2) (pa_cons (pv 1) pa_nil))))), ?_⟩
    refine ⟨fun σ' H' => ∃ D, Same H H' ∧ H' D = some (.lst (us.map fun v => V.str v.1)) ∧ σ' = [some (.ref a), some (.str u.1), some (.ref D), none], ?_, ?_⟩
    · refine ⟨_, rfl, a, L.C, dx, _, _, rfl, hp, L.cl, L.nUnits, fl_units .., ua, rfl, ⟨_, hua⟩, fun D nD => ?_⟩
      refine lc_tup (K := K) (a := ua) (xs := ps.map V.ref) (fun i H2 => Same H H2 ∧ H2 D = some (.lst ((us.take i).map fun v => V.str v.1))) ⟨same_upd nD, upd_same⟩ (fun i H2 _ h => same_sqt h.1 hua) ?_ ?_
      · rintro i x H2 hi ⟨sm, hD⟩
        obtain ⟨pi, hpi, rfl⟩ := of_get_ref hi
        obtain ⟨v, hv, hs⟩ := paired_fst hu hpi
        refine ⟨rfl, _, rfl, pi, _, 0, .str v.1, rfl, rfl, same_sqt sm hs, rfl, _, hD, ?_, fun b o eb => ?_, ?_⟩
        · rw [List.length_map, List.length_take]
          exact Nat.lt_of_le_of_lt (Nat.le_trans (Nat.min_le_right _ _) g.u.hi) (by decide)
        · rw [upd_ne (ne_of_none eb nD)]
          exact sm _ _ eb
        · rw [upd_same, List.take_add_one, hv, List.map_append]
          rfl
      · rintro H2 ⟨sm, hD⟩
        rw [List.length_map, el, List.take_of_length_le (Nat.le_refl _)] at hD
        exact ⟨D, sm, hD, rfl⟩
    · rintro σ' H2 ⟨D, sm, hD, rfl⟩
      have hin : inV (.str u.1) (us.map fun v => V.str v.1) = true := by
        unfold inV
        rw [List.any_eq_true]
        exact ⟨.str u.1, List.mem_map.mpr ⟨u, List.mem_of_getElem? hpu, rfl⟩, by simp [eqV]⟩
      have hflat : (us.map fun v => V.str v.1).all flatV = true := by simp [List.all_map, flatV]
      refine ⟨_, rfl, _, rfl, D, _, rfl, .inl (SqL.of hD), rfl, hflat, ?_⟩
      rw [if_pos rfl, hin]
      refine ⟨false, rfl, iteF ?_⟩
      refine ⟨_, rfl, .inl ⟨rfl, _, SqL.of hD⟩, _, rfl, D, _, .str u.1, p, .str u.1, rfl, rfl, SqL.of hD, rfl, hflat, ?_, by simp [eqV], fun m z' hm hz' => ?_, q _ sm⟩
      · rw [List.getElem?_map, hpu]
        rfl
      · rw [List.getElem?_map] at hz'
        cases e : us[m]? with
        | none => rw [e] at hz'; cases hz'
        | some v =>
          rw [e] at hz'
          have ez := Option.some.inj hz'
          subst ez
          have := names_apart g.u hm e hpu
          simpa [eqV] using this
end
end My

namespace My
open PySem PySem.Spec PyProof.Rows L2
/-- x = e where e gives out tokens -/
theorem pst_set {X : Cx} {i : Nat} {x : Str} {e : Expr} {te : TE} {pos pos' : Pos} (hN : X.N.Nodup) (hi : X.N[i]? = some x) (hx : Loc X.env.scope x) (he : PET X e te) (hs : swapsWith e (some (.Name x pos')) pos.line X.env = pure false := by rfl)
    (hf : X.fn x = true ∨ X.env.scope.names.lookup x = some .local := by first | exact .inl rfl | exact .inr rfl | assumption) : PST X (.Assign [.Name x pos'] e pos) (tAsg te (gName i)) := by
  intro pins s σ H D h0 I h
  refine wpAny_Assign_Name (thn (he pins s σ H _ h0 I h) ?_) hs
  rintro v s1 ⟨y, H1, I1, r1, q1⟩
  exact store_ok I1 hN hi hx r1 (fun s2 I2 => ⟨_, H1, I2, q1⟩) hf
/-- what stands ahead of a figure's name -/
def ahead (d p : Nat) (m : Int) : List Nat := if p = 0 ∨ d = 0 then dg m else body d m
theorem writ_codes {us : List (Str × Int)} {d p : Nat} {m : Int} : (writ us d p m).cps.toList = ahead d p m ++ (us.getD p ("", 0)).1.cps.toList := by
  unfold writ ahead
  split
  · rw [str_app]
    rfl
  · rw [str_app]
theorem ahead_last {d p : Nat} {m : Int} (hm : 0 ≤ m) : ∀ c, (ahead d p m).getLast? = some c → 48 ≤ c ∧ c ≤ 57 := by
  unfold ahead
  split
  · exact last_dg hm
  · rename_i h
    exact last_body hm (by
      rcases Nat.eq_zero_or_pos d with z | z
      · exact absurd (.inr z) h
      · exact z)
theorem ahead_filter {d p : Nat} {m : Int} (hm : 0 ≤ m) : ∃ n, (ahead d p m).filter (fun c => c != 46) = List.replicate n 48 ++ dg m ∧ n + (dg m).length ≤ max (d + 1) (dg m).length := by
  unfold ahead
  split
  · refine ⟨0, ?_, by omega⟩
    rw [filter_digits (dg_digits hm)]
    rfl
  · refine ⟨d + 1 - (dg m).length, ?_, by omega⟩
    rw [filter_body hm]
    rfl
theorem ahead_len {d p : Nat} {m : Int} : (ahead d p m).length ≤ max (d + 1) (dg m).length + 1 := by
  unfold ahead
  split
  · omega
  · unfold body
    rw [List.length_append, List.length_take, List.length_cons, List.length_drop, zf_len]
    omega
theorem dg_24 {m : Int} (h0 : 0 ≤ m) (h : m < 10 ^ 24) : (dg m).length ≤ 24 := by
  obtain ⟨k, rfl⟩ := Int.eq_ofNat_of_zero_le h0
  have hk : k < 10 ^ 24 := by omega
  unfold dg
  rw [PySem.W.KIN.signs_num, List.length_map, ← Nat.toList_repr]
  exact (Nat.length_repr_le_iff (by decide)).mpr hk
def spPartsOf (K : PySem.W.Frag) (C : Addr) : Sp := fun vs H Q _ => ∃ (a : Addr) (us : List (Str × Int)) (d : Nat) (s : Str) (c : Bool) (l : Int) (p : Nat) (m : Int), vs = [.ref a, .str (writ us d p m)] ∧ LadAt K C H a us d s c l ∧ Good us d s l ∧ p < us.length ∧ 0 ≤ m ∧ m < 10 ^ 24 ∧
  ∀ (r : Addr) (H' : Hp), Same H H' → SqT K H' r [.int (p : Int), .int m] → Q (.ref r) H'
def spWorth (K : PySem.W.Frag) (C : Addr) : Sp := fun vs H Q _ => ∃ (a : Addr) (us : List (Str × Int)) (d : Nat) (s : Str) (c : Bool) (l : Int) (p : Nat) (m : Int), vs = [.ref a, .str (writ us d p m)] ∧ LadAt K C H a us d s c l ∧ Good us d s l ∧ p < us.length ∧ 0 ≤ m ∧ m < 10 ^ 24 ∧
  ∀ H', Same H H' → Q (.int (m * (stepsOf us d).getD p 0)) H'
section
variable {P : Program} {w : World} {K : PySem.W.Frag} {mg : Str → Option Value} {base : Heap}
theorem ok_partsof (d : Dd K mg "parts_of" sPartsOf ["ladder", "text"]) (dU : Dd K mg "place_of_unit" sPlaceU ["ladder", "name"]) (dM : Dd K mg "is_mark" sIsMark ["digits"]) (dW : Dd K mg "written" sWritten ["ladder", "place", "mark"]) (L : LadC K mg) (B : Bt mg) (G : Gc K mg) (gM : ∃ t, mg "MOST_DIGITS" = some (.int 24 t)) :
    FnOk P w K mg base CX0 3 d.f d.fd ["ladder", "text"] (spPartsOf K L.C) := by
  have GU : FnOk P w K mg base CX0 2 dU.f dU.fd ["ladder", "name"] (spPlaceU K L.C) := ok_placeu dU L B
  have GM : FnOk P w K mg base CX0 2 dM.f dM.fd ["digits"] spIsMark := ok_ismark dM B gM
  have GW : FnOk P w K mg base CX0 2 dW.f dW.fd ["ladder", "place", "mark"] (spWritten K L.C) := ok_written dW L B
  obtain ⟨t1, g1⟩ := G.letters
  obtain ⟨oc, od, kV, doc, pm, an, cdv, ct, osl, e, lk, hcd⟩ := d.F.ex
  rw [e] at lk ⊢
  refine fn_ofT lk hcd scPartsOf (by decide +kernel) (by decide) (fun vs H Q E h => ?_) (fun A outer s H vs Q E hr h => ?_)
  · obtain ⟨_, _, _, _, _, _, _, _, rfl, _⟩ := h
    rfl
  · obtain ⟨a, us, dn, z, c, l, p, m, rfl, hL, g, hlt, hm, hm2, q⟩ := h
    have nd := scPartsOf.nd
    refine ⟨_, psst_cons (PST.of (ps_if (pt_not (pt_val (pe_callB call_isi (by rfl) B.isinstance (by decide +kernel) (pa_cons (pv 1) (pa_cons (pe_bltn (v := .ty "str") (by rfl) B.str (by decide +kernel) rfl) pa_nil))))) (pss_one (ps_ret pe_non)) pss_nil))
      (psst_cons (PST.of (ps_set (i := 2) nd rfl (.inl rfl) (pe_bm PySem.F.plainAttrs_str PySem.F.slot_str_rstrip PySem.F.type_str_rstrip mt_rstripChars (pv 1) (pa_cons (pe_glob (v := .str letters) (by rfl) g1 ⟨_, rfl⟩) pa_nil))))
      (psst_cons (PST.of (ps_set (i := 3) nd rfl (.inl rfl) (pe_call GU hr (by rfl) dU.g dU.F.kp dU.b .nil pass0 (pa_cons (pv 0) (pa_cons (pe_slice sl_str (pv 1) (po_some (pe_callB call_len_str (by rfl) B.len PySem.boot_len (pa_cons (pv 2) pa_nil))) po_none) pa_nil)))))
      (psst_cons (pst_set (i := 4) nd rfl (.inl rfl) (CwR.pet_replC (pv 2)))
      (PSsT.of (pss_cons (ps_if (PW.pt (pw_or (pt_cmp (pc_isN (pv 3))) (pw_or1 (pt_not (pt_val (pe_call GM hr (by rfl) dM.g dM.F.kp dM.b .nil pass0 (pa_cons (pv 4) pa_nil))))))) (pss_one (ps_ret pe_non)) pss_nil)
      (pss_cons (ps_set (i := 5) nd rfl (.inl rfl) (pe_callTy call_int_str (by rfl) B.int (by decide +kernel) (pa_cons (pv 4) pa_nil)))
      (pss_cons (ps_if (pt_cmpR op_ne (pe_call GW hr (by rfl) dW.g dW.F.kp dW.b .nil pass0 (pa_cons (pv 0) (pa_cons (pv 3) (pa_cons (pv 5) pa_nil)))) (pv 1) (nomark _)) (pss_one (ps_ret pe_non)) pss_nil)
      (pss_one (ps_ret (pe_tup (pa_cons (pv 3) (pa_cons (pv 5) pa_nil)))))))))))), ?_⟩
    have hu : us[p]? = some us[p] := List.getElem?_eq_getElem hlt
    have en : (us.getD p ("", 0)).1 = us[p].1 := by rw [List.getD_eq_getElem?_getD, hu]; rfl
    have gn := (g.u.each p _ hu).1
    have hlet : ∀ c ∈ us[p].1.cps.toList, letters.cps.contains c = true := fun c hc => by
      have := gn.2.2.2
      rw [List.all_eq_true] at this
      exact this c hc
    have wc := writ_codes (us := us) (d := dn) (p := p) (m := m)
    rw [en] at wc
    have ld := dg_24 hm hm2
    have d3 := g.d3
    have al := ahead_len (d := dn) (p := p) (m := m)
    have lw : (writ us dn p m).length ≤ 30 := by
      rw [str_len, wc, List.length_append, ← str_len]
      have := gn.1
      omega
    refine ⟨_, rfl, _, _, _, _, true, rfl, .ty "str", .base (.str _), kit_ty (by decide +kernel), _, rfl, iteF ?_⟩
    have er : (Txt.rstripChars (writ us dn p m) letters).cps.toList = ahead dn p m := rstrip_name wc hlet (ahead_last hm)
    refine ⟨_, rfl, rfl, _, _, rfl, rfl, Nat.le_trans lw (by decide), ?_⟩
    generalize Txt.rstripChars (writ us dn p m) letters = zz at er ⊢
    have lz : zz.length = (ahead dn p m).length := by rw [str_len, er]
    refine ⟨_, rfl, _, rfl, _, rfl, zz, rfl, (by rw [lz]; exact Nat.le_trans (show _ ≤ 30 by omega) (by decide)), _, rfl, _, rfl, Nat.le_trans lw (by decide), ?_⟩
    have esl : cutS (writ us dn p m) (some (zz.length : Int)) none = us[p].1 := by
      refine str_ext ?_
      rw [cut_fromn (by rw [wc, List.length_append, lz]; omega), wc, lz]
      simp
    rw [esl]
    refine ⟨a, us, dn, z, c, l, p, us[p], rfl, hL, g, hu, fun H1 s1 => ?_⟩
    refine ⟨_, rfl, zz, rfl, ?_, ?_⟩
    · rw [lz]
      show _ + (_ + 1) * 0 ≤ _
      omega
    obtain ⟨n, ef, hn⟩ := ahead_filter (d := dn) (p := p) hm
    have ep : (Txt.replace zz "." "").cps.toList = List.replicate n 48 ++ dg m := by rw [replace_point, er, ef]
    generalize Txt.replace zz "." "" = yy at ep ⊢
    have ly : yy.length = n + (dg m).length := by rw [str_len, ep, List.length_append, List.length_replicate]
    have hp1 := dg_pos hm
    have alld : ∀ c ∈ yy.cps.toList, 48 ≤ c ∧ c ≤ 57 := fun c hc => by
      rw [ep] at hc
      rcases List.mem_append.mp hc with y | y
      · rw [(List.mem_replicate.mp y).2]
        decide
      · exact dg_digits hm c y
    refine ⟨_, rfl, _, rfl, iteF ?_⟩
    refine ⟨_, rfl, yy, rfl, alld, by omega, by omega, true, rfl, iteF ?_⟩
    refine ⟨_, rfl, yy, m, rfl, int_back hm ep (by omega), by omega, ?_⟩
    refine ⟨_, rfl, _, rfl, _, rfl, a, us, dn, z, c, l, p, m, rfl, hL.same s1, g, hlt, hm, Int.lt_trans hm2 (by decide), _, rfl, rfl, _, rfl, iteNS (by simp) ?_⟩
    refine ⟨_, rfl, _, rfl, (by show 2 ≤ sizeLine; decide), fun r nr => ?_⟩
    exact q r _ (s1.trans (same_upd nr)) (SqT.of upd_same)
end
end My

namespace My
open PySem PySem.Spec PyProof.Rows L2
section
variable {P : Program} {w : World} {K : PySem.W.Frag} {mg : Str → Option Value} {base : Heap}
theorem ok_pfig {C : Addr} (d : Dd K mg "parts_of_figure" sPFig ["ladder", "text"]) (dP : Dd K mg "parts_of" sPartsOf ["ladder", "text"]) (GP : FnOk P w K mg base CX0 3 dP.f dP.fd ["ladder", "text"] (spPartsOf K C)) :
    FnOk P w K mg base CX0 4 d.f d.fd ["ladder", "text"] (spPartsOf K C) := by
  refine d.F.ok scPFig (fun vs H Q E h => ?_) (fun cdv A outer s H vs Q E hr h => ?_)
  · obtain ⟨_, _, _, _, _, _, _, _, rfl, _⟩ := h
    rfl
  · obtain ⟨a, us, dn, z, c, l, p, m, rfl, hL, g, hlt, hm, hm2, q⟩ := h
    have nd := scPFig.nd
    refine ⟨_, pss_cons (ps_set (i := 2) nd rfl (.inl rfl) (pe_call GP hr (by rfl) dP.g dP.F.kp dP.b .nil pass0 (pa_cons (pv 0) (pa_cons (pv 1) pa_nil))))
      (pss_cons (ps_if (pt_cmp (pc_isN (pv 2))) (pss_one ps_never) pss_nil) (pss_one (ps_ret (pv 2)))), ?_⟩
    refine ⟨_, rfl, _, rfl, a, us, dn, z, c, l, p, m, rfl, hL, g, hlt, hm, hm2, fun r H1 s1 hr1 => ?_⟩
    exact ⟨_, rfl, _, rfl, iteF ⟨_, rfl, q r H1 s1 hr1⟩⟩
end
end My

namespace My
open PySem PySem.Spec PyProof.Rows L2
section
variable {P : Program} {w : World} {K : PySem.W.Frag} {mg : Str → Option Value} {base : Heap}
end
end My

namespace MyZ
open PySem PySem.Spec PyProof.Rows L2
/-- three lists of one length walked together, the items in new triples -/
def Itz3 (K : PySem.W.Frag) (a b c : Addr) : It :=
  ⟨fun i H => ∃ (xs ys zs : List V) (x y z : V), SqL K H a xs ∧ SqL K H b ys ∧ SqL K H c zs ∧ xs[i]? = some x ∧ ys[i]? = some y ∧ zs[i]? = some z,
   fun i H v H' => ∃ T x y z, v = .ref T ∧ H T = none ∧ H' = upd H T (.tup [x, y, z]) ∧ (∀ xs, SqL K H a xs → xs[i]? = some x) ∧ (∀ ys, SqL K H b ys → ys[i]? = some y) ∧ ∀ zs, SqL K H c zs → zs[i]? = some z,
   fun i H => ∃ xs ys zs : List V, SqL K H a xs ∧ SqL K H b ys ∧ SqL K H c zs ∧ xs.length = i ∧ ys.length = i ∧ zs.length = i⟩
theorem turn_zip3 {P : Program} {w : World} {K : PySem.W.Frag} {elts : List Expr} {kk : Nat} {tpos : Pos} {a b c z TI TO i1 i2 i3 : Addr} (D : ZipSep3 z TI TO i1 i2 i3 [i1, a] [i2, b] [i3, c]) (n1 : a ≠ i1) (n2 : b ≠ i2) (n3 : c ≠ i3) :
    Turn P w K (.Tuple elts kk tpos) (Itz3 K a b c) [z, TI, TO, i1, i2, i3] z (fun i h => IsZip h z TI TO .none ∧ IsTupOf3 h TI (.ref i1) (.ref i2) (.ref i3) ∧ (∃ x y u, IsTupOf3 h TO x y u) ∧ h.IsListIter i1 a i ∧ h.IsListIter i2 b i ∧ h.IsListIter i3 c i) where
  mem := by simp
  obj := fun i h st q hq => by
    obtain ⟨hz, hTI, ⟨x, y, u, hTO⟩, ⟨o1, e1, _, d1⟩, ⟨o2, e2, _, d2⟩, ⟨o3, e3, _, d3⟩⟩ := st
    have e' : q = z ∨ q = TI ∨ q = TO ∨ q = i1 ∨ q = i2 ∨ q = i3 := by simpa using hq
    rcases e' with e | e | e | e | e | e <;> rw [e]
    · exact ⟨_, hz, fun v q => nomatch q⟩
    · exact ⟨_, hTI, fun v q => nomatch q⟩
    · exact ⟨_, hTO, fun v q => nomatch q⟩
    · exact ⟨o1, e1, fun v q => by rw [d1] at q; cases q⟩
    · exact ⟨o2, e2, fun v q => by rw [d2] at q; cases q⟩
    · exact ⟨o3, e3, fun v q => by rw [d3] at q; cases q⟩
  keep := fun i h h' st k => by
    obtain ⟨hz, hTI, ⟨x, y, u, hTO⟩, h1, h2, h3⟩ := st
    exact ⟨k z (by simp) _ hz, k TI (by simp) _ hTI, ⟨x, y, u, k TO (by simp) _ hTO⟩, h1.at fun o q => k i1 (by simp) o q, h2.at fun o q => k i2 (by simp) o q, h3.at fun o q => k i3 (by simp) o q⟩
  item := by
    intro X hP hw hK hc i pins s σ H E I hf st hg
    subst hP hw hK
    obtain ⟨hz, hTI, ⟨x0, y0, u0, hTO⟩, h1, h2, h3⟩ := st
    obtain ⟨xs, ys, zs, x, y, v, hqx, hqy, hqz, hx, hy, hv⟩ := hg
    obtain ⟨its, rv, p, _⟩ := I.list hqx
    obtain ⟨its2, rv2, p2, _⟩ := I.list hqy
    obtain ⟨its3, rv3, p3, _⟩ := I.list hqz
    obtain ⟨u, hu, ru⟩ := rv.get hx
    obtain ⟨u2, hu2, ru2⟩ := rv2.get hy
    obtain ⟨u3, hu3, ru3⟩ := rv3.get hv
    have hzl : z < s.heap.objs.size := Heap.lt_size hz
    have lt1 : i < its.toArray.size := by have := (List.getElem?_eq_some_iff.mp hu).1; simpa using this
    have lt2 : i < its2.toArray.size := by have := (List.getElem?_eq_some_iff.mp hu2).1; simpa using this
    have lt3 : i < its3.toArray.size := by have := (List.getElem?_eq_some_iff.mp hu3).1; simpa using this
    have D1 := Draws.list (prog := X.prog) (w := X.w) (A := X.A.in1) (I.ok.hd hc) i1 a n1 its.toArray
    have D2 := Draws.list (prog := X.prog) (w := X.w) (A := X.A.in1) (I.ok.hd hc) i2 b n2 its2.toArray
    have D3 := Draws.list (prog := X.prog) (w := X.w) (A := X.A.in1) (I.ok.hd hc) i3 c n3 its3.toArray
    refine wpAny_pyNext_zipD3_item D D1 D2 D3 hz hTI hTO ⟨h1, p.isList⟩ ⟨h2, p2.isList⟩ ⟨h3, p3.isList⟩ lt1 lt2 lt3 fun w1 w2 w3 h' tk f1 f2 f3 z' TO' h1' h2' h3' hT hsz hk => ?_
    have e1 : w1 = u := by
      have q : its.toArray[i]? = some u := by simpa using hu
      exact Option.some.inj (f1.symm.trans q)
    have e2 : w2 = u2 := by
      have q : its2.toArray[i]? = some u2 := by simpa using hu2
      exact Option.some.inj (f2.symm.trans q)
    have e3 : w3 = u3 := by
      have q : its3.toArray[i]? = some u3 := by simpa using hu3
      exact Option.some.inj (f3.symm.trans q)
    subst e1 e2 e3
    refine ⟨_, rfl, wpAny_letOwnedTupleGo_zip (s := { s with heap := h', toks := tk }) z' fun h'' z'' sb => ?_⟩
    have hT2 := (sb.2 _ (Nat.ne_of_gt hzl)).trans hT
    have new : ObjOk X.prog X.w (upd H s.heap.objs.size (.tup [x, y, v])) h'' s.heap.objs.size (.tup [x, y, v]) :=
      ⟨(by show 3 ≤ sizeLine; decide), [w1, w2, w3], .cons ru (.cons ru2 (.cons ru3 .nil)), ⟨_, hT2, rfl, _, rfl⟩⟩
    have stay : ∀ q o, q ∉ [z, TI, TO, i1, i2, i3] → s.heap.get? q = some o → h''.get? q = some o := fun q o hq e => by
      have m : ∀ k, k ∈ [z, TI, TO, i1, i2, i3] → q ≠ k := fun k hk e => hq (e ▸ hk)
      exact (sb.2 q (m z (by simp))).trans (hk q o (m z (by simp)) (m TO (by simp)) (m i1 (by simp)) (m i2 (by simp)) (m i3 (by simp)) e)
    have I1 : Inv X pins σ (upd H s.heap.objs.size (.tup [x, y, v])) { s with heap := h'', toks := tk } := I.turnedNew (ch := [z, TI, TO, i1, i2, i3]) stay hf (Nat.le_refl _) new
    refine ⟨.ref s.heap.objs.size, _, I1, rfl, ⟨_, x, y, v, rfl, I.hok.fresh (Nat.le_refl _), rfl, fun l hl => (I.list_inj hl hqx) ▸ hx, fun l hl => (I.list_inj hl hqy) ▸ hy, fun l hl => (I.list_inj hl hqz) ▸ hv⟩, ⟨z'', ?_, ⟨w1, w2, w3, ?_⟩, ?_, ?_, ?_⟩, fun q hq => ?_⟩
    · exact (sb.2 _ D.TIz).trans (hk _ _ D.TIz D.TITO D.TIi1 D.TIi2 D.TIi3 hTI)
    · exact (sb.2 _ D.TOz).trans TO'
    · exact h1'.1.at fun o q => (sb.2 _ (fun e => D.zf1 (by rw [← e]; simp))).trans q
    · exact h2'.1.at fun o q => (sb.2 _ (fun e => D.zf2 (by rw [← e]; simp))).trans q
    · exact h3'.1.at fun o q => (sb.2 _ (fun e => D.zf3 (by rw [← e]; simp))).trans q
    · have hlt : q < s.heap.objs.size := by
        have e' : q = z ∨ q = TI ∨ q = TO ∨ q = i1 ∨ q = i2 ∨ q = i3 := by simpa using hq
        rcases e' with e | e | e | e | e | e <;> rw [e]
        · exact hzl
        · exact Heap.lt_size hTI
        · exact Heap.lt_size hTO
        · obtain ⟨_, e1, _⟩ := h1; exact Heap.lt_size e1
        · obtain ⟨_, e2, _⟩ := h2; exact Heap.lt_size e2
        · obtain ⟨_, e3, _⟩ := h3; exact Heap.lt_size e3
      rw [upd_ne (Nat.ne_of_lt hlt)]
      exact (hf q hq).1
  done := by
    intro X hP hw hK hc i pins s σ H E I hf st hg
    subst hP hw hK
    obtain ⟨hz, hTI, ⟨x0, y0, u0, hTO⟩, h1, h2, h3⟩ := st
    obtain ⟨xs, ys, zs, hqx, hqy, hqz, lx, ly, lz⟩ := hg
    obtain ⟨its, rv, p, _⟩ := I.list hqx
    obtain ⟨its2, rv2, p2, _⟩ := I.list hqy
    obtain ⟨its3, rv3, p3, _⟩ := I.list hqz
    have l1 : its.toArray.size = i := by have := rv.length; simp; omega
    have l2 : its2.toArray.size = i := by have := rv2.length; simp; omega
    have l3 : its3.toArray.size = i := by have := rv3.length; simp; omega
    have D1 := Draws.list (prog := X.prog) (w := X.w) (A := X.A.in1) (I.ok.hd hc) i1 a n1 its.toArray
    have D2 := Draws.list (prog := X.prog) (w := X.w) (A := X.A.in1) (I.ok.hd hc) i2 b n2 its2.toArray
    have D3 := Draws.list (prog := X.prog) (w := X.w) (A := X.A.in1) (I.ok.hd hc) i3 c n3 its3.toArray
    refine wpAny_pyNext_zipD3_end D D1 D2 D3 hz hTI hTO ⟨h1, p.isList⟩ ⟨h2, p2.isList⟩ ⟨h3, p3.isList⟩ (by omega) (by omega) (by omega) (.inl l1.symm) fun h' tk hk => ⟨rfl, ?_⟩
    refine I.turnedL (ch := [z, TI, TO, i1, i2, i3]) (fun q o hq e => ?_) hf
    have m : ∀ k, k ∈ [z, TI, TO, i1, i2, i3] → q ≠ k := fun k hk e => hq (e ▸ hk)
    exact hk q o (m z (by simp)) (m TO (by simp)) (m i1 (by simp)) (m i2 (by simp)) (m i3 (by simp)) e
  self := fun A i s Q E st h => wpAny_pyIter_zip st.1 h
def iZip3 (K : PySem.W.Frag) (ta : TA) : TI := fun σ H R => ta σ H fun vs H1 => ∃ a b c xs ys zs, vs = [.ref a, .ref b, .ref c] ∧ SqL K H1 a xs ∧ SqL K H1 b ys ∧ SqL K H1 c zs ∧ R (Itz3 K a b c) H1
theorem pi_zip3 {X : Cx} {e e2 e3 : Expr} {ta : TA} {p pos tpos : Pos} {elts : List Expr} {kk : Nat} (hg : Gl X "zip") (hm : X.mg "zip" = none) (ha : PA X [e, e2, e3] ta)
    (hs : starEach [e, e2, e3] X.env = (false, eval e X.env) :: starEach [e2, e3] X.env := by rfl) (hpl : (backTo pos (starEach [e2, e3] X.env)).any (·.1) = false := by rfl) :
    PI X (.Tuple elts kk tpos) (.Call (.Name "zip" p) [e, e2, e3] [] pos) (iZip3 X.K ta) := by
  constructor
  intro pins s σ H R I h
  refine Call_ (ld_blt I hg hm PyProof.Rows.boot_zip (PyProof.Rows.callWith_type1 (thn (ha.run pos pins s σ H _ I h) ?_) hs hpl))
  rintro us s1 ⟨vs, H1, I1, r1, a, b, c, xs, ys, zs, rfl, hqx, hqy, hqz, q⟩
  match us, r1 with
  | [_, _, _], .cons r1 (.cons r2 (.cons r3 .nil)) =>
    cases r1
    cases r2
    cases r3
    obtain ⟨its, rv, p1, _⟩ := I1.list hqx
    obtain ⟨its2, rv2, p2, _⟩ := I1.list hqy
    obtain ⟨its3, rv3, p3, _⟩ := I1.list hqz
    have la : a < s1.heap.objs.size := p1.lt
    have lb : b < s1.heap.objs.size := p2.lt
    have lc : c < s1.heap.objs.size := p3.lt
    refine zip_begins3 (begins_list a its.toArray) (begins_list b its2.toArray) (begins_list c its3.toArray) p1.isList p2.isList p3.isList fun h' hz hTI hTO h1 h2 h3 hsz hk => wpAny_pyIter_zip hz ?_
    have I2 : Inv X pins σ H1 { s1 with heap := h' } := I1.kept (t' := s1.toks) hk
    have one : ∀ {x n : Addr}, x < n → ∀ q ∈ [x], q < n := fun hx q hq => by
      have e : q = _ := List.mem_singleton.mp hq
      rw [e]
      exact hx
    have sep := zip_sep3 (N := s1.heap.objs.size) (one la) (one lb) (one lc)
    refine ⟨s1.heap.objs.size + 5, [s1.heap.objs.size + 5, s1.heap.objs.size + 3, s1.heap.objs.size + 4, s1.heap.objs.size, s1.heap.objs.size + 1, s1.heap.objs.size + 2], _, _, H1, rfl, I2,
      turn_zip3 sep (Nat.ne_of_lt la) (Nat.ne_of_lt (Nat.lt_succ_of_lt lb)) (Nat.ne_of_lt (Nat.lt_succ_of_lt (Nat.lt_succ_of_lt lc))), ⟨hz, hTI, ⟨_, _, _, hTO⟩, ⟨_, h1, rfl, rfl⟩, ⟨_, h2, rfl, rfl⟩, ⟨_, h3, rfl, rfl⟩⟩, fun q hq => ?_, ‹_›⟩
    have e' : q = s1.heap.objs.size + 5 ∨ q = s1.heap.objs.size + 3 ∨ q = s1.heap.objs.size + 4 ∨ q = s1.heap.objs.size ∨ q = s1.heap.objs.size + 1 ∨ q = s1.heap.objs.size + 2 := by simpa using hq
    have hle : s1.heap.objs.size ≤ q := by
      rcases e' with e | e | e | e | e | e <;> rw [e] <;> first | exact Nat.le_add_right _ _ | exact Nat.le_refl _
    exact I1.fpOk hle (I1.hok.fresh hle)
/-- for x, y, z in zip(a, b, c) -/
theorem for_zip3 {K : PySem.W.Frag} {a b c : Addr} {xs ys zs : List V} {g : TG} {tb : TS} {D : Ends} {σ : L2.St} {H : Hp} (hy : ys.length = xs.length) (hz : zs.length = xs.length) (Pv : Nat → L2.St → Hp → Prop) (h0 : Pv 0 σ H)
    (hl : ∀ i σ H, Pv i σ H → SqL K H a xs ∧ SqL K H b ys ∧ SqL K H c zs)
    (ht : ∀ (i : Nat) (x y z : V) (σ : L2.St) (H : Hp) (T : Addr), xs[i]? = some x → ys[i]? = some y → zs[i]? = some z → Pv i σ H → H T = none → g (.ref T) σ (upd H T (.tup [x, y, z])) fun σ2 H2 => tb { nx := Pv (i + 1), rt := D.rt, bk := D.nx, ct := Pv (i + 1) } σ2 H2)
    (he : ∀ σ H, Pv xs.length σ H → D.nx σ H) :
    ∃ W : Nat → Nat → L2.St → Hp → Prop, (∃ m, W 0 m σ H) ∧ ∀ i m σ H, W i m σ H → ((Itz3 K a b c).stop i H ∧ D.nx σ H) ∨
      ((Itz3 K a b c).go i H ∧ ∃ N : L2.St → Hp → Prop, (∀ σ' H', N σ' H' → ∃ m', m' < m ∧ W (i + 1) m' σ' H') ∧
        ∀ x H', (Itz3 K a b c).yld i H x H' → g x σ H' fun σ2 H2 => tb { nx := N, rt := D.rt, bk := D.nx, ct := N } σ2 H2) := by
  refine ⟨fun i m σ H => Pv i σ H ∧ i + m = xs.length, ⟨xs.length, h0, by omega⟩, fun i m σ H hW => ?_⟩
  obtain ⟨hp, hm⟩ := hW
  obtain ⟨q1, q2, q3⟩ := hl i σ H hp
  by_cases hi : i < xs.length
  · refine .inr ⟨⟨xs, ys, zs, xs[i], ys[i], zs[i], q1, q2, q3, List.getElem?_eq_getElem hi, List.getElem?_eq_getElem (by omega), List.getElem?_eq_getElem (by omega)⟩, Pv (i + 1), fun σ' H' hN => ⟨m - 1, by omega, hN, by omega⟩, ?_⟩
    rintro v H' ⟨T, x, y, z, rfl, hT, rfl, f1, f2, f3⟩
    exact ht i x y z σ H T (f1 xs q1) (f2 ys q2) (f3 zs q3) hp hT
  · have e : i = xs.length := by omega
    subst e
    exact .inl ⟨⟨xs, ys, zs, q1, q2, q3, rfl, hy, hz⟩, he σ H hp⟩
/-- [.. for x, y in zip(a, b)] -/
theorem lc_zip {K : PySem.W.Frag} {a b : Addr} {xs ys : List V} {g : TG} {tt : TT} {te : TE} {vs : List Nat} {σ : L2.St} {H1 : Hp} {D : Addr} {Qd : Hp → Prop} (hy : ys.length = xs.length) (Pv : Nat → Hp → Prop) (h0 : Pv 0 (upd H1 D (.lst [])))
    (hl : ∀ i H, Pv i H → SqL K H a xs ∧ SqL K H b ys)
    (ht : ∀ (i : Nat) (x y : V) (H : Hp) (T : Addr), xs[i]? = some x → ys[i]? = some y → Pv i H → H T = none → g (.ref T) (wipe σ vs) (upd H T (.tup [x, y])) fun σ2 H2 => wipe σ2 vs = wipe σ vs ∧ tt σ2 H2 fun b H3 =>
      if b = true then te σ2 H3 fun y H4 => ∃ acc, H4 D = some (.lst acc) ∧ acc.length < sizeLine ∧ Pv (i + 1) (upd H4 D (.lst (acc ++ [y]))) else Pv (i + 1) H3)
    (he : ∀ H, Pv xs.length H → Qd H) :
    ∃ W : Nat → Nat → Hp → Prop, (∃ m, W 0 m (upd H1 D (.lst []))) ∧ ∀ i m H, W i m H → ((Itz K a b).stop i H ∧ Qd H) ∨
      ((Itz K a b).go i H ∧ ∃ Nx : Hp → Prop, (∀ H', Nx H' → ∃ m', m' < m ∧ W (i + 1) m' H') ∧
        ∀ x H', (Itz K a b).yld i H x H' → g x (wipe σ vs) H' fun σ2 H2 => wipe σ2 vs = wipe σ vs ∧ tt σ2 H2 fun b H3 =>
          if b = true then te σ2 H3 fun y H4 => ∃ acc, H4 D = some (.lst acc) ∧ acc.length < sizeLine ∧ Nx (upd H4 D (.lst (acc ++ [y]))) else Nx H3) := by
  refine ⟨fun i m H => Pv i H ∧ i + m = xs.length, ⟨xs.length, h0, by omega⟩, fun i m H hW => ?_⟩
  obtain ⟨hp, hm⟩ := hW
  obtain ⟨q1, q2⟩ := hl i H hp
  by_cases hi : i < xs.length
  · refine .inr ⟨⟨xs, ys, xs[i], ys[i], q1, q2, List.getElem?_eq_getElem hi, List.getElem?_eq_getElem (by omega)⟩, Pv (i + 1), fun H' hN => ⟨m - 1, by omega, hN, by omega⟩, ?_⟩
    rintro v H' ⟨T, x, y, rfl, hT, rfl, f1, f2⟩
    exact ht i x y H T (f1 xs q1) (f2 ys q2) hp hT
  · have e : i = xs.length := by omega
    subst e
    exact .inl ⟨⟨xs, ys, q1, q2, .inl (Nat.le_refl _)⟩, he H hp⟩
end MyZ

namespace My
open PySem PySem.Spec PyProof.Rows L2
/-! ### roundings compared -/
def stOf (us : List (Str × Int)) (d : Nat) (l n : Int) : Int := (stepsOf us d).getD (placeOf us l n) 0
def worthM (us : List (Str × Int)) (d : Nat) (s : Str) (c : Bool) (l n : Int) : Int := (placedM us d s c l n).2 * (stepsOf us d).getD (placedM us d s c l n).1 0
theorem place_lt {us : List (Str × Int)} {d : Nat} {s : Str} {l n : Int} (g : Good us d s l) (h0 : 0 ≤ n) : placeOf us l n < us.length := by
  have hc1 := cnt_pos (us := us) (l := l) h0
  have hc2 := cnt_le (l := l) (n := n) g.u.lo
  unfold placeOf
  omega
theorem st_pos {us : List (Str × Int)} {d : Nat} {s : Str} {l n : Int} (g : Good us d s l) (h0 : 0 ≤ n) : 0 < stOf us d l n ∧ stOf us d l n ≤ 1000000000000000000 := by
  obtain ⟨_, k2, k3⟩ := steps_ok g (place_lt g h0)
  exact ⟨k2, k3⟩
/-- sizes are so many steps -/
theorem sz_step {us : List (Str × Int)} {d : Nat} {s : Str} {l : Int} (g : Good us d s l) {k : Nat} (h1 : 1 ≤ k) (h2 : k < us.length) : szOf us k = (stepsOf us d).getD k 0 * 10 ^ d := by
  rw [step_at h1 h2]
  obtain ⟨j, rfl⟩ : ∃ j, k = j + 1 := ⟨k - 1, by omega⟩
  have hu : us[j + 1]? = some us[j + 1] := List.getElem?_eq_getElem h2
  have hm : us[j + 1] ∈ us.drop 1 := List.mem_of_getElem? (i := j) (by rw [List.getElem?_drop, Nat.add_comm 1 j]; exact hu)
  have hz := g.div _ hm
  rw [szOf_at hu]
  have hp := pow_lo d
  have hd : (10 ^ d : Int) ∣ us[j + 1].2 := Int.dvd_trans ⟨2, Int.mul_comm _ _⟩ (Int.dvd_of_emod_eq_zero hz)
  exact (Int.ediv_mul_cancel hd).symm
theorem sz_dvd {us : List (Str × Int)} (g : GoodUs us) {i : Nat} (h : i + 1 < us.length) : ∃ q : Int, szOf us (i + 1) = szOf us i * q := by
  have h1 : us[i + 1]? = some us[i + 1] := List.getElem?_eq_getElem h
  have h0 : us[i]? = some us[i] := List.getElem?_eq_getElem (by omega)
  obtain ⟨_, _, _, hf⟩ := g.each (i + 1) _ h1
  rw [szOf_at h1, szOf_at h0]
  have el : (us.take (i + 1)).length = i + 1 := by rw [List.length_take]; omega
  rcases hf with ⟨e, _⟩ | ⟨l, hl, _, _, _, h4, _⟩
  · rw [e] at el
    cases el
  · rw [el, Nat.add_sub_cancel, List.getElem?_take, if_pos (Nat.lt_succ_self i), h0] at hl
    rw [Option.some.inj hl]
    exact Int.dvd_of_emod_eq_zero h4
theorem next_thr {us : List (Str × Int)} {d : Nat} {s : Str} {l n : Int} (g : Good us d s l) (h0 : 0 ≤ n) (hp : placeOf us l n + 1 < us.length) : n < (thrsOf us l).getD (placeOf us l n + 1) 0 := by
  have hr := reached (n := n) g.u g.l1 h0 hp
  have e : (thrsOf us l).getD (placeOf us l n + 1) 0 = szOf us (placeOf us l n + 1) * l := by rw [List.getD_eq_getElem?_getD, thr_at (by omega) hp]; rfl
  rw [e]
  rcases Int.lt_or_le n (szOf us (placeOf us l n + 1) * l) with z | z
  · exact z
  · have := hr.mp (.inr z)
    omega
theorem down_not {us : List (Str × Int)} {d : Nat} {s : Str} {c : Bool} {l n m : Int} (g : Good us d s l) (h0 : 0 ≤ n) (hm : m * stOf us d l n ≤ n) : isCar us d c l (placeOf us l n) m = false := by
  unfold isCar
  by_cases hp : placeOf us l n + 1 < us.length
  · have h1 := next_thr g h0 hp
    have h2 : ¬ (thrsOf us l).getD (placeOf us l n + 1) 0 ≤ m * (stepsOf us d).getD (placeOf us l n) 0 := fun y => by
      have h3 : m * (stepsOf us d).getD (placeOf us l n) 0 ≤ n := hm
      omega
    rw [decide_eq_false h2, Bool.and_false, Bool.and_false]
  · rw [decide_eq_false hp, Bool.false_and, Bool.and_false]
theorem rnd_of {n st b r : Int} {s : Str} (h0 : 0 ≤ r) (h1 : r < st) (e : n = b * st + r) : rnd n st s = if goesUp b r st s = true then b + 1 else b := by
  have e1 : n / st = b := by
    rw [e, Int.add_comm, Int.add_mul_ediv_right _ _ (by omega), Int.ediv_eq_zero_of_lt h0 h1, Int.zero_add]
  have e2 : n % st = r := by
    rw [e, Int.add_comm, Int.add_mul_emod_self_right, Int.emod_eq_of_lt h0 h1]
  unfold rnd
  rw [e1, e2]
theorem goes_cases (b r st : Int) (s : Str) : (s = "up" ∧ goesUp b r st s = decide (0 < r)) ∨ (s = "near" ∧ goesUp b r st s = decide (st ≤ 2 * r)) ∨ (s = "even" ∧ goesUp b r st s = (decide (st < 2 * r) || (decide (2 * r = st) && decide (b % 2 = 1)))) ∨ (s ≠ "up" ∧ s ≠ "near" ∧ s ≠ "even" ∧ goesUp b r st s = false) := by
  unfold goesUp
  by_cases h1 : s = "up"
  · exact .inl ⟨h1, by rw [if_pos h1]⟩
  · by_cases h2 : s = "near"
    · exact .inr (.inl ⟨h2, by rw [if_neg h1, if_pos h2]⟩)
    · by_cases h3 : s = "even"
      · exact .inr (.inr (.inl ⟨h3, by rw [if_neg h1, if_neg h2, if_pos h3]⟩))
      · exact .inr (.inr (.inr ⟨h1, h2, h3, by rw [if_neg h1, if_neg h2, if_neg h3]⟩))
/-- the worth of a number's figure, whether it is carried or not -/
theorem worth_core {us : List (Str × Int)} {d : Nat} {s : Str} {c : Bool} {l n : Int} (g : Good us d s l) (h0 : 0 ≤ n) : worthM us d s c l n = rnd n (stOf us d l n) s * stOf us d l n := by
  have hpl := place_lt g h0
  obtain ⟨sp, sp2⟩ := st_pos g h0
  unfold worthM placedM
  cases ec : isCar us d c l (placeOf us l n) (rnd n ((stepsOf us d).getD (placeOf us l n) 0) s) with
  | false =>
    rw [if_neg Bool.false_ne_true]
    rfl
  | true =>
    rw [if_pos rfl]
    show rnd n ((stepsOf us d).getD (placeOf us l n + 1) 0) s * (stepsOf us d).getD (placeOf us l n + 1) 0 = _
    have hp1 := isCar_lt ec
    have hlt := next_thr g h0 hp1
    have hT : (thrsOf us l).getD (placeOf us l n + 1) 0 ≤ rnd n (stOf us d l n) s * stOf us d l n := by
      unfold isCar at ec
      rw [Bool.and_eq_true, Bool.and_eq_true] at ec
      exact of_decide_eq_true ec.2.2
    have eT : (thrsOf us l).getD (placeOf us l n + 1) 0 = szOf us (placeOf us l n + 1) * l := by rw [List.getD_eq_getElem?_getD, thr_at (by omega) hp1]; rfl
    have hz1 := sz_step g (k := placeOf us l n + 1) (by omega) hp1
    have hst' := (steps_ok g hp1).2
    have hmod0 := Int.emod_nonneg n (b := stOf us d l n) (by omega)
    have hmod1 := Int.emod_lt_of_pos n sp
    have hdm := Int.mul_ediv_add_emod n (stOf us d l n)
    -- so many steps are the threshold
    have hdiv : ∃ q : Int, szOf us (placeOf us l n + 1) = stOf us d l n * q ∧ (1 ≤ placeOf us l n → stOf us d l n < (stepsOf us d).getD (placeOf us l n + 1) 0) ∧ (placeOf us l n = 0 → stOf us d l n = 1) := by
      rcases Nat.eq_zero_or_pos (placeOf us l n) with z | z
      · refine ⟨szOf us (placeOf us l n + 1), ?_, fun y => by omega, fun _ => ?_⟩
        · have : stOf us d l n = 1 := by unfold stOf; rw [z]; rfl
          rw [this, Int.one_mul]
        · unfold stOf
          rw [z]
          rfl
      · obtain ⟨q, hq⟩ := sz_dvd g.u hp1
        have hz0 := sz_step g (k := placeOf us l n) z hpl
        have hup := sz_up g.u hp1
        refine ⟨10 ^ d * q, ?_, fun _ => ?_, fun y => by omega⟩
        · rw [hq, hz0, Int.mul_assoc]
          rfl
        · have hp := pow_lo d
          rw [hz0, hz1] at hup
          exact Int.lt_of_mul_lt_mul_right hup (Int.le_of_lt hp)
    obtain ⟨q, hq, hbig, hone⟩ := hdiv
    have eT2 : szOf us (placeOf us l n + 1) * l = (q * l) * stOf us d l n := by rw [hq, Int.mul_assoc, Int.mul_comm]
    have eT3 : szOf us (placeOf us l n + 1) * l = (10 ^ d * l) * (stepsOf us d).getD (placeOf us l n + 1) 0 := by rw [hz1, Int.mul_assoc, Int.mul_comm]
    rw [eT, eT2] at hlt hT
    generalize (stepsOf us d).getD (placeOf us l n + 1) 0 = st' at hst' hbig eT3 ⊢
    rw [eT2] at eT3
    generalize q * l = Q at hlt hT eT3
    generalize (10 ^ d * l : Int) = Q' at eT3
    generalize stOf us d l n = st at *
    have hr := rnd_of (n := n) (st := st) (b := n / st) (r := n % st) (s := s) hmod0 hmod1 (by rw [Int.mul_comm (n / st) st]; omega)
    generalize n / st = b at *
    generalize n % st = r at *
    have hbQ : b < Q := by
      rcases Int.lt_or_le b Q with z | z
      · exact z
      · exfalso
        have h1 : Q * st ≤ b * st := Int.mul_le_mul_of_nonneg_right z (by omega)
        rw [Int.mul_comm b st] at h1
        omega
    cases eg : goesUp b r st s with
    | false =>
      rw [eg, if_neg Bool.false_ne_true] at hr
      rw [hr] at hT
      exfalso
      rw [Int.mul_comm b st] at hT
      omega
    | true =>
      rw [eg, if_pos rfl] at hr
      rw [hr] at hT ⊢
      have hQb : b + 1 = Q := by
        have h1 : Q ≤ b + 1 := by
          rcases Int.lt_or_le (b + 1) Q with z | z
          · exfalso
            have h1 : (b + 1 + 1) * st ≤ Q * st := Int.mul_le_mul_of_nonneg_right (by omega) (by omega)
            have h2 : (b + 1 + 1) * st = (b + 1) * st + st := by rw [Int.add_mul, Int.one_mul]
            omega
          · exact z
        omega
      rw [hQb, eT3]
      -- the rest to the threshold
      have hk : Q * st = st * b + st := by rw [← hQb, Int.add_mul, Int.one_mul, Int.mul_comm b st]
      have e' : n = (Q' - 1) * st' + (st' - (st - r)) := by
        rw [Int.sub_mul, Int.one_mul, ← eT3, hk]
        omega
      have hr0 : 0 < r := by
        rcases goes_cases b r st s with ⟨_, h⟩ | ⟨_, h⟩ | ⟨_, h⟩ | ⟨_, _, _, h⟩ <;> rw [h] at eg
        · exact of_decide_eq_true eg
        · have := of_decide_eq_true eg
          omega
        · rw [Bool.or_eq_true, Bool.and_eq_true] at eg
          rcases eg with y | y
          · have := of_decide_eq_true y
            omega
          · have := of_decide_eq_true y.1
            omega
        · cases eg
      have hb1 : 1 ≤ placeOf us l n := by
        rcases Nat.eq_zero_or_pos (placeOf us l n) with z | z
        · have := hone z
          omega
        · exact z
      have hlt' := hbig hb1
      have hr2 := rnd_of (n := n) (st := st') (b := Q' - 1) (r := st' - (st - r)) (s := s) (by omega) (by omega) e'
      have eg' : goesUp (Q' - 1) (st' - (st - r)) st' s = true := by
        rcases goes_cases b r st s with ⟨hs, h⟩ | ⟨hs, h⟩ | ⟨hs, h⟩ | ⟨_, _, _, h⟩ <;> rw [h] at eg
        · rcases goes_cases (Q' - 1) (st' - (st - r)) st' s with ⟨_, h'⟩ | ⟨z, _⟩ | ⟨z, _⟩ | ⟨z, _⟩
          · rw [h']; exact decide_eq_true (by omega)
          · rw [hs] at z; exact absurd z (by decide +kernel)
          · rw [hs] at z; exact absurd z (by decide +kernel)
          · exact absurd hs z
        · have h2 := of_decide_eq_true eg
          rcases goes_cases (Q' - 1) (st' - (st - r)) st' s with ⟨z, _⟩ | ⟨_, h'⟩ | ⟨z, _⟩ | ⟨_, z, _⟩
          · rw [hs] at z; exact absurd z (by decide +kernel)
          · rw [h']; exact decide_eq_true (by omega)
          · rw [hs] at z; exact absurd z (by decide +kernel)
          · exact absurd hs z
        · have h2 : st ≤ 2 * r := by
            rw [Bool.or_eq_true, Bool.and_eq_true] at eg
            rcases eg with y | y
            · have := of_decide_eq_true y
              omega
            · have := of_decide_eq_true y.1
              omega
          rcases goes_cases (Q' - 1) (st' - (st - r)) st' s with ⟨z, _⟩ | ⟨z, _⟩ | ⟨_, h'⟩ | ⟨_, _, z, _⟩
          · rw [hs] at z; exact absurd z (by decide +kernel)
          · rw [hs] at z; exact absurd z (by decide +kernel)
          · rw [h', Bool.or_eq_true]; exact .inl (decide_eq_true (by omega))
          · exact absurd hs z
        · cases eg
      rw [hr2, eg', if_pos rfl, Int.sub_add_cancel]
end My

namespace My
open PySem PySem.Spec PyProof.Rows L2
theorem goes_down (b r st : Int) : goesUp b r st "down" = false := by
  rcases goes_cases b r st "down" with ⟨z, _⟩ | ⟨z, _⟩ | ⟨z, _⟩ | ⟨_, _, _, h⟩
  · exact absurd z (by decide +kernel)
  · exact absurd z (by decide +kernel)
  · exact absurd z (by decide +kernel)
  · exact h
theorem goes_zero {b st : Int} {s : Str} (h : 0 < st) : goesUp b 0 st s = false := by
  rcases goes_cases b 0 st s with ⟨_, e⟩ | ⟨_, e⟩ | ⟨_, e⟩ | ⟨_, _, _, e⟩ <;> rw [e]
  · rfl
  · exact decide_eq_false (by omega)
  · rw [decide_eq_false (show ¬ st < 2 * 0 by omega), decide_eq_false (show ¬ (2 : Int) * 0 = st by omega)]
    rfl
theorem placed_down {us : List (Str × Int)} {d : Nat} {s : Str} {c : Bool} {l n : Int} (g : Good us d s l) (h0 : 0 ≤ n) : placedM us d "down" c l n = (placeOf us l n, n / stOf us d l n) := by
  obtain ⟨sp, _⟩ := st_pos g h0
  have er : rnd n (stOf us d l n) "down" = n / stOf us d l n := by
    unfold rnd
    rw [goes_down, if_neg Bool.false_ne_true]
  unfold placedM
  show (if isCar us d c l (placeOf us l n) (rnd n (stOf us d l n) "down") = true then _ else (placeOf us l n, rnd n (stOf us d l n) "down")) = _
  rw [er, down_not g h0 (Int.ediv_mul_le n (by omega)), if_neg Bool.false_ne_true]
theorem place_back {us : List (Str × Int)} {d : Nat} {s : Str} {l n : Int} (g : Good us d s l) (h0 : 0 ≤ n) : 0 ≤ n / stOf us d l n * stOf us d l n ∧ n / stOf us d l n * stOf us d l n ≤ n ∧ placeOf us l (n / stOf us d l n * stOf us d l n) = placeOf us l n := by
  obtain ⟨sp, _⟩ := st_pos g h0
  have hpl := place_lt g h0
  have h1 : n / stOf us d l n * stOf us d l n ≤ n := Int.ediv_mul_le n (by omega)
  have h2 : 0 ≤ n / stOf us d l n * stOf us d l n := Int.mul_nonneg (Int.ediv_nonneg h0 (by omega)) (by omega)
  refine ⟨h2, h1, ?_⟩
  have hv := place_lt g h2
  have a1 : placeOf us l (n / stOf us d l n * stOf us d l n) ≤ placeOf us l n := by
    refine (reached (n := n) g.u g.l1 h0 hv).mp ?_
    rcases (reached g.u g.l1 h2 hv).mpr (Nat.le_refl _) with y | y
    · exact .inl y
    · exact .inr (Int.le_trans y h1)
  have a2 : placeOf us l n ≤ placeOf us l (n / stOf us d l n * stOf us d l n) := by
    refine (reached g.u g.l1 h2 hpl).mp ?_
    rcases (reached g.u g.l1 h0 hpl).mpr (Nat.le_refl _) with y | y
    · exact .inl y
    · rcases Nat.eq_zero_or_pos (placeOf us l n) with z | z
      · exact .inl z
      · refine .inr ?_
        have e := sz_step g z hpl
        have e2 : szOf us (placeOf us l n) * l = (10 ^ d * l) * stOf us d l n := by
          rw [e, Int.mul_assoc, Int.mul_comm]
          rfl
        rw [e2] at y ⊢
        exact Int.mul_le_mul_of_nonneg_right ((Int.le_ediv_iff_mul_le sp).mpr y) (by omega)
  omega
theorem placed_back {us : List (Str × Int)} {d : Nat} {s : Str} {c : Bool} {l n : Int} (g : Good us d s l) (h0 : 0 ≤ n) : placedM us d s c l (n / stOf us d l n * stOf us d l n) = (placeOf us l n, n / stOf us d l n) := by
  obtain ⟨sp, _⟩ := st_pos g h0
  obtain ⟨v0, v1, ev⟩ := place_back g h0
  have es : stOf us d l (n / stOf us d l n * stOf us d l n) = stOf us d l n := by
    unfold stOf
    unfold stOf at ev
    rw [ev]
  have er : rnd (n / stOf us d l n * stOf us d l n) (stOf us d l n) s = n / stOf us d l n := by
    rw [rnd_of (b := n / stOf us d l n) (r := 0) (Int.le_refl 0) sp (by omega), goes_zero sp, if_neg Bool.false_ne_true]
  have hn := down_not (c := c) g v0 (m := n / stOf us d l n) (by rw [es]; exact Int.le_refl _)
  unfold placedM
  show (if isCar us d c l (placeOf us l (n / stOf us d l n * stOf us d l n)) (rnd _ (stOf us d l (n / stOf us d l n * stOf us d l n)) s) = true then _ else (placeOf us l (n / stOf us d l n * stOf us d l n), rnd _ (stOf us d l (n / stOf us d l n * stOf us d l n)) s)) = _
  rw [es, er, hn, if_neg Bool.false_ne_true, ev]
theorem worth_val {us : List (Str × Int)} {d : Nat} {s : Str} {c : Bool} {l n : Int} (g : Good us d s l) (h0 : 0 ≤ n) :
    worthM us d s c l n = if goesUp (n / stOf us d l n) (n % stOf us d l n) (stOf us d l n) s = true then n / stOf us d l n * stOf us d l n + stOf us d l n else n / stOf us d l n * stOf us d l n := by
  rw [worth_core g h0]
  unfold rnd
  split
  · rw [Int.add_mul, Int.one_mul]
  · rfl
theorem Good.sort {us : List (Str × Int)} {d : Nat} {s t : Str} {l : Int} (g : Good us d s l) (h : t ∈ sorts) : Good us d t l := ⟨g.u, g.d3, g.div, h, g.l1, g.l2⟩
theorem cmp_abs {n st b r B w0 w1 w2 w3 : Int} (sp : 0 < st) (m0 : 0 ≤ r) (m1 : r < st) (hdm : B + r = n) (e0 : w0 = B)
    (e1 : w1 = if st ≤ 2 * r then B + st else B) (e2 : w2 = if st < 2 * r ∨ 2 * r = st ∧ b % 2 = 1 then B + st else B) (e3 : w3 = if 0 < r then B + st else B) :
    (w0 ≤ w1 ∧ w1 ≤ w3) ∧ (w0 ≤ w2 ∧ w2 ≤ w3) ∧ (w3 - w0 = if w0 = n then 0 else st) ∧ (w1 ≠ w2 → 2 * (n - w0) = st ∧ ¬ b % 2 = 1 ∧ w2 = w0) := by
  have f1 : (st ≤ 2 * r ∧ w1 = B + st) ∨ (¬ st ≤ 2 * r ∧ w1 = B) := by
    split at e1
    · exact .inl ⟨‹_›, e1⟩
    · exact .inr ⟨‹_›, e1⟩
  have f2 : ((st < 2 * r ∨ 2 * r = st ∧ b % 2 = 1) ∧ w2 = B + st) ∨ (¬ (st < 2 * r ∨ 2 * r = st ∧ b % 2 = 1) ∧ w2 = B) := by
    split at e2
    · exact .inl ⟨‹_›, e2⟩
    · exact .inr ⟨‹_›, e2⟩
  have f3 : (0 < r ∧ w3 = B + st) ∨ (¬ 0 < r ∧ w3 = B) := by
    split at e3
    · exact .inl ⟨‹_›, e3⟩
    · exact .inr ⟨‹_›, e3⟩
  clear e1 e2 e3
  refine ⟨by omega, by omega, ?_, fun hne => by omega⟩
  split <;> omega
/-- what is asked of the four worths, their base b * st, the rest r -/
structure Cmp (n st : Int) (w0 w1 w2 w3 : Int) : Prop where
  e0 : w0 = n / st * st
  o1 : w0 ≤ w1 ∧ w1 ≤ w3
  o2 : w0 ≤ w2 ∧ w2 ≤ w3
  e3 : w3 - w0 = if w0 = n then 0 else st
  ne : w1 ≠ w2 → 2 * (n - w0) = st ∧ ¬ n / st % 2 = 1 ∧ w2 = w0
theorem cmp_ok {us : List (Str × Int)} {d : Nat} {s : Str} {c : Bool} {l n : Int} (g : Good us d s l) (h0 : 0 ≤ n) : Cmp n (stOf us d l n) (worthM us d "down" c l n) (worthM us d "near" c l n) (worthM us d "even" c l n) (worthM us d "up" c l n) := by
  obtain ⟨sp, _⟩ := st_pos g h0
  have e0 := worth_val (c := c) (g.sort (t := "down") (by simp [sorts])) h0
  have e1 := worth_val (c := c) (g.sort (t := "near") (by simp [sorts])) h0
  have e2 := worth_val (c := c) (g.sort (t := "even") (by simp [sorts])) h0
  have e3 := worth_val (c := c) (g.sort (t := "up") (by simp [sorts])) h0
  have m0 := Int.emod_nonneg n (b := stOf us d l n) (by omega)
  have m1 := Int.emod_lt_of_pos n sp
  have hdm := Int.mul_ediv_add_emod n (stOf us d l n)
  rw [Int.mul_comm] at hdm
  rw [goes_down, if_neg Bool.false_ne_true] at e0
  have u1 : goesUp (n / stOf us d l n) (n % stOf us d l n) (stOf us d l n) "near" = decide (stOf us d l n ≤ 2 * (n % stOf us d l n)) := by
    unfold goesUp
    rw [if_neg (by decide +kernel), if_pos rfl]
  have u2 : goesUp (n / stOf us d l n) (n % stOf us d l n) (stOf us d l n) "even" = (decide (stOf us d l n < 2 * (n % stOf us d l n)) || (decide (2 * (n % stOf us d l n) = stOf us d l n) && decide (n / stOf us d l n % 2 = 1))) := by
    unfold goesUp
    rw [if_neg (by decide +kernel), if_neg (by decide +kernel), if_pos rfl]
  have u3 : goesUp (n / stOf us d l n) (n % stOf us d l n) (stOf us d l n) "up" = decide (0 < n % stOf us d l n) := by
    unfold goesUp
    rw [if_pos rfl]
  rw [u1] at e1
  rw [u2] at e2
  rw [u3] at e3
  simp only [decide_eq_true_eq, Bool.or_eq_true, Bool.and_eq_true] at e1 e2 e3
  obtain ⟨q1, q2, q3, q4⟩ := cmp_abs sp m0 m1 hdm e0 e1 e2 e3
  exact ⟨e0, q1, q2, q3, q4⟩
end My

namespace My
open PySem PySem.Spec PyProof.Rows L2
/-! ### stretches -/
abbrev sFirstR : Stmt := top 46
abbrev sStartOf : Stmt := top 47
abbrev sNums : Stmt := top 49
theorem scFirstR : FnScope ["mark", "step", "rounding", "middle"] ["mark", "step", "rounding"] (defScope sFirstR) := ⟨rfl, rfl, rfl, by decide +kernel, rfl, by decide +kernel, by decide +kernel⟩
theorem scStartOf : FnScope ["ladder", "place", "threshold", "step"] ["ladder", "place"] (defScope sStartOf) := ⟨rfl, rfl, rfl, by decide +kernel, rfl, by decide +kernel, by decide +kernel⟩
theorem scNums : FnScope ["ladder", "place", "mark", "step", "low", "high"] ["ladder", "place", "mark"] (defScope sNums) := ⟨rfl, rfl, rfl, by decide +kernel, rfl, by decide +kernel, by decide +kernel⟩
/-- the first number that is rounded to a mark -/
def firstR (m st : Int) (s : Str) : Int :=
  if m = 0 ∨ st = 1 ∨ s = "down" then m * st else if s = "up" then (m - 1) * st + 1 else if s = "even" ∧ m % 2 = 1 then m * st - st / 2 + 1 else m * st - st / 2
/-- the first number that is shown with the unit at p -/
def startM (us : List (Str × Int)) (d : Nat) (s : Str) (c : Bool) (l : Int) (p : Nat) : Int :=
  if p = 0 ∨ c = false then (thrsOf us l).getD p 0 else firstR ((thrsOf us l).getD p 0 / (stepsOf us d).getD (p - 1) 0) ((stepsOf us d).getD (p - 1) 0) s
def max2 (x y : Int) : Int := if y > x then y else x
def min2 (x y : Int) : Int := if y < x then y else x
def lowM (us : List (Str × Int)) (d : Nat) (s : Str) (c : Bool) (l : Int) (p : Nat) (m : Int) : Int := max2 (firstR m ((stepsOf us d).getD p 0) s) (startM us d s c l p)
def highM (us : List (Str × Int)) (d : Nat) (s : Str) (c : Bool) (l : Int) (p : Nat) (m : Int) : Int :=
  if p + 1 < us.length then min2 (firstR (m + 1) ((stepsOf us d).getD p 0) s - 1) (startM us d s c l (p + 1) - 1) else firstR (m + 1) ((stepsOf us d).getD p 0) s - 1
def spFirstR : Sp := fun vs H Q _ => ∃ (m st : Int) (s : Str), vs = [.int m, .int st, .str s] ∧ 0 < st ∧ st ≤ 1000000000000000000 ∧ Q (.int (firstR m st s)) H
def spStartOf (K : PySem.W.Frag) (C : Addr) : Sp := fun vs H Q _ => ∃ (a : Addr) (us : List (Str × Int)) (d : Nat) (s : Str) (c : Bool) (l : Int) (p : Nat), vs = [.ref a, .int (p : Int)] ∧ LadAt K C H a us d s c l ∧ Good us d s l ∧ p < us.length ∧ Q (.int (startM us d s c l p)) H
def spNums (K : PySem.W.Frag) (C : Addr) : Sp := fun vs H Q _ => ∃ (a : Addr) (us : List (Str × Int)) (d : Nat) (s : Str) (c : Bool) (l : Int) (p : Nat) (m : Int), vs = [.ref a, .int (p : Int), .int m] ∧ LadAt K C H a us d s c l ∧ Good us d s l ∧ p < us.length ∧
  (highM us d s c l p m < lowM us d s c l p m → Q .non H) ∧ (lowM us d s c l p m ≤ highM us d s c l p m → ∀ (r : Addr) (H' : Hp), Same H H' → SqT K H' r [.int (lowM us d s c l p m), .int (highM us d s c l p m)] → Q (.ref r) H')
theorem thr_get {us : List (Str × Int)} {d : Nat} {s : Str} {l : Int} (g : Good us d s l) {p : Nat} (hp : p < us.length) : (thrsOf us l)[p]? = some ((thrsOf us l).getD p 0) := by
  have e := len_thrs us l g.u.lo
  have h1 : (thrsOf us l)[p]? = some (thrsOf us l)[p] := List.getElem?_eq_getElem (by omega)
  rw [List.getD_eq_getElem?_getD, h1]
  rfl
theorem divw_small {i j : Int} (h : 0 < j) (hj : j ≤ 1000000000000000000) : CDivW i j := ⟨h, Nat.lt_of_lt_of_le (PySem.Flt.log2_lt_of (k := 64) (by decide) (by omega)) (by decide)⟩
section
variable {P : Program} {w : World} {K : PySem.W.Frag} {mg : Str → Option Value} {base : Heap}
theorem ok_firstr (d : Dd K mg "first_rounded" sFirstR ["mark", "step", "rounding"]) : FnOk P w K mg base CX0 2 d.f d.fd ["mark", "step", "rounding"] spFirstR := by
  refine d.F.ok scFirstR (fun vs H Q E h => ?_) (fun cdv A outer s H vs Q E hr h => ?_)
  · obtain ⟨_, _, _, rfl, _⟩ := h
    rfl
  · obtain ⟨m, st, z, rfl, h0, h1, q⟩ := h
    have nd := scFirstR.nd
    refine ⟨_, pss_cons (ps_if (PW.pt (pw_or (pt_cmpR op_eq (pv 0) pe_int (nomark _)) (pw_or (pt_cmpR op_eq (pv 1) pe_int (nomark _)) (pw_or1 (pt_cmpR op_eq (pv 2) pe_str (nomark _)))))) (pss_one (ps_ret (pe_op op_mul (pv 0) (pv 1)))) pss_nil)
      (pss_cons (ps_if (pt_cmpR op_eq (pv 2) pe_str (nomark _)) (pss_one (ps_ret (pe_op op_add (pe_op op_mul (pe_op op_sub (pv 0) pe_int) (pv 1)) pe_int))) pss_nil)
      (pss_cons (ps_set (i := 3) nd rfl (.inl rfl) (pe_op op_sub (pe_op op_mul (pv 0) (pv 1)) (pe_op op_fdiv (pv 1) pe_int)))
      (pss_cons (ps_if (PW.pt (pw_and (pt_cmpR op_eq (pv 2) pe_str (nomark _)) (pw_and1 (pt_cmpR op_eq (pe_op op_mod (pv 0) pe_int) pe_int (nomark _))))) (pss_one (ps_ret (pe_op op_add (pv 3) pe_int))) pss_nil)
      (pss_one (ps_ret (pv 3)))))), ?_⟩
    have hd : ∀ x : Str, decide (V.str z = V.str x) = true → z = x := fun x e => V.str.inj (of_decide_eq_true e)
    have hn : ∀ x : Str, ¬ decide (V.str z = V.str x) = true → ¬ z = x := fun x e y => e (decide_eq_true (congrArg V.str y))
    have hi : ∀ x y : Int, decide (V.int x = V.int y) = true → x = y := fun x y e => V.int.inj (of_decide_eq_true e)
    have hni : ∀ x y : Int, ¬ decide (V.int x = V.int y) = true → ¬ x = y := fun x y e k => e (decide_eq_true (congrArg V.int k))
    have first : (m = 0 ∨ st = 1 ∨ z = "down") → Q (.int (m * st)) H := fun e => by
      unfold firstR at q
      rw [if_pos e] at q
      exact q
    refine ⟨_, rfl, rfl, _, rfl, ite2 (fun e => ?_) (fun e => ?_)⟩
    · refine iteT ?_
      exact ⟨_, rfl, _, rfl, m, st, rfl, rfl, .inr ⟨by omega, by omega⟩, first (.inl (hi _ _ e))⟩
    refine ⟨_, rfl, rfl, _, rfl, ite2 (fun e1 => ?_) (fun e1 => ?_)⟩
    · refine iteT ?_
      exact ⟨_, rfl, _, rfl, m, st, rfl, rfl, .inr ⟨by omega, by omega⟩, first (.inr (.inl (hi _ _ e1)))⟩
    refine ⟨_, rfl, rfl, _, rfl, ite2 (fun e2 => ?_) (fun e2 => ?_)⟩
    · exact ⟨_, rfl, _, rfl, m, st, rfl, rfl, .inr ⟨by omega, by omega⟩, first (.inr (.inr (hd _ e2)))⟩
    unfold firstR at q
    rw [if_neg (fun y => y.elim (hni _ _ e) (fun y => y.elim (hni _ _ e1) (hn _ e2)))] at q
    refine ⟨_, rfl, rfl, _, rfl, ite2 (fun e3 => ?_) (fun e3 => ?_)⟩
    · rw [if_pos (hd _ e3)] at q
      exact ⟨_, rfl, m, 1, rfl, rfl, _, rfl, _, st, rfl, rfl, .inr ⟨by omega, by omega⟩, _, _, rfl, rfl, q⟩
    rw [if_neg (hn _ e3)] at q
    refine ⟨_, rfl, _, rfl, m, st, rfl, rfl, .inr ⟨by omega, by omega⟩, _, rfl, st, 2, rfl, rfl, ⟨by decide, by decide⟩, _, _, rfl, rfl, ?_⟩
    refine ⟨_, rfl, rfl, _, rfl, ite2 (fun e4 => ?_) (fun e4 => ?_)⟩
    · refine ⟨_, rfl, m, 2, rfl, rfl, (by show (0 : Int) < 2; decide), rfl, _, rfl, ite2 (fun e5 => ?_) (fun e5 => ?_)⟩
      · rw [if_pos ⟨hd _ e4, hi _ _ e5⟩] at q
        exact ⟨_, rfl, _, 1, rfl, rfl, q⟩
      · rw [if_neg (fun y => hni _ _ e5 y.2)] at q
        exact ⟨_, rfl, q⟩
    · rw [if_neg (fun y => hn _ e4 y.1)] at q
      exact ⟨_, rfl, q⟩
theorem ok_startof (d : Dd K mg "start_of" sStartOf ["ladder", "place"]) (dR : Dd K mg "first_rounded" sFirstR ["mark", "step", "rounding"]) (L : LadC K mg) : FnOk P w K mg base CX0 3 d.f d.fd ["ladder", "place"] (spStartOf K L.C) := by
  have GR : FnOk P w K mg base CX0 2 dR.f dR.fd ["mark", "step", "rounding"] spFirstR := ok_firstr dR
  refine d.F.ok scStartOf (fun vs H Q E h => ?_) (fun cdv A outer s H vs Q E hr h => ?_)
  · obtain ⟨_, _, _, _, _, _, _, rfl, _⟩ := h
    rfl
  · obtain ⟨a, us, dn, z, c, l, p, rfl, ⟨dx, ua, t, st, th, hp, hua, ht, hs, hth⟩, g, hlt, q⟩ := h
    have nd := scStartOf.nd
    refine ⟨_, pss_cons (ps_set (i := 2) nd rfl (.inl rfl) (pe_ix ix_tup (pe_fld (pv 0) rfl) (pv 1) (fun _ _ => rfl)))
      (pss_cons (ps_if (PW.pt (pw_or (pt_cmpR op_eq (pv 1) pe_int (nomark _)) (pw_or1 (pt_not (pt_val (pe_fld (pv 0) rfl)))))) (pss_one (ps_ret (pv 2))) pss_nil)
      (pss_cons (ps_set (i := 3) nd rfl (.inl rfl) (pe_ix ix_tup (pe_fld (pv 0) rfl) (pe_op op_sub (pv 1) pe_int) (fun _ _ => rfl)))
      (pss_one (ps_ret (pe_call GR hr (by rfl) dR.g dR.F.kp dR.b .nil pass0 (pa_cons (pe_op op_fdivW (pv 2) (pv 3)) (pa_cons (pv 3) (pa_cons (pe_fld (pv 0) rfl) pa_nil)))))))), ?_⟩
    have ht0 := thr_get g hlt
    unfold startM at q
    refine ⟨_, rfl, a, L.C, dx, _, _, rfl, hp, L.cl, L.nThr, fl_thr .., _, rfl, th, _, p, .int ((thrsOf us l).getD p 0), rfl, rfl, hth, atI_nat (by rw [List.getElem?_map, ht0]; rfl), ?_⟩
    refine ⟨_, rfl, rfl, _, rfl, ite2 (fun e => ?_) (fun e => ?_)⟩
    · have e0 : p = 0 := by have := V.int.inj (of_decide_eq_true e); omega
      rw [if_pos (.inl e0)] at q
      exact iteT ⟨_, rfl, q⟩
    have e0 : ¬ p = 0 := fun y => e (decide_eq_true (by rw [y]; rfl))
    refine ⟨_, rfl, a, L.C, dx, _, _, rfl, hp, L.cl, L.nCarry, fl_carry .., _, rfl, ?_⟩
    cases c with
    | false =>
      rw [if_pos (.inr rfl)] at q
      exact iteT ⟨_, rfl, q⟩
    | true =>
      rw [if_neg (fun y => y.elim e0 (fun y => Bool.noConfusion y))] at q
      refine iteF ?_
      obtain ⟨k1, k2, k3⟩ := steps_ok g (p := p - 1) (by omega)
      have ep : (p : Int) - 1 = ((p - 1 : Nat) : Int) := by omega
      refine ⟨_, rfl, a, L.C, dx, _, _, rfl, hp, L.cl, L.nSteps, fl_steps .., _, rfl, p, 1, rfl, rfl, st, _, ((p - 1 : Nat) : Int), .int ((stepsOf us dn).getD (p - 1) 0), rfl, congrArg V.int ep, hs, atI_nat (by rw [List.getElem?_map, k1]; rfl), ?_⟩
      refine ⟨_, rfl, _, rfl, _, _, rfl, rfl, divw_small k2 k3, _, rfl, _, rfl, a, L.C, dx, _, _, rfl, hp, L.cl, L.nRnd, fl_rnd .., _, _, z, rfl, k2, k3, q⟩
theorem ok_nums (d : Dd K mg "numbers_shown" sNums ["ladder", "place", "mark"]) (dS : Dd K mg "start_of" sStartOf ["ladder", "place"]) (dR : Dd K mg "first_rounded" sFirstR ["mark", "step", "rounding"]) (L : LadC K mg) (B : Bt mg) : FnOk P w K mg base CX0 4 d.f d.fd ["ladder", "place", "mark"] (spNums K L.C) := by
  have GR : FnOk P w K mg base CX0 2 dR.f dR.fd ["mark", "step", "rounding"] spFirstR := ok_firstr dR
  have GS : FnOk P w K mg base CX0 3 dS.f dS.fd ["ladder", "place"] (spStartOf K L.C) := ok_startof dS dR L
  refine d.F.ok scNums (fun vs H Q E h => ?_) (fun cdv A outer s H vs Q E hr h => ?_)
  · obtain ⟨_, _, _, _, _, _, _, _, rfl, _⟩ := h
    rfl
  · obtain ⟨a, us, dn, z, c, l, p, m, rfl, hL, g, hlt, q0, q1⟩ := h
    have nd := scNums.nd
    have hr1 : Room 2 _ := hr.mono (by decide)
    refine ⟨_, pss_cons (ps_set (i := 3) nd rfl (.inl rfl) (pe_ix ix_tup (pe_fld (pv 0) rfl) (pv 1) (fun _ _ => rfl)))
      (pss_cons (ps_set (i := 4) nd rfl (.inl rfl) (pe_callB (call_max2 rfl) (by rfl) B.max (by decide +kernel) (pa_cons (pe_call GR hr1 (by rfl) dR.g dR.F.kp dR.b .nil pass0 (pa_cons (pv 2) (pa_cons (pv 3) (pa_cons (pe_fld (pv 0) rfl) pa_nil)))) (pa_cons (pe_call GS hr (by rfl) dS.g dS.F.kp dS.b .nil pass0 (pa_cons (pv 0) (pa_cons (pv 1) pa_nil))) pa_nil))))
      (pss_cons (ps_set (i := 5) nd rfl (.inl rfl) (pe_op op_sub (pe_call GR hr1 (by rfl) dR.g dR.F.kp dR.b .nil pass0 (pa_cons (pe_op op_add (pv 2) pe_int) (pa_cons (pv 3) (pa_cons (pe_fld (pv 0) rfl) pa_nil)))) pe_int))
      (pss_cons (ps_if (pt_cmpR op_lt (pe_op op_add (pv 1) pe_int) (pe_callB call_len_seq (by rfl) B.len PySem.boot_len (pa_cons (pe_fld (pv 0) rfl) pa_nil)) (nomark _))
          (pss_one (ps_set (i := 5) nd rfl (.inl rfl) (pe_callB (call_min2 rfl) (by rfl) B.min (by decide +kernel) (pa_cons (pv 5) (pa_cons (pe_op op_sub (pe_call GS hr (by rfl) dS.g dS.F.kp dS.b .nil pass0 (pa_cons (pv 0) (pa_cons (pe_op op_add (pv 1) pe_int) pa_nil))) pe_int) pa_nil))))) pss_nil)
      (pss_cons (ps_if (pt_cmpR op_gt (pv 4) (pv 5) (nomark _)) (pss_one (ps_ret pe_non)) pss_nil)
      (pss_one (ps_ret (pe_tup (pa_cons (pv 4) (pa_cons (pv 5) pa_nil))))))))), ?_⟩
    obtain ⟨dx, ua, t, st, th, hp, ⟨ps, hua, hu⟩, ht, hs, hth⟩ := id hL
    have el := UP.len hu
    obtain ⟨k1, k2, k3⟩ := steps_ok g hlt
    refine ⟨_, rfl, a, L.C, dx, _, _, rfl, hp, L.cl, L.nSteps, fl_steps .., _, rfl, st, _, p, .int ((stepsOf us dn).getD p 0), rfl, rfl, hs, atI_nat (by rw [List.getElem?_map, k1]; rfl), ?_⟩
    refine ⟨_, rfl, _, rfl, _, rfl, a, L.C, dx, _, _, rfl, hp, L.cl, L.nRnd, fl_rnd .., m, _, z, rfl, k2, k3, ?_⟩
    refine ⟨_, rfl, _, rfl, a, us, dn, z, c, l, p, rfl, hL, g, hlt, ?_⟩
    refine ⟨_, _, rfl, ?_⟩
    refine ⟨_, rfl, m, 1, rfl, rfl, _, rfl, _, rfl, a, L.C, dx, _, _, rfl, hp, L.cl, L.nRnd, fl_rnd .., _, _, z, rfl, k2, k3, _, 1, rfl, rfl, ?_⟩
    refine ⟨_, rfl, p, 1, rfl, rfl, _, rfl, a, L.C, dx, _, _, rfl, hp, L.cl, L.nUnits, fl_units .., ua, _, rfl, .inr hua, _, _, rfl, rfl, _, rfl, ite2 (fun e => ?_) (fun e => ?_)⟩
    · have e1 : ((p : Int) + 1 < ((ps.map V.ref).length : Int)) := of_decide_eq_true e
      rw [List.length_map, el] at e1
      have hp1 : p + 1 < us.length := by omega
      have ep : (p : Int) + 1 = ((p + 1 : Nat) : Int) := by omega
      unfold highM at q0 q1
      rw [if_pos hp1] at q0 q1
      refine ⟨_, rfl, _, rfl, _, rfl, p, 1, rfl, rfl, a, us, dn, z, c, l, p + 1, rfl, hL, g, hp1, _, 1, rfl, rfl, _, _, rfl, ?_⟩
      refine ⟨_, rfl, _, rfl, _, _, rfl, rfl, _, rfl, ite2 (fun e2 => ?_) (fun e2 => ?_)⟩
      · exact q0 (of_decide_eq_true e2)
      · refine ⟨_, rfl, _, rfl, (by show 2 ≤ sizeLine; decide), fun r nr => ?_⟩
        exact q1 (Int.not_lt.mp fun y => e2 (decide_eq_true y)) r _ (same_upd nr) (SqT.of upd_same)
    · have e1 : ¬ ((p : Int) + 1 < ((ps.map V.ref).length : Int)) := fun y => e (decide_eq_true y)
      rw [List.length_map, el] at e1
      have hp1 : ¬ p + 1 < us.length := by omega
      unfold highM at q0 q1
      rw [if_neg hp1] at q0 q1
      refine ⟨_, rfl, _, rfl, _, _, rfl, rfl, _, rfl, ite2 (fun e2 => ?_) (fun e2 => ?_)⟩
      · exact q0 (of_decide_eq_true e2)
      · refine ⟨_, rfl, _, rfl, (by show 2 ≤ sizeLine; decide), fun r nr => ?_⟩
        exact q1 (Int.not_lt.mp fun y => e2 (decide_eq_true y)) r _ (same_upd nr) (SqT.of upd_same)
end
end My

namespace My
open PySem PySem.Spec PyProof.Rows L2
def spHidden (K : PySem.W.Frag) (C : Addr) : Sp := fun vs H Q _ => ∃ (a : Addr) (us : List (Str × Int)) (d : Nat) (s : Str) (c : Bool) (l n : Int), vs = [.ref a, .int n] ∧ LadAt K C H a us d s c l ∧ Good us d s l ∧ 0 ≤ n ∧ n ≤ 1000000000000000000 ∧
  lowM us d s c l (placedM us d s c l n).1 (placedM us d s c l n).2 ≤ highM us d s c l (placedM us d s c l n).1 (placedM us d s c l n).2 ∧
  ∀ (r : Addr) (H' : Hp), Same H H' → SqT K H' r [.int (n - lowM us d s c l (placedM us d s c l n).1 (placedM us d s c l n).2), .int (highM us d s c l (placedM us d s c l n).1 (placedM us d s c l n).2 - n)] → Q (.ref r) H'
section
variable {P : Program} {w : World} {K : PySem.W.Frag} {mg : Str → Option Value} {base : Heap}
end
end My

namespace My
open PySem PySem.Spec PyProof.Rows L2
theorem small_place {us : List (Str × Int)} {d : Nat} {s : Str} {l n : Int} (g : Good us d s l) (h0 : 0 ≤ n) (h : us.length = 1 ∨ n < l * szOf us 1) : placeOf us l n = 0 := by
  have hpl := place_lt g h0
  rcases Nat.eq_zero_or_pos (placeOf us l n) with z | z
  · exact z
  · exfalso
    have h1 : 1 < us.length := by omega
    have hr := (reached (n := n) g.u g.l1 h0 h1).mpr z
    rcases hr with y | y
    · cases y
    · rcases h with k | k
      · omega
      · rw [Int.mul_comm] at y
        omega
theorem step_zero (us : List (Str × Int)) (d : Nat) : (stepsOf us d).getD 0 0 = 1 := rfl
theorem thr_zero (us : List (Str × Int)) (l : Int) : (thrsOf us l).getD 0 0 = 0 := rfl
theorem firstR_one (m : Int) (s : Str) : firstR m 1 s = m := by
  unfold firstR
  rw [if_pos (.inr (.inl rfl)), Int.mul_one]
theorem start_one (us : List (Str × Int)) (d : Nat) (s : Str) (c : Bool) (l : Int) : startM us d s c l 1 = (thrsOf us l).getD 1 0 := by
  unfold startM
  split
  · rfl
  · rw [Nat.sub_self, step_zero, firstR_one, Int.ediv_one]
theorem ends_small {us : List (Str × Int)} {d : Nat} {s : Str} {c : Bool} {l n : Int} (g : Good us d s l) (h0 : 0 ≤ n) (h : placeOf us l n = 0) : lowM us d s c l 0 n = n ∧ highM us d s c l 0 n = n := by
  constructor
  · unfold lowM
    have e : startM us d s c l 0 = 0 := by
      unfold startM
      rw [if_pos (.inl rfl)]
      rfl
    rw [step_zero, firstR_one, e]
    unfold max2
    split <;> omega
  · unfold highM
    rw [step_zero, firstR_one]
    split
    · rename_i h1
      have hn := next_thr g h0 (by rw [h]; exact h1)
      rw [h] at hn
      have hn' : n < (thrsOf us l).getD 1 0 := hn
      rw [start_one]
      unfold min2
      split <;> omega
    · omega
/-- steps ascend -/
theorem step_up {us : List (Str × Int)} {d : Nat} {s : Str} {l : Int} (g : Good us d s l) {p : Nat} (h : p + 1 < us.length) : (stepsOf us d).getD p 0 ≤ (stepsOf us d).getD (p + 1) 0 := by
  have h1 := (steps_ok g h).2.1
  rcases Nat.eq_zero_or_pos p with z | z
  · subst z
    rw [step_zero]
    omega
  · have hz0 := sz_step g (k := p) z (by omega)
    have hz1 := sz_step g (k := p + 1) (by omega) h
    have hup := sz_up g.u h
    rw [hz0, hz1] at hup
    exact Int.le_of_lt (Int.lt_of_mul_lt_mul_right hup (Int.le_of_lt (pow_lo d)))
theorem placed_step {us : List (Str × Int)} {d : Nat} {s : Str} {c : Bool} {l n : Int} (g : Good us d s l) (h0 : 0 ≤ n) : stOf us d l n ≤ (stepsOf us d).getD (placedM us d s c l n).1 0 := by
  unfold placedM
  split
  · rename_i e
    exact step_up g (isCar_lt e)
  · exact Int.le_refl _
theorem dist47 {us : List (Str × Int)} {d : Nat} {s : Str} {c : Bool} {l n : Int} (g : Good us d s l) (h0 : 0 ≤ n) : n - stOf us d l n < worthM us d s c l n ∧ worthM us d s c l n < n + stOf us d l n ∧ (stOf us d l n = 1 → worthM us d s c l n = n) := by
  obtain ⟨sp, _⟩ := st_pos g h0
  have e0 := worth_val (c := c) g h0
  have m0 := Int.emod_nonneg n (b := stOf us d l n) (by omega)
  have m1 := Int.emod_lt_of_pos n sp
  have hdm := Int.mul_ediv_add_emod n (stOf us d l n)
  rw [Int.mul_comm] at hdm
  have hz : n % stOf us d l n = 0 → goesUp (n / stOf us d l n) (n % stOf us d l n) (stOf us d l n) s = false := fun y => by rw [y]; exact goes_zero sp
  split at e0
  · rename_i hg
    have hr : n % stOf us d l n ≠ 0 := fun y => by
      rw [hz y] at hg
      cases hg
    refine ⟨by omega, by omega, fun y => by omega⟩
  · refine ⟨by omega, by omega, fun y => by omega⟩
/-- the step of the law -/
theorem law_step {us : List (Str × Int)} {d p : Nat} (hp : p < us.length) : (stepsOf us d).getD p 0 = if p = 0 then 1 else szOf us p / 10 ^ d := by
  split
  · rename_i h
    subst h
    rfl
  · exact step_at (by omega) hp
theorem last_place {us : List (Str × Int)} {d : Nat} {s : Str} {l n : Int} (g : Good us d s l) (h0 : 0 ≤ n) (h : szOf us (us.length - 1) * l ≤ n) : placeOf us l n = us.length - 1 := by
  have hlo := g.u.lo
  have h1 := (reached (n := n) g.u g.l1 h0 (show us.length - 1 < us.length by omega)).mp (.inr h)
  have h2 := place_lt g h0
  omega
theorem last_sz_pos {us : List (Str × Int)} (g : GoodUs us) {i : Nat} (h : i < us.length) : 1 ≤ szOf us i ∧ szOf us i ≤ 1000000000000000000 := by
  have h1 : us[i]? = some us[i] := List.getElem?_eq_getElem h
  rw [szOf_at h1]
  have := g.each i _ h1
  exact ⟨this.2.1, this.2.2.1⟩
theorem last_same {us : List (Str × Int)} {d : Nat} {s : Str} {c : Bool} {l l2 n : Int} (g : Good us d s l) (g2 : Good us d s l2) (hl : l ≤ l2) (h0 : 0 ≤ n) (h : l2 * szOf us (us.length - 1) ≤ n) : shown us d s c l2 n = shown us d s c l n := by
  have hlo := g.u.lo
  have hs := (last_sz_pos g.u (show us.length - 1 < us.length by omega)).1
  rw [Int.mul_comm] at h
  have a2 := last_place g2 h0 h
  have h' : szOf us (us.length - 1) * l ≤ szOf us (us.length - 1) * l2 := Int.mul_le_mul_of_nonneg_left hl (by omega)
  have a1 := last_place g h0 (by omega)
  have nc : ∀ l' m, isCar us d c l' (us.length - 1) m = false := fun l' m => by
    unfold isCar
    rw [decide_eq_false (show ¬ us.length - 1 + 1 < us.length by omega), Bool.false_and, Bool.and_false]
  have e : placedM us d s c l2 n = placedM us d s c l n := by
    unfold placedM
    rw [a1, a2, nc, nc]
  unfold shown
  rw [e]
theorem unit_mono {us : List (Str × Int)} {d : Nat} {s : Str} {c : Bool} {l l2 n : Int} (g : Good us d s l) (g2 : Good us d s l2) (hl : l ≤ l2) (h0 : 0 ≤ n) : (placedM us d s c l2 n).1 ≤ (placedM us d s c l n).1 := by
  have hpl2 := place_lt g2 h0
  have hle : placeOf us l2 n ≤ placeOf us l n := by
    have h2 := (reached (n := n) g2.u g2.l1 h0 hpl2).mpr (Nat.le_refl _)
    refine (reached (n := n) g.u g.l1 h0 hpl2).mp ?_
    rcases h2 with y | y
    · exact .inl y
    · have hs := (last_sz_pos g.u hpl2).1
      have h' : szOf us (placeOf us l2 n) * l ≤ szOf us (placeOf us l2 n) * l2 := Int.mul_le_mul_of_nonneg_left hl (by omega)
      exact .inr (by omega)
  have b1 : placeOf us l n ≤ (placedM us d s c l n).1 := by
    unfold placedM
    split
    · exact Nat.le_succ _
    · exact Nat.le_refl _
  rcases Nat.lt_or_ge (placeOf us l2 n) (placeOf us l n) with z | z
  · have b2 : (placedM us d s c l2 n).1 ≤ placeOf us l2 n + 1 := by
      unfold placedM
      split
      · exact Nat.le_refl _
      · exact Nat.le_succ _
    omega
  · have ee : placeOf us l2 n = placeOf us l n := by omega
    unfold placedM
    rw [ee]
    cases ec2 : isCar us d c l2 (placeOf us l n) (rnd n ((stepsOf us d).getD (placeOf us l n) 0) s) with
    | false =>
      rw [if_neg Bool.false_ne_true]
      split
      · exact Nat.le_succ _
      · exact Nat.le_refl _
    | true =>
      rw [if_pos rfl]
      have hp1 := isCar_lt ec2
      have ec1 : isCar us d c l (placeOf us l n) (rnd n ((stepsOf us d).getD (placeOf us l n) 0) s) = true := by
        unfold isCar at ec2 ⊢
        rw [Bool.and_eq_true, Bool.and_eq_true] at ec2 ⊢
        refine ⟨ec2.1, ec2.2.1, decide_eq_true ?_⟩
        have h2 := of_decide_eq_true ec2.2.2
        have t1 : (thrsOf us l).getD (placeOf us l n + 1) 0 = szOf us (placeOf us l n + 1) * l := by rw [List.getD_eq_getElem?_getD, thr_at (by omega) hp1]; rfl
        have t2 : (thrsOf us l2).getD (placeOf us l n + 1) 0 = szOf us (placeOf us l n + 1) * l2 := by rw [List.getD_eq_getElem?_getD, thr_at (by omega) hp1]; rfl
        rw [t2] at h2
        rw [t1]
        have hs := (last_sz_pos g.u hp1).1
        have h' : szOf us (placeOf us l n + 1) * l ≤ szOf us (placeOf us l n + 1) * l2 := Int.mul_le_mul_of_nonneg_left hl (by omega)
        omega
      rw [ec1, if_pos rfl]
      exact Nat.le_refl _
/-- another name for the first unit -/
def oneU : Str × Int := ("one", 1)
def plainUs (us : List (Str × Int)) : List (Str × Int) := oneU :: us.drop 1
theorem plain_len {us : List (Str × Int)} (h : 1 ≤ us.length) : (plainUs us).length = us.length := by
  unfold plainUs
  rw [List.length_cons, List.length_drop]
  omega
theorem plain_get (us : List (Str × Int)) (k : Nat) : (plainUs us)[k + 1]? = us[k + 1]? := by
  unfold plainUs
  rw [List.getElem?_cons_succ, List.getElem?_drop, Nat.add_comm 1 k]
theorem plain_take (us : List (Str × Int)) (k : Nat) : ∀ v ∈ (plainUs us).take (k + 1), v = oneU ∨ v ∈ us.take (k + 1) := by
  intro v hv
  unfold plainUs at hv
  rw [List.take_succ_cons] at hv
  rcases List.mem_cons.mp hv with z | z
  · exact .inl z
  · right
    cases us with
    | nil => simp at z
    | cons u r =>
      rw [List.take_succ_cons]
      exact List.mem_cons_of_mem _ z
theorem good_one : GoodN "one" := ⟨by decide +kernel, by decide +kernel, by decide +kernel, by decide +kernel⟩
theorem first_size {us : List (Str × Int)} (g : GoodUs us) : ∃ u, us[0]? = some u ∧ u.2 = 1 := by
  have h00 : 0 < us.length := g.lo
  have h : us[0]? = some us[0] := List.getElem?_eq_getElem h00
  refine ⟨_, h, ?_⟩
  obtain ⟨_, _, _, hf⟩ := g.each 0 _ h
  rcases hf with ⟨_, e⟩ | ⟨l, hl, hne, _⟩
  · exact e
  · exact absurd rfl hne
theorem plain_good {us : List (Str × Int)} {d : Nat} {s : Str} {l : Int} (g : Good us d s l) (hn : NoOne us) : Good (plainUs us) d s l := by
  have hlen := plain_len g.u.lo
  refine ⟨⟨by rw [hlen]; exact g.u.lo, by rw [hlen]; exact g.u.hi, fun i u hu => ?_⟩, g.d3, g.div, g.srt, g.l1, g.l2⟩
  cases i with
  | zero =>
    have e : oneU = u := Option.some.inj hu
    subst e
    exact ⟨good_one, by decide, by decide, .inl ⟨rfl, rfl⟩⟩
  | succ k =>
    rw [plain_get] at hu
    obtain ⟨k1, k2, k3, hf⟩ := g.u.each (k + 1) u hu
    refine ⟨k1, k2, k3, ?_⟩
    have hk : k + 1 < us.length := (List.getElem?_eq_some_iff.mp hu).1
    have el : (us.take (k + 1)).length = k + 1 := by rw [List.length_take]; omega
    have el2 : ((plainUs us).take (k + 1)).length = k + 1 := by rw [List.length_take, hlen]; omega
    rcases hf with ⟨e, _⟩ | ⟨w, hw, hne, h0, h1, h2, h3⟩
    · rw [e] at el
      cases el
    · rw [el, Nat.add_sub_cancel, List.getElem?_take, if_pos (Nat.lt_succ_self k)] at hw
      have hnm : ∀ v ∈ (plainUs us).take (k + 1), v.1 ≠ u.1 := fun v hv => by
        rcases plain_take us k v hv with z | z
        · subst z
          exact fun e => (hn u (List.mem_of_getElem? hu)).1.1 e.symm
        · exact h3 v z
      have hne2 : (plainUs us).take (k + 1) ≠ [] := fun e => by
        rw [e] at el2
        cases el2
      refine .inr ?_
      rw [el2, Nat.add_sub_cancel, List.getElem?_take, if_pos (Nat.lt_succ_self k)]
      cases k with
      | zero =>
        obtain ⟨u0, e0, e1⟩ := first_size g.u
        rw [e0] at hw
        have ew : u0 = w := Option.some.inj hw
        subst ew
        refine ⟨oneU, rfl, hne2, by decide, ?_, Int.emod_one _, hnm⟩
        show (1 : Int) < u.2
        omega
      | succ j =>
        rw [plain_get]
        exact ⟨w, hw, hne2, h0, h1, h2, hnm⟩
theorem plain_shown {us : List (Str × Int)} {d : Nat} {s : Str} {c : Bool} {l n : Int} (g : Good us d s l) (hp : 0 < (placedM us d s c l n).1) : shown (plainUs us) d s c l n = shown us d s c l n := by
  have hlen := plain_len g.u.lo
  have ec : ∀ p m, isCar (plainUs us) d c l p m = isCar us d c l p m := fun p m => by
    unfold isCar
    rw [hlen]
    rfl
  have ep : placedM (plainUs us) d s c l n = placedM us d s c l n := by
    unfold placedM
    rw [ec]
    rfl
  unfold shown
  rw [ep]
  generalize placedM us d s c l n = pm at hp
  obtain ⟨p, m⟩ := pm
  obtain ⟨j, rfl⟩ : ∃ j, p = j + 1 := ⟨p - 1, by show p = p - 1 + 1; have : 0 < p := hp; omega⟩
  have en : ((plainUs us).getD (j + 1) ("", 0)).1 = (us.getD (j + 1) ("", 0)).1 := by
    rw [List.getD_eq_getElem?_getD, List.getD_eq_getElem?_getD, plain_get]
  unfold writ
  rw [en]
end My

namespace My
open PySem PySem.Spec PyProof.Rows L2
/-! ### ranges -/
theorem rnd_ge_core {b r st m X : Int} {s : Str} (hs : s ∈ sorts) (h2 : st % 2 = 0) (h0 : 0 < st) (r0 : 0 ≤ r) (r1 : r < st) (m0 : 1 ≤ m)
    (k1 : m ≤ b → X ≤ b * st) (k2 : m = b + 1 → X = b * st + st) (k3 : b + 2 ≤ m → b * st + 2 * st ≤ X) :
    m ≤ (if goesUp b r st s = true then b + 1 else b) ↔ (if s = "down" then X else if s = "up" then X - st + 1 else if s = "even" ∧ m % 2 = 1 then X - st / 2 + 1 else X - st / 2) ≤ b * st + r := by
  generalize b * st = B at k1 k2 k3 ⊢
  have hh : st = 2 * (st / 2) := by omega
  generalize st / 2 = h at hh ⊢
  unfold sorts at hs
  simp only [List.mem_cons, List.not_mem_nil, or_false] at hs
  rcases goes_cases b r st s with ⟨e, eg⟩ | ⟨e, eg⟩ | ⟨e, eg⟩ | ⟨n1, n2, n3, eg⟩
  · subst e
    rw [eg, if_neg (show ¬ (("up" : Str) = "down") by decide +kernel), if_pos rfl]
    by_cases c : 0 < r
    · rw [decide_eq_true c, if_pos rfl]
      omega
    · rw [decide_eq_false c, if_neg Bool.false_ne_true]
      omega
  · subst e
    have e3 : ¬ (("near" : Str) = "even" ∧ m % 2 = 1) := fun y => absurd y.1 (by decide +kernel)
    rw [eg, if_neg (show ¬ (("near" : Str) = "down") by decide +kernel), if_neg (show ¬ (("near" : Str) = "up") by decide +kernel), if_neg e3]
    by_cases c : st ≤ 2 * r
    · rw [decide_eq_true c, if_pos rfl]
      omega
    · rw [decide_eq_false c, if_neg Bool.false_ne_true]
      omega
  · subst e
    rw [eg, if_neg (show ¬ (("even" : Str) = "down") by decide +kernel), if_neg (show ¬ (("even" : Str) = "up") by decide +kernel)]
    by_cases c : st < 2 * r
    · rw [decide_eq_true c, Bool.true_or, if_pos rfl]
      split <;> omega
    · rw [decide_eq_false c, Bool.false_or]
      by_cases c2 : 2 * r = st
      · rw [decide_eq_true c2, Bool.true_and]
        by_cases c3 : b % 2 = 1
        · rw [decide_eq_true c3, if_pos rfl]
          split <;> rename_i c4
          · have := c4.2
            omega
          · have : ¬ m % 2 = 1 := fun y => c4 ⟨rfl, y⟩
            omega
        · rw [decide_eq_false c3, if_neg Bool.false_ne_true]
          split <;> rename_i c4
          · have := c4.2
            omega
          · have : ¬ m % 2 = 1 := fun y => c4 ⟨rfl, y⟩
            omega
      · rw [decide_eq_false c2, Bool.false_and, if_neg Bool.false_ne_true]
        split <;> omega
  · rcases hs with e | e | e | e
    · subst e
      rw [eg, if_neg Bool.false_ne_true, if_pos rfl]
      omega
    · exact absurd e n1
    · exact absurd e n2
    · exact absurd e n3
theorem rnd_nn {n st : Int} {s : Str} (h0 : 0 ≤ n) (h1 : 0 < st) : 0 ≤ rnd n st s := (rnd_lo h0 h1).1
/-- a number is rounded to m or more exactly from the first one on -/
theorem rnd_ge {n st m : Int} {s : Str} (hs : s ∈ sorts) (h2 : st = 1 ∨ st % 2 = 0) (h0 : 0 < st) (n0 : 0 ≤ n) (m0 : 0 ≤ m) : m ≤ rnd n st s ↔ firstR m st s ≤ n := by
  rcases Int.lt_or_le 0 m with hm | hm
  · rcases h2 with h2 | h2
    · subst h2
      rw [rnd_one, firstR_one]
    · have m1 := Int.emod_nonneg n (b := st) (by omega)
      have m2 := Int.emod_lt_of_pos n h0
      have hdm := Int.mul_ediv_add_emod n st
      rw [Int.mul_comm] at hdm
      have core := rnd_ge_core (b := n / st) (r := n % st) (X := m * st) hs h2 h0 m1 m2 (by omega) (fun y => Int.mul_le_mul_of_nonneg_right y (by omega))
        (fun y => by rw [y, Int.add_mul, Int.one_mul]) (fun y => by
          have := Int.mul_le_mul_of_nonneg_right (c := st) y (by omega)
          rw [Int.add_mul] at this
          exact this)
      rw [hdm] at core
      have e : firstR m st s = (if s = "down" then m * st else if s = "up" then m * st - st + 1 else if s = "even" ∧ m % 2 = 1 then m * st - st / 2 + 1 else m * st - st / 2) := by
        unfold firstR
        have e1 : ¬ m = 0 := by omega
        have e2 : ¬ st = 1 := by omega
        by_cases c : s = "down"
        · rw [if_pos (.inr (.inr c)), if_pos c]
        · rw [if_neg (fun y => y.elim e1 (fun y => y.elim e2 c)), if_neg c, Int.sub_mul, Int.one_mul]
      rw [e]
      exact core
  · have e : m = 0 := by omega
    subst e
    have e2 : firstR 0 st s = 0 := by
      unfold firstR
      rw [if_pos (.inl rfl), Int.zero_mul]
    rw [e2]
    exact ⟨fun _ => n0, fun _ => rnd_nn n0 h0⟩
theorem firstR_nn {m st : Int} {s : Str} (h0 : 0 < st) (m0 : 0 ≤ m) : 0 ≤ firstR m st s := by
  have hm := Int.mul_nonneg m0 (show 0 ≤ st by omega)
  unfold firstR
  split
  · exact hm
  · rename_i c
    have m1 : 1 ≤ m := by
      rcases Int.lt_or_le 0 m with z | z
      · omega
      · exact absurd (.inl (by omega)) c
    have h1 : 1 * st ≤ m * st := Int.mul_le_mul_of_nonneg_right m1 (by omega)
    have h2 : 0 ≤ (m - 1) * st := Int.mul_nonneg (by omega) (by omega)
    have h3 : st / 2 ≤ st := Int.ediv_le_self _ (by omega)
    split
    · omega
    · split <;> omega
theorem step_even {us : List (Str × Int)} {d : Nat} {s : Str} {l : Int} (g : Good us d s l) {p : Nat} (hp : p < us.length) : (stepsOf us d).getD p 0 = 1 ∨ (stepsOf us d).getD p 0 % 2 = 0 := by
  rcases Nat.eq_zero_or_pos p with z | z
  · subst z
    exact .inl rfl
  · right
    rw [step_at z hp]
    obtain ⟨j, rfl⟩ : ∃ j, p = j + 1 := ⟨p - 1, by omega⟩
    have hu : us[j + 1]? = some us[j + 1] := List.getElem?_eq_getElem hp
    have hm : us[j + 1] ∈ us.drop 1 := List.mem_of_getElem? (i := j) (by rw [List.getElem?_drop, Nat.add_comm 1 j]; exact hu)
    have hz := g.div _ hm
    rw [szOf_at hu]
    have hp := pow_lo d
    obtain ⟨q, hq⟩ := Int.dvd_of_emod_eq_zero hz
    have e4 : us[j + 1].2 / 10 ^ d = 2 * q := by
      rw [hq, show (2 * 10 ^ d * q : Int) = 2 * q * 10 ^ d by rw [Int.mul_assoc, Int.mul_assoc, Int.mul_comm (10 ^ d) q]]
      exact Int.mul_ediv_cancel _ (by omega)
    rw [e4]
    omega
theorem thr_eq {us : List (Str × Int)} {l : Int} {p : Nat} (h1 : 1 ≤ p) (hp : p < us.length) : (thrsOf us l).getD p 0 = szOf us p * l := by
  rw [List.getD_eq_getElem?_getD, thr_at h1 hp]
  rfl
/-- a threshold is so many steps, of its own unit and of the one before -/
theorem thr_steps {us : List (Str × Int)} {d : Nat} {s : Str} {l : Int} (g : Good us d s l) {p : Nat} (h1 : 1 ≤ p) (hp : p < us.length) :
    (∃ k : Int, 0 ≤ k ∧ (thrsOf us l).getD p 0 = k * (stepsOf us d).getD p 0) ∧ ∃ k : Int, 0 ≤ k ∧ (thrsOf us l).getD p 0 = k * (stepsOf us d).getD (p - 1) 0 := by
  have hl := g.l1
  have hsz := (last_sz_pos g.u hp).1
  have pw := pow_lo d
  rw [thr_eq h1 hp]
  constructor
  · refine ⟨10 ^ d * l, Int.mul_nonneg (by omega) (by omega), ?_⟩
    rw [sz_step g h1 hp, Int.mul_assoc, Int.mul_comm]
  · obtain ⟨j, rfl⟩ : ∃ j, p = j + 1 := ⟨p - 1, by omega⟩
    rw [Nat.add_sub_cancel]
    rcases Nat.eq_zero_or_pos j with z | z
    · subst z
      have hsz1 : 1 ≤ szOf us 1 := hsz
      refine ⟨szOf us 1 * l, Int.mul_nonneg (by omega) (by omega), ?_⟩
      rw [step_zero, Int.mul_one]
    · obtain ⟨q, hq⟩ := sz_dvd g.u hp
      have hst := (steps_ok g (show j < us.length by omega)).2.1
      have hz0 := sz_step g z (show j < us.length by omega)
      have hsz0 := (last_sz_pos g.u (show j < us.length by omega)).1
      have hq0 : 0 ≤ q := by
        rcases Int.lt_or_le q 0 with y | y
        · exfalso
          have : szOf us j * q ≤ 0 := Int.mul_nonpos_of_nonneg_of_nonpos (by omega) (by omega)
          omega
        · exact y
      refine ⟨10 ^ d * q * l, Int.mul_nonneg (Int.mul_nonneg (by omega) hq0) (by omega), ?_⟩
      rw [hq, hz0]
      rw [Int.mul_assoc, Int.mul_assoc, Int.mul_assoc, Int.mul_assoc, Int.mul_comm ((stepsOf us d).getD j 0), Int.mul_assoc, Int.mul_assoc]
theorem placed_snd (us : List (Str × Int)) (d : Nat) (s : Str) (c : Bool) (l n : Int) : (placedM us d s c l n).2 = rnd n ((stepsOf us d).getD (placedM us d s c l n).1 0) s := by
  unfold placedM
  split <;> rfl
theorem placed_ge (us : List (Str × Int)) (d : Nat) (s : Str) (c : Bool) (l n : Int) : placeOf us l n ≤ (placedM us d s c l n).1 ∧ (placedM us d s c l n).1 ≤ placeOf us l n + 1 := by
  unfold placedM
  split
  · exact ⟨Nat.le_succ _, Nat.le_refl _⟩
  · exact ⟨Nat.le_refl _, Nat.le_succ _⟩
theorem placed_nocarry {us : List (Str × Int)} {d : Nat} {s : Str} {l n : Int} : (placedM us d s false l n).1 = placeOf us l n := by
  unfold placedM
  have e : isCar us d false l (placeOf us l n) (rnd n ((stepsOf us d).getD (placeOf us l n) 0) s) = false := by
    unfold isCar
    rw [Bool.false_and]
  rw [e, if_neg Bool.false_ne_true]
theorem rnd_below {n st k : Int} {s : Str} (h0 : 0 < st) (h : n < k * st) : rnd n st s ≤ k := by
  have hb : n / st < k := Int.ediv_lt_of_lt_mul h0 h
  unfold rnd
  split <;> omega
theorem rnd_above {n st k : Int} {s : Str} (h0 : 0 < st) (h : k * st ≤ n) : k ≤ rnd n st s := by
  have hb : k ≤ n / st := (Int.le_ediv_iff_mul_le h0).mpr h
  unfold rnd
  split <;> omega
/-- a unit is reached exactly from its first number on -/
theorem place_ge {us : List (Str × Int)} {d : Nat} {s : Str} {c : Bool} {l n : Int} (g : Good us d s l) (n0 : 0 ≤ n) {p : Nat} (hp : p < us.length) : p ≤ (placedM us d s c l n).1 ↔ startM us d s c l p ≤ n := by
  rcases Nat.eq_zero_or_pos p with z | z
  · subst z
    have e : startM us d s c l 0 = 0 := by
      unfold startM
      rw [if_pos (.inl rfl)]
      rfl
    rw [e]
    exact ⟨fun _ => n0, fun _ => Nat.zero_le _⟩
  · have hre := reached (n := n) g.u g.l1 n0 hp
    cases c with
    | false =>
      have e : startM us d s false l p = szOf us p * l := by
        unfold startM
        rw [if_pos (.inr rfl), thr_eq z hp]
      rw [e, placed_nocarry, ← hre]
      exact ⟨fun y => y.elim (fun y => by omega) id, .inr⟩
    | true =>
      obtain ⟨⟨k', hk0', hk'⟩, k, hk0, hk⟩ := thr_steps g z hp
      obtain ⟨_, s1, _⟩ := steps_ok g (show p - 1 < us.length by omega)
      have e : startM us d s true l p = firstR k ((stepsOf us d).getD (p - 1) 0) s := by
        unfold startM
        rw [if_neg (fun y => y.elim (fun y => by omega) (fun y => Bool.noConfusion y)), hk, Int.mul_ediv_cancel _ (by omega)]
      have gal := rnd_ge (n := n) (m := k) (s := s) g.srt (step_even g (show p - 1 < us.length by omega)) s1 n0 hk0
      rw [e, ← gal]
      obtain ⟨ge1, ge2⟩ := placed_ge us d s true l n
      have hpl := place_lt g n0
      constructor
      · intro hle
        rcases Nat.lt_or_ge (placeOf us l n) p with y | y
        · have ep : p = placeOf us l n + 1 := by omega
          -- it was carried
          cases ec : isCar us d true l (placeOf us l n) (rnd n ((stepsOf us d).getD (placeOf us l n) 0) s) with
          | false =>
            exfalso
            unfold placedM at hle
            rw [ec, if_neg Bool.false_ne_true] at hle
            have : p ≤ placeOf us l n := hle
            omega
          | true =>
            unfold isCar at ec
            rw [Bool.and_eq_true, Bool.and_eq_true] at ec
            have h1 := of_decide_eq_true ec.2.2
            rw [← ep, hk, show placeOf us l n = p - 1 by omega] at h1
            exact Int.le_of_mul_le_mul_right h1 s1
        · have h1 := hre.mpr y
          rcases h1 with h1 | h1
          · omega
          · rw [← thr_eq z hp, hk] at h1
            exact rnd_above s1 h1
      · intro hle
        rcases Nat.lt_or_ge (placeOf us l n) p with y | y
        · have hnt := next_thr g n0 (show placeOf us l n + 1 < us.length by omega)
          rcases Nat.lt_or_ge (placeOf us l n + 1) p with y2 | y2
          · exfalso
            -- the threshold of p - 1 is not reached
            have hp1 : p - 1 < us.length := by omega
            obtain ⟨⟨j, hj0, hj⟩, _⟩ := thr_steps g (show 1 ≤ p - 1 by omega) hp1
            have hn1 : n < (thrsOf us l).getD (p - 1) 0 := by
              rw [thr_eq (by omega) hp1]
              rcases Int.lt_or_le n (szOf us (p - 1) * l) with w | w
              · exact w
              · have := (reached (n := n) g.u g.l1 n0 hp1).mp (.inr w)
                omega
            rw [hj] at hn1
            have hb := rnd_below (s := s) s1 hn1
            have hlt : (thrsOf us l).getD (p - 1) 0 < (thrsOf us l).getD p 0 := by
              rw [thr_eq (by omega) hp1, thr_eq z hp]
              have hup := sz_up g.u (i := p - 1) (by omega)
              rw [show p - 1 + 1 = p by omega] at hup
              exact Int.mul_lt_mul_of_pos_right hup (by have := g.l1; omega)
            rw [hj, hk] at hlt
            have := Int.lt_of_mul_lt_mul_right hlt (by omega)
            omega
          · have ep : p = placeOf us l n + 1 := by omega
            have ec : isCar us d true l (placeOf us l n) (rnd n ((stepsOf us d).getD (placeOf us l n) 0) s) = true := by
              unfold isCar
              rw [Bool.true_and, Bool.and_eq_true]
              refine ⟨decide_eq_true (by omega), decide_eq_true ?_⟩
              rw [← ep, hk, show placeOf us l n = p - 1 by omega]
              exact Int.mul_le_mul_of_nonneg_right hle (by omega)
            unfold placedM
            rw [ec, if_pos rfl]
            show p ≤ placeOf us l n + 1
            omega
        · omega
theorem max2_le {x y n : Int} : max2 x y ≤ n ↔ x ≤ n ∧ y ≤ n := by
  unfold max2
  split <;> omega
theorem le_min2 {x y n : Int} : n ≤ min2 x y ↔ n ≤ x ∧ n ≤ y := by
  unfold min2
  split <;> omega
/-- the numbers of a figure are those from its low end to its high end -/
theorem range_iff {us : List (Str × Int)} {d : Nat} {s : Str} {c : Bool} {l n : Int} (g : Good us d s l) (n0 : 0 ≤ n) {p : Nat} {m : Int} (hp : p < us.length) (m0 : 0 ≤ m) :
    placedM us d s c l n = (p, m) ↔ lowM us d s c l p m ≤ n ∧ n ≤ highM us d s c l p m := by
  have h1 := place_ge (c := c) g n0 hp
  obtain ⟨_, s1, _⟩ := steps_ok g hp
  have r1 := rnd_ge (n := n) (m := m) (s := s) g.srt (step_even g hp) s1 n0 m0
  have r2 := rnd_ge (n := n) (m := m + 1) (s := s) g.srt (step_even g hp) s1 n0 (by omega)
  have hlt := (placedM_ok (c := c) g n0).1
  have es := placed_snd us d s c l n
  unfold lowM highM
  rw [max2_le]
  constructor
  · intro e
    rw [e] at h1 es
    have h1' := h1.mp (Nat.le_refl _)
    have es' : m = rnd n ((stepsOf us d).getD p 0) s := es
    refine ⟨⟨r1.mp (by omega), h1'⟩, ?_⟩
    have hr : ¬ firstR (m + 1) ((stepsOf us d).getD p 0) s ≤ n := fun y => by have := r2.mpr y; omega
    split
    · rename_i hp1
      have h2 := place_ge (c := c) g n0 hp1
      rw [e] at h2
      have : ¬ startM us d s c l (p + 1) ≤ n := fun y => by have : p + 1 ≤ p := h2.mpr y; omega
      rw [le_min2]
      omega
    · omega
  · rintro ⟨⟨h3, h4⟩, h5⟩
    have ge := h1.mpr h4
    have h6 : n < firstR (m + 1) ((stepsOf us d).getD p 0) s ∧ (p + 1 < us.length → n < startM us d s c l (p + 1)) := by
      split at h5
      · rw [le_min2] at h5
        exact ⟨by omega, fun _ => by omega⟩
      · rename_i hc
        exact ⟨by omega, fun y => absurd y hc⟩
    have le : (placedM us d s c l n).1 ≤ p := by
      rcases Nat.lt_or_ge p (placedM us d s c l n).1 with y | y
      · exfalso
        have hp1 : p + 1 < us.length := by omega
        have h2 := (place_ge (c := c) g n0 hp1).mp y
        have := h6.2 hp1
        omega
      · exact y
    have e1 : (placedM us d s c l n).1 = p := by omega
    rw [e1] at es
    have e2 : (placedM us d s c l n).2 = m := by
      have a1 := r1.mpr h3
      have a2 : ¬ m + 1 ≤ rnd n ((stepsOf us d).getD p 0) s := fun y => by have := r2.mp y; omega
      omega
    rw [← e1, ← e2]
theorem start_nn {us : List (Str × Int)} {d : Nat} {s : Str} {c : Bool} {l : Int} (g : Good us d s l) {p : Nat} (hp : p < us.length) : 0 ≤ startM us d s c l p := by
  have ht : 0 ≤ (thrsOf us l).getD p 0 := by
    rcases Nat.eq_zero_or_pos p with z | z
    · subst z
      exact Int.le_refl 0
    · rw [thr_eq z hp]
      have := (last_sz_pos g.u hp).1
      have := g.l1
      exact Int.mul_nonneg (by omega) (by omega)
  unfold startM
  split
  · exact ht
  · have hs := (steps_ok g (show p - 1 < us.length by omega)).2.1
    exact firstR_nn hs (Int.ediv_nonneg ht (by omega))
theorem low_nn {us : List (Str × Int)} {d : Nat} {s : Str} {c : Bool} {l : Int} (g : Good us d s l) {p : Nat} (hp : p < us.length) (m : Int) : 0 ≤ lowM us d s c l p m := by
  have := start_nn (c := c) g hp
  unfold lowM max2
  split <;> omega
end My

namespace My
open PySem PySem.Spec PyProof.Rows L2
/-! ### figures are told apart -/
theorem name_at {us : List (Str × Int)} {p : Nat} (hp : p < us.length) : (us.getD p ("", 0)).1 = us[p].1 := by
  rw [List.getD_eq_getElem?_getD, List.getElem?_eq_getElem hp]
  rfl
theorem writ_ahead {us : List (Str × Int)} {d p : Nat} {m : Int} (g : GoodUs us) (hp : p < us.length) (hm : 0 ≤ m) : (Txt.rstripChars (writ us d p m) letters).cps.toList = ahead d p m := by
  have hu : us[p]? = some us[p] := List.getElem?_eq_getElem hp
  have gn := (g.each p _ hu).1
  have wc := writ_codes (us := us) (d := d) (p := p) (m := m)
  rw [name_at hp] at wc
  refine rstrip_name wc (fun c hc => ?_) (ahead_last hm)
  have := gn.2.2.2
  rw [List.all_eq_true] at this
  exact this c hc
theorem writ_inj {us : List (Str × Int)} {d p p' : Nat} {m m' : Int} (g : GoodUs us) (hd : d ≤ 3) (hp : p < us.length) (hp' : p' < us.length) (hm : 0 ≤ m) (hm' : 0 ≤ m') (h1 : m < 10 ^ 40) (h2 : m' < 10 ^ 40) (e : writ us d p m = writ us d p' m') : p = p' ∧ m = m' := by
  have ea : ahead d p m = ahead d p' m' := by rw [← writ_ahead g hp hm, ← writ_ahead g hp' hm', e]
  have wc := writ_codes (us := us) (d := d) (p := p) (m := m)
  have wc' := writ_codes (us := us) (d := d) (p := p') (m := m')
  rw [e, ea, wc'] at wc
  have en : (us.getD p' ("", 0)).1.cps.toList = (us.getD p ("", 0)).1.cps.toList := List.append_cancel_left wc
  rw [name_at hp, name_at hp'] at en
  have en2 : us[p'].1 = us[p].1 := str_ext en
  constructor
  · rcases Nat.lt_trichotomy p p' with y | y | y
    · exact absurd en2.symm (names_apart g y (List.getElem?_eq_getElem hp) (List.getElem?_eq_getElem hp'))
    · exact y
    · exact absurd en2 (names_apart g y (List.getElem?_eq_getElem hp') (List.getElem?_eq_getElem hp))
  · obtain ⟨n, ef, hn⟩ := ahead_filter (d := d) (p := p) hm
    obtain ⟨n', ef', hn'⟩ := ahead_filter (d := d) (p := p') hm'
    rw [ea, ef'] at ef
    have l1 := dg_small (m := m) (by omega)
    have l2 := dg_small (m := m') (by omega)
    have b1 := int_back (t := ⟨(List.replicate n 48 ++ dg m).toArray⟩) (n := n) hm rfl (by
      rw [str_len]
      show (List.replicate n 48 ++ dg m).length ≤ 4300
      rw [List.length_append, List.length_replicate]
      omega)
    have b2 := int_back (t := ⟨(List.replicate n 48 ++ dg m).toArray⟩) (n := n') hm' ef.symm (by
      rw [str_len]
      show (List.replicate n 48 ++ dg m).length ≤ 4300
      rw [List.length_append, List.length_replicate]
      omega)
    rw [b1] at b2
    exact Option.some.inj b2
/-! ### range_of, next_figure, previous_figure -/
def spRangeOf (K : PySem.W.Frag) (C : Addr) : Sp := fun vs H Q _ => ∃ (a : Addr) (us : List (Str × Int)) (d : Nat) (s : Str) (c : Bool) (l : Int) (p : Nat) (m : Int), vs = [.ref a, .str (writ us d p m)] ∧ LadAt K C H a us d s c l ∧ Good us d s l ∧ p < us.length ∧ 0 ≤ m ∧ m < 10 ^ 24 ∧
  (highM us d s c l p m < lowM us d s c l p m → ∀ H', Same H H' → Q .non H') ∧ (lowM us d s c l p m ≤ highM us d s c l p m → ∀ (r : Addr) (H' : Hp), Same H H' → SqT K H' r [.int (lowM us d s c l p m), .int (highM us d s c l p m)] → Q (.ref r) H')
/-- of a figure that is shown -/
def spRShown (K : PySem.W.Frag) (C : Addr) : Sp := fun vs H Q _ => ∃ (a : Addr) (us : List (Str × Int)) (d : Nat) (s : Str) (c : Bool) (l : Int) (p : Nat) (m : Int), vs = [.ref a, .str (writ us d p m)] ∧ LadAt K C H a us d s c l ∧ Good us d s l ∧ p < us.length ∧ 0 ≤ m ∧ m < 10 ^ 24 ∧
  lowM us d s c l p m ≤ highM us d s c l p m ∧ ∀ (r : Addr) (H' : Hp), Same H H' → SqT K H' r [.int (lowM us d s c l p m), .int (highM us d s c l p m)] → Q (.ref r) H'
section
variable {P : Program} {w : World} {K : PySem.W.Frag} {mg : Str → Option Value} {base : Heap}
end
end My

namespace My
open PySem PySem.Spec PyProof.Rows L2
theorem firstR_hi {m st : Int} {s : Str} (h0 : 0 < st) : firstR m st s ≤ m * st := by
  have h3 : 0 ≤ st / 2 := by omega
  unfold firstR
  split
  · exact Int.le_refl _
  · rename_i c
    split
    · rw [Int.sub_mul, Int.one_mul]
      omega
    · have h4 : st ≠ 1 := fun y => c (.inr (.inl y))
      split <;> omega
theorem firstR_lo {m st : Int} {s : Str} (h0 : 0 < st) : m * st - st ≤ firstR m st s := by
  have h3 : st / 2 ≤ st := Int.ediv_le_self _ (by omega)
  unfold firstR
  split
  · omega
  · split
    · rw [Int.sub_mul, Int.one_mul]
      omega
    · split <;> omega
theorem ends_width {us : List (Str × Int)} {d : Nat} {s : Str} {c : Bool} {l : Int} (g : Good us d s l) {p : Nat} (hp : p < us.length) (m : Int) : highM us d s c l p m + 1 - lowM us d s c l p m ≤ 2000000000000000000 := by
  obtain ⟨_, s1, s2⟩ := steps_ok g hp
  have h1 := firstR_hi (m := m + 1) (s := s) s1
  have h2 := firstR_lo (m := m) (s := s) s1
  rw [Int.add_mul, Int.one_mul] at h1
  have h3 : highM us d s c l p m ≤ firstR (m + 1) ((stepsOf us d).getD p 0) s - 1 := by
    unfold highM
    split
    · unfold min2
      split <;> omega
    · exact Int.le_refl _
  have h4 : firstR m ((stepsOf us d).getD p 0) s ≤ lowM us d s c l p m := by
    unfold lowM max2
    split <;> omega
  omega
theorem in_range {us : List (Str × Int)} {d : Nat} {s : Str} {c : Bool} {l n : Int} (g : Good us d s l) (n0 : 0 ≤ n) {p : Nat} {m : Int} (e : placedM us d s c l n = (p, m)) : lowM us d s c l p m ≤ n ∧ n ≤ highM us d s c l p m := by
  obtain ⟨k1, k2, k3⟩ := placedM_ok (c := c) g n0
  rw [e] at k1 k2
  exact (range_iff g n0 k1 k2).mp e
theorem shown_in {us : List (Str × Int)} {d : Nat} {s : Str} {c : Bool} {l x : Int} (g : Good us d s l) (x0 : 0 ≤ x) {p : Nat} {m : Int} (hp : p < us.length) (hm : 0 ≤ m) (h1 : lowM us d s c l p m ≤ x) (h2 : x ≤ highM us d s c l p m) : shown us d s c l x = writ us d p m := by
  have e := (range_iff g x0 hp hm).mpr ⟨h1, h2⟩
  unfold shown
  rw [e]
theorem shown_is {us : List (Str × Int)} {d : Nat} {s : Str} {c : Bool} {l x : Int} (g : Good us d s l) (x0 : 0 ≤ x) (x1 : x ≤ 1000000000000000000000000000000) {p : Nat} {m : Int} (hp : p < us.length) (hm : 0 ≤ m) (hm2 : m < 10 ^ 40) (e : shown us d s c l x = writ us d p m) : lowM us d s c l p m ≤ x ∧ x ≤ highM us d s c l p m := by
  obtain ⟨k1, k2, k3⟩ := placedM_ok (c := c) g x0
  unfold shown at e
  obtain ⟨e1, e2⟩ := writ_inj g.u g.d3 k1 hp k2 hm (by omega) hm2 e
  exact (range_iff g x0 hp hm).mp (by rw [← e1, ← e2])
theorem shown_out {us : List (Str × Int)} {d : Nat} {s : Str} {c : Bool} {l x : Int} (g : Good us d s l) (x0 : 0 ≤ x) (x1 : x ≤ 1000000000000000000000000000000) {p : Nat} {m : Int} (hp : p < us.length) (hm : 0 ≤ m) (hm2 : m < 10 ^ 40) (h : x < lowM us d s c l p m ∨ highM us d s c l p m < x) : shown us d s c l x ≠ writ us d p m := fun e => by
  have := shown_is g x0 x1 hp hm hm2 e
  omega
end My

namespace My
open PySem PySem.Spec PyProof.Rows L2
/-! ### places of figures -/
theorem firstR_strict {m st : Int} {s : Str} (h0 : 0 < st) (h2 : st = 1 ∨ st % 2 = 0) (m0 : 0 ≤ m) : firstR m st s < firstR (m + 1) st s := by
  have e : (m + 1) * st = m * st + st := by rw [Int.add_mul, Int.one_mul]
  have e' : (m + 1 - 1) * st = m * st := by rw [Int.add_sub_cancel]
  rcases h2 with h2 | h2
  · subst h2
    rw [firstR_one, firstR_one]
    omega
  · have hh : st = 2 * (st / 2) := by omega
    have z : m = 0 → m * st = 0 := fun y => by rw [y, Int.zero_mul]
    unfold firstR
    rw [e, e']
    have e3 : (m - 1) * st = m * st - st := by rw [Int.sub_mul, Int.one_mul]
    rw [e3]
    generalize m * st = X at *
    split <;> rename_i c1
    · have c1' : m = 0 ∨ s = "down" := by
        rcases c1 with y | y | y
        · exact .inl y
        · omega
        · exact .inr y
      split <;> rename_i c2
      · omega
      · rcases c1' with y | y
        · have := z y
          (repeat' split) <;> omega
        · exact absurd (.inr (.inr y)) c2
    · have c2 : ¬ (m + 1 = 0 ∨ st = 1 ∨ s = "down") := fun y => y.elim (fun y => by omega) (fun y => c1 (.inr y))
      rw [if_neg c2]
      (repeat' split) <;> omega
theorem rnd_mono {n n' st : Int} {s : Str} (hs : s ∈ sorts) (h2 : st = 1 ∨ st % 2 = 0) (h0 : 0 < st) (n0 : 0 ≤ n) (h : n ≤ n') : rnd n st s ≤ rnd n' st s := by
  have r0 := rnd_nn (s := s) n0 h0
  have h1 := (rnd_ge hs h2 h0 n0 r0).mp (Int.le_refl _)
  exact (rnd_ge hs h2 h0 (by omega) r0).mpr (by omega)
theorem rnd_succ {n st : Int} {s : Str} (hs : s ∈ sorts) (h2 : st = 1 ∨ st % 2 = 0) (h0 : 0 < st) (n0 : 0 ≤ n) : rnd n st s ≤ rnd (n + 1) st s ∧ rnd (n + 1) st s ≤ rnd n st s + 1 := by
  refine ⟨rnd_mono hs h2 h0 n0 (by omega), ?_⟩
  have r0 := rnd_nn (s := s) n0 h0
  rcases Int.lt_or_le (rnd n st s + 1) (rnd (n + 1) st s) with y | y
  · exfalso
    have h1 := (rnd_ge (m := rnd n st s + 1 + 1) hs h2 h0 (show 0 ≤ n + 1 by omega) (by omega)).mp (by omega)
    have h3 := firstR_strict (m := rnd n st s + 1) (s := s) h0 h2 (by omega)
    have h4 := (rnd_ge (m := rnd n st s + 1) hs h2 h0 n0 (by omega)).mpr (by omega)
    omega
  · exact y
section
variable {us : List (Str × Int)} {d : Nat} {s : Str} {c : Bool} {l : Int}
/-- the first mark and the last mark of a unit -/
def fmM (us : List (Str × Int)) (d : Nat) (l : Int) (p : Nat) : Int := (thrsOf us l).getD p 0 / (stepsOf us d).getD p 0
def lmM (us : List (Str × Int)) (d : Nat) (s : Str) (c : Bool) (l : Int) (p : Nat) : Int := rnd (startM us d s c l (p + 1) - 1) ((stepsOf us d).getD p 0) s
def FU (us : List (Str × Int)) (d : Nat) (s : Str) (c : Bool) (l : Int) : Nat → Int
  | 0 => 0
  | p + 1 => FU us d s c l p + (lmM us d s c l p - fmM us d l p + 1)
def idxM (us : List (Str × Int)) (d : Nat) (s : Str) (c : Bool) (l : Int) (pm : Nat × Int) : Int := FU us d s c l pm.1 + pm.2 - fmM us d l pm.1
def fbM (us : List (Str × Int)) (d : Nat) (s : Str) (c : Bool) (l n : Int) : Int := idxM us d s c l (placedM us d s c l n)
theorem thr_fm (g : Good us d s l) {p : Nat} (hp : p < us.length) : (thrsOf us l).getD p 0 = fmM us d l p * (stepsOf us d).getD p 0 ∧ 0 ≤ fmM us d l p := by
  unfold fmM
  obtain ⟨_, s1, _⟩ := steps_ok g hp
  rcases Nat.eq_zero_or_pos p with z | z
  · subst z
    exact ⟨rfl, by show (0 : Int) ≤ 0 / 1; decide⟩
  · obtain ⟨⟨k, hk0, hk⟩, _⟩ := thr_steps g z hp
    rw [hk, Int.mul_ediv_cancel _ (by omega)]
    exact ⟨rfl, hk0⟩
theorem fm_le (g : Good us d s l) {p : Nat} (hp : p < us.length) : fmM us d l p ≤ 1000000 := by
  rcases Nat.eq_zero_or_pos p with z | z
  · subst z
    show (0 : Int) / 1 ≤ _
    decide
  · unfold fmM
    obtain ⟨_, s1, _⟩ := steps_ok g hp
    rw [thr_eq z hp, sz_step g z hp, Int.mul_assoc, Int.mul_ediv_cancel_left _ (by omega)]
    have h1 := pow_hi g.d3
    have h2 := g.l2
    have h3 := g.l1
    have h4 := pow_lo d
    have : (10 ^ d * l : Int) ≤ 1000 * 1000 := Int.mul_le_mul h1 h2 (by omega) (by decide)
    omega
/-- a unit begins with the mark of its threshold -/
theorem start_le_thr (g : Good us d s l) {p : Nat} (hp : p < us.length) : startM us d s c l p ≤ (thrsOf us l).getD p 0 := by
  unfold startM
  split
  · exact Int.le_refl _
  · rename_i hc
    have z : 1 ≤ p := by
      rcases Nat.eq_zero_or_pos p with y | y
      · exact absurd (.inl y) hc
      · exact y
    obtain ⟨_, s1, _⟩ := steps_ok g (show p - 1 < us.length by omega)
    obtain ⟨_, k, hk0, hk⟩ := thr_steps g z hp
    rw [hk, Int.mul_ediv_cancel _ (by omega)]
    exact firstR_hi s1
theorem start_mark (g : Good us d s l) {p : Nat} (hp : p < us.length) : rnd (startM us d s c l p) ((stepsOf us d).getD p 0) s = fmM us d l p := by
  obtain ⟨_, s1, _⟩ := steps_ok g hp
  obtain ⟨ht, hf0⟩ := thr_fm g hp
  have h2 := step_even g hp
  have hle := start_le_thr (c := c) g hp
  have hnn := start_nn (c := c) g hp
  have a1 : ¬ fmM us d l p + 1 ≤ rnd (startM us d s c l p) ((stepsOf us d).getD p 0) s := fun y => by
    have h3 := (rnd_ge g.srt h2 s1 hnn (by omega)).mp y
    have h4 := firstR_strict (s := s) s1 h2 hf0
    have h5 := firstR_lo (m := fmM us d l p + 1) (s := s) s1
    rw [Int.add_mul, Int.one_mul] at h5
    rcases h2 with e1 | e1
    · rw [e1, firstR_one] at h3
      rw [e1, Int.mul_one] at ht
      omega
    · have h6 : fmM us d l p * (stepsOf us d).getD p 0 < firstR (fmM us d l p + 1) ((stepsOf us d).getD p 0) s := by
        have e3 : (fmM us d l p + 1) * (stepsOf us d).getD p 0 = fmM us d l p * (stepsOf us d).getD p 0 + (stepsOf us d).getD p 0 := by rw [Int.add_mul, Int.one_mul]
        have e4 : (fmM us d l p + 1 - 1) * (stepsOf us d).getD p 0 = fmM us d l p * (stepsOf us d).getD p 0 := by rw [Int.add_sub_cancel]
        unfold firstR
        rw [e3, e4]
        split
        · omega
        · split
          · omega
          · split <;> omega
      omega
  have a2 : fmM us d l p ≤ rnd (startM us d s c l p) ((stepsOf us d).getD p 0) s := by
    refine (rnd_ge g.srt h2 s1 hnn hf0).mpr ?_
    unfold startM
    split
    · rw [ht]
      exact firstR_hi s1
    · rename_i hc
      have z : 1 ≤ p := by
        rcases Nat.eq_zero_or_pos p with y | y
        · exact absurd (.inl y) hc
        · exact y
      have hp' : p - 1 < us.length := by omega
      obtain ⟨_, t1, _⟩ := steps_ok g hp'
      obtain ⟨_, k, hk0, hk⟩ := thr_steps g z hp
      have hup := step_up g (p := p - 1) (by omega)
      rw [show p - 1 + 1 = p by omega] at hup
      have he' := step_even g hp'
      rw [hk, Int.mul_ediv_cancel _ (by omega)]
      rw [hk] at ht
      rcases Nat.eq_zero_or_pos (p - 1) with y | y
      · rw [y, step_zero, firstR_one]
        rw [y, step_zero, Int.mul_one] at ht
        rw [ht]
        exact firstR_hi s1
      · -- both steps are even
        have hlt : (stepsOf us d).getD (p - 1) 0 < (stepsOf us d).getD p 0 := by
          have hz0 := sz_step g y hp'
          have hz1 := sz_step g z hp
          have hupz := sz_up g.u (i := p - 1) (by omega)
          rw [show p - 1 + 1 = p by omega, hz0, hz1] at hupz
          exact Int.lt_of_mul_lt_mul_right hupz (Int.le_of_lt (pow_lo d))
        have ev : ∀ {q : Nat}, 1 ≤ q → q < us.length → (stepsOf us d).getD q 0 % 2 = 0 := fun {q} q1 q2 => by
          rcases step_even g q2 with w | w
          · exfalso
            have hh := step_at (d := d) q1 q2
            obtain ⟨i, rfl⟩ : ∃ i, q = i + 1 := ⟨q - 1, by omega⟩
            have hu : us[i + 1]? = some us[i + 1] := List.getElem?_eq_getElem q2
            have hm : us[i + 1] ∈ us.drop 1 := List.mem_of_getElem? (i := i) (by rw [List.getElem?_drop, Nat.add_comm 1 i]; exact hu)
            have hz := g.div _ hm
            obtain ⟨r, hr⟩ := Int.dvd_of_emod_eq_zero hz
            have hpw := pow_lo d
            rw [szOf_at hu, hr, show (2 * 10 ^ d * r : Int) = 2 * r * 10 ^ d by rw [Int.mul_assoc, Int.mul_assoc, Int.mul_comm (10 ^ d) r], Int.mul_ediv_cancel _ (by omega)] at hh
            omega
          · exact w
        have e1 := ev y hp'
        have e2 := ev z hp
        generalize (stepsOf us d).getD (p - 1) 0 = a at *
        generalize (stepsOf us d).getD p 0 = b at *
        generalize fmM us d l p = f at *
        have ea : a = 2 * (a / 2) := by omega
        have eb : b = 2 * (b / 2) := by omega
        have fz : f = 0 → f * b = 0 := fun w => by rw [w, Int.zero_mul]
        have kz : k = 0 → k * a = 0 := fun w => by rw [w, Int.zero_mul]
        have f3 : (f - 1) * b = f * b - b := by rw [Int.sub_mul, Int.one_mul]
        have k3 : (k - 1) * a = k * a - a := by rw [Int.sub_mul, Int.one_mul]
        have fp : 0 < f → b ≤ f * b := fun w => by
          have := Int.mul_le_mul_of_nonneg_right (c := b) (show 1 ≤ f by omega) (by omega)
          omega
        have kp : 0 < k → a ≤ k * a := fun w => by
          have := Int.mul_le_mul_of_nonneg_right (c := a) (show 1 ≤ k by omega) (by omega)
          omega
        unfold firstR
        rw [f3, k3]
        generalize f * b = X at *
        generalize k * a = Y at *
        have hf : f = 0 ∨ 0 < f := by omega
        have hk' : k = 0 ∨ 0 < k := by omega
        split <;> rename_i c1
        · split <;> rename_i c2
          · omega
          · split
            · have : 0 < k := by
                rcases hk' with w | w
                · exact absurd (.inl w) c2
                · exact w
              have := kp this
              rcases c1 with w | w | w
              · have := fz w
                omega
              · omega
              · exact absurd (.inr (.inr w)) c2
            · have : 0 < k := by
                rcases hk' with w | w
                · exact absurd (.inl w) c2
                · exact w
              have := kp this
              rcases c1 with w | w | w
              · have := fz w
                omega
              · omega
              · exact absurd (.inr (.inr w)) c2
        · have hfp : 0 < f := by
            rcases hf with w | w
            · exact absurd (.inl w) c1
            · exact w
          have hb1 := fp hfp
          have c2 : ¬ (k = 0 ∨ a = 1 ∨ s = "down") := fun w => w.elim (fun w => by have := kz w; omega) (fun w => w.elim (fun w => by omega) (fun w => c1 (.inr (.inr w))))
          rw [if_neg c2]
          (repeat' split) <;> omega
  omega
theorem start_strict (g : Good us d s l) {p : Nat} (hp : p + 1 < us.length) : startM us d s c l p < startM us d s c l (p + 1) := by
  have hnn := start_nn (c := c) g hp
  rcases Int.lt_or_le (startM us d s c l p) (startM us d s c l (p + 1)) with y | y
  · exact y
  · exfalso
    have hp0 : p < us.length := by omega
    have h0 := start_nn (c := c) g hp0
    -- the start of the next unit is shown with it, and this one too
    have h1 := start_le_thr (c := c) g hp0
    have h2 : (thrsOf us l).getD p 0 < startM us d s c l (p + 1) := by
      unfold startM
      split
      · rcases Nat.eq_zero_or_pos p with z | z
        · subst z
          rw [thr_eq (by omega) hp]
          have := (last_sz_pos g.u hp).1
          have := g.l1
          show (0 : Int) < szOf us (0 + 1) * l
          exact Int.mul_pos (by omega) (by omega)
        · rw [thr_eq z hp0, thr_eq (by omega) hp]
          exact Int.mul_lt_mul_of_pos_right (sz_up g.u hp) (by have := g.l1; omega)
      · rw [Nat.add_sub_cancel]
        obtain ⟨_, s1, _⟩ := steps_ok g hp0
        obtain ⟨ht, hf0⟩ := thr_fm g hp0
        obtain ⟨_, k, hk0, hk⟩ := thr_steps g (show 1 ≤ p + 1 by omega) hp
        rw [Nat.add_sub_cancel] at hk
        rw [hk, Int.mul_ediv_cancel _ (by omega)]
        -- k is greater than the first mark
        have hlt : fmM us d l p < k := by
          have h3 : (thrsOf us l).getD p 0 < (thrsOf us l).getD (p + 1) 0 := by
            rcases Nat.eq_zero_or_pos p with z | z
            · subst z
              rw [thr_eq (by omega) hp]
              have := (last_sz_pos g.u hp).1
              have := g.l1
              show (0 : Int) < szOf us (0 + 1) * l
              exact Int.mul_pos (by omega) (by omega)
            · rw [thr_eq z hp0, thr_eq (by omega) hp]
              exact Int.mul_lt_mul_of_pos_right (sz_up g.u hp) (by have := g.l1; omega)
          rw [ht, hk] at h3
          exact Int.lt_of_mul_lt_mul_right h3 (by omega)
        have he := step_even g hp0
        have h4 : firstR (fmM us d l p + 1) ((stepsOf us d).getD p 0) s ≤ firstR k ((stepsOf us d).getD p 0) s := by
          have hkk : ∀ (j : Nat), firstR (fmM us d l p + 1) ((stepsOf us d).getD p 0) s ≤ firstR (fmM us d l p + 1 + (j : Int)) ((stepsOf us d).getD p 0) s := by
            intro j
            induction j with
            | zero => rw [show fmM us d l p + 1 + ((0 : Nat) : Int) = fmM us d l p + 1 by omega]; exact Int.le_refl _
            | succ j ih =>
              have := firstR_strict (m := fmM us d l p + 1 + (j : Int)) (s := s) s1 he (by omega)
              rw [show fmM us d l p + 1 + ((j + 1 : Nat) : Int) = fmM us d l p + 1 + (j : Int) + 1 by omega]
              omega
          have := hkk (k - (fmM us d l p + 1)).toNat
          rw [show fmM us d l p + 1 + ((k - (fmM us d l p + 1)).toNat : Int) = k by omega] at this
          exact this
        have h5 : fmM us d l p * (stepsOf us d).getD p 0 < firstR (fmM us d l p + 1) ((stepsOf us d).getD p 0) s := by
          rcases he with e1 | e1
          · rw [e1, firstR_one]
            omega
          · have e3 : (fmM us d l p + 1) * (stepsOf us d).getD p 0 = fmM us d l p * (stepsOf us d).getD p 0 + (stepsOf us d).getD p 0 := by rw [Int.add_mul, Int.one_mul]
            have e4 : (fmM us d l p + 1 - 1) * (stepsOf us d).getD p 0 = fmM us d l p * (stepsOf us d).getD p 0 := by rw [Int.add_sub_cancel]
            unfold firstR
            rw [e3, e4]
            split
            · omega
            · split
              · omega
              · split <;> omega
        omega
    omega
end
end My

namespace My
open PySem PySem.Spec PyProof.Rows L2
section
variable {us : List (Str × Int)} {d : Nat} {s : Str} {c : Bool} {l : Int}
theorem place_mono (g : Good us d s l) {n n' : Int} (n0 : 0 ≤ n) (h : n ≤ n') : (placedM us d s c l n).1 ≤ (placedM us d s c l n').1 := by
  have hlt := (placedM_ok (c := c) g n0).1
  have h1 := (place_ge (c := c) g n0 hlt).mp (Nat.le_refl _)
  exact (place_ge (c := c) g (by omega) hlt).mpr (by omega)
/-- where a unit begins -/
theorem placed_start (g : Good us d s l) {p : Nat} (hp : p < us.length) : placedM us d s c l (startM us d s c l p) = (p, fmM us d l p) := by
  have h0 := start_nn (c := c) g hp
  have h1 := (place_ge (c := c) g h0 hp).mpr (Int.le_refl _)
  have h2 : (placedM us d s c l (startM us d s c l p)).1 ≤ p := by
    have hlt := (placedM_ok (c := c) g h0).1
    rcases Nat.lt_or_ge p (placedM us d s c l (startM us d s c l p)).1 with y | y
    · exfalso
      have hp1 : p + 1 < us.length := by omega
      have h3 := (place_ge (c := c) g h0 hp1).mp y
      have := start_strict (c := c) g hp1
      omega
    · exact y
  have e1 : (placedM us d s c l (startM us d s c l p)).1 = p := by omega
  have e2 := placed_snd us d s c l (startM us d s c l p)
  rw [e1, start_mark g hp] at e2
  exact Prod.ext e1 e2
/-- where a unit ends -/
theorem placed_end (g : Good us d s l) {p : Nat} (hp : p + 1 < us.length) : placedM us d s c l (startM us d s c l (p + 1) - 1) = (p, lmM us d s c l p) := by
  have hs := start_strict (c := c) g hp
  have hp0 : p < us.length := by omega
  have h0 := start_nn (c := c) g hp0
  have h1 := (place_ge (c := c) (n := startM us d s c l (p + 1) - 1) g (by omega) hp0).mpr (by omega)
  have h2 : (placedM us d s c l (startM us d s c l (p + 1) - 1)).1 ≤ p := by
    rcases Nat.lt_or_ge p (placedM us d s c l (startM us d s c l (p + 1) - 1)).1 with y | y
    · exfalso
      have h3 := (place_ge (c := c) (n := startM us d s c l (p + 1) - 1) g (by omega) hp).mp y
      omega
    · exact y
  have e1 : (placedM us d s c l (startM us d s c l (p + 1) - 1)).1 = p := by omega
  have e2 := placed_snd us d s c l (startM us d s c l (p + 1) - 1)
  rw [e1] at e2
  have e3 : (placedM us d s c l (startM us d s c l (p + 1) - 1)).2 = lmM us d s c l p := e2
  exact Prod.ext e1 e3
theorem lm_ge (g : Good us d s l) {p : Nat} (hp : p + 1 < us.length) : fmM us d l p ≤ lmM us d s c l p := by
  have hp0 : p < us.length := by omega
  have hs := start_strict (c := c) g hp
  have h0 := start_nn (c := c) g hp0
  obtain ⟨_, s1, _⟩ := steps_ok g hp0
  rw [← start_mark (c := c) g hp0]
  unfold lmM
  exact rnd_mono g.srt (step_even g hp0) s1 h0 (by omega)
/-- one number further: the same figure, or the next place -/
theorem fb_succ (g : Good us d s l) {n : Int} (n0 : 0 ≤ n) : (placedM us d s c l (n + 1) = placedM us d s c l n) ∨ (placedM us d s c l (n + 1) ≠ placedM us d s c l n ∧ fbM us d s c l (n + 1) = fbM us d s c l n + 1) := by
  have hlt := (placedM_ok (c := c) g n0).1
  have hlt' := (placedM_ok (c := c) (n := n + 1) g (by omega)).1
  have hm := place_mono (c := c) g n0 (show n ≤ n + 1 by omega)
  have es := placed_snd us d s c l n
  have es' := placed_snd us d s c l (n + 1)
  rcases Nat.lt_or_ge (placedM us d s c l n).1 (placedM us d s c l (n + 1)).1 with y | y
  · right
    -- a new unit begins at n + 1
    have hp1 : (placedM us d s c l n).1 + 1 < us.length := by omega
    have h1 : n < startM us d s c l ((placedM us d s c l n).1 + 1) := by
      rcases Int.lt_or_le n (startM us d s c l ((placedM us d s c l n).1 + 1)) with w | w
      · exact w
      · have := (place_ge (c := c) g n0 hp1).mpr w
        omega
    have h2 := (place_ge (c := c) (n := n + 1) g (by omega) hp1).mp (by omega)
    have en : n + 1 = startM us d s c l ((placedM us d s c l n).1 + 1) := by omega
    have e1 := placed_start (c := c) g hp1
    have e2 := placed_end (c := c) g hp1
    rw [← en] at e1
    rw [← en, Int.add_sub_cancel] at e2
    refine ⟨fun w => ?_, ?_⟩
    · rw [w] at y
      omega
    · unfold fbM
      rw [e1]
      generalize (placedM us d s c l n).1 = p at *
      rw [e2]
      show FU us d s c l p + (lmM us d s c l p - fmM us d l p + 1) + fmM us d l (p + 1) - fmM us d l (p + 1) = FU us d s c l p + lmM us d s c l p - fmM us d l p + 1
      omega
  · have ep : (placedM us d s c l (n + 1)).1 = (placedM us d s c l n).1 := by omega
    obtain ⟨_, s1, _⟩ := steps_ok g hlt
    obtain ⟨r1, r2⟩ := rnd_succ (s := s) g.srt (step_even g hlt) s1 n0
    rw [ep] at es'
    rw [← es, ← es'] at r1 r2
    rcases Int.lt_or_le (placedM us d s c l n).2 (placedM us d s c l (n + 1)).2 with w | w
    · right
      refine ⟨fun v => ?_, ?_⟩
      · rw [v] at w
        omega
      · unfold fbM idxM
        rw [ep]
        omega
    · left
      exact Prod.ext ep (by omega)
theorem fb_mono (g : Good us d s l) {n : Int} (n0 : 0 ≤ n) : ∀ k : Nat, fbM us d s c l n ≤ fbM us d s c l (n + (k : Int)) := by
  intro k
  induction k with
  | zero => rw [show n + ((0 : Nat) : Int) = n by omega]; exact Int.le_refl _
  | succ k ih =>
    rw [show n + ((k + 1 : Nat) : Int) = n + (k : Int) + 1 by omega]
    rcases fb_succ (c := c) (n := n + (k : Int)) g (by omega) with e | ⟨_, e⟩
    · have e2 : fbM us d s c l (n + (k : Int) + 1) = fbM us d s c l (n + (k : Int)) := by unfold fbM; rw [e]
      omega
    · omega
theorem fb_le (g : Good us d s l) {n n' : Int} (n0 : 0 ≤ n) (h : n ≤ n') : fbM us d s c l n ≤ fbM us d s c l n' := by
  have := fb_mono (c := c) g n0 (n' - n).toNat
  rw [show n + ((n' - n).toNat : Int) = n' by omega] at this
  exact this
/-- the figure behind the range of a figure -/
theorem next_place (g : Good us d s l) {p : Nat} {m : Int} (hp : p < us.length) (hm : 0 ≤ m) (hle : lowM us d s c l p m ≤ highM us d s c l p m) :
    lowM us d s c l (placedM us d s c l (highM us d s c l p m + 1)).1 (placedM us d s c l (highM us d s c l p m + 1)).2 = highM us d s c l p m + 1 ∧ idxM us d s c l (placedM us d s c l (highM us d s c l p m + 1)) = idxM us d s c l (p, m) + 1 := by
  have h0 := low_nn (c := c) g hp m
  have hh : 0 ≤ highM us d s c l p m := by omega
  have e0 := (range_iff (c := c) g hh hp hm).mpr ⟨hle, Int.le_refl _⟩
  have e1 : placedM us d s c l (highM us d s c l p m + 1) ≠ (p, m) := fun e => by
    have := (range_iff (c := c) (n := highM us d s c l p m + 1) g (by omega) hp hm).mp e
    omega
  constructor
  · have hin := in_range (c := c) (n := highM us d s c l p m + 1) g (by omega) (p := (placedM us d s c l (highM us d s c l p m + 1)).1) (m := (placedM us d s c l (highM us d s c l p m + 1)).2) rfl
    obtain ⟨k1, k2, _⟩ := placedM_ok (c := c) (n := highM us d s c l p m + 1) g (by omega)
    rcases Int.lt_or_le (lowM us d s c l (placedM us d s c l (highM us d s c l p m + 1)).1 (placedM us d s c l (highM us d s c l p m + 1)).2) (highM us d s c l p m + 1) with y | y
    · exfalso
      have := (range_iff (c := c) g hh k1 k2).mpr ⟨by omega, by omega⟩
      rw [e0] at this
      exact e1 this.symm
    · omega
  · rcases fb_succ (c := c) g hh with e | ⟨_, e⟩
    · rw [e0] at e
      exact absurd e e1
    · unfold fbM at e
      rw [e0] at e
      exact e
/-- which figures are shown -/
theorem is_shown (g : Good us d s l) {p : Nat} {m : Int} (hp : p < us.length) (h1 : fmM us d l p ≤ m) (h2 : p + 1 < us.length → m ≤ lmM us d s c l p) : lowM us d s c l p m ≤ highM us d s c l p m := by
  obtain ⟨_, s1, _⟩ := steps_ok g hp
  have he := step_even g hp
  have hf0 := (thr_fm g hp).2
  have h0 := start_nn (c := c) g hp
  suffices h : ∃ x, 0 ≤ x ∧ placedM us d s c l x = (p, m) by
    obtain ⟨x, x0, ex⟩ := h
    have := (range_iff (c := c) g x0 hp (by omega)).mp ex
    omega
  rcases Int.lt_or_le (fmM us d l p) m with y | y
  · refine ⟨firstR m ((stepsOf us d).getD p 0) s, firstR_nn s1 (by omega), ?_⟩
    have x0 := firstR_nn (m := m) (st := (stepsOf us d).getD p 0) (s := s) s1 (by omega)
    have hgt : startM us d s c l p < firstR m ((stepsOf us d).getD p 0) s := by
      rcases Int.lt_or_le (startM us d s c l p) (firstR m ((stepsOf us d).getD p 0) s) with w | w
      · exact w
      · exfalso
        have := (rnd_ge g.srt he s1 h0 (show 0 ≤ m by omega)).mpr w
        rw [start_mark g hp] at this
        omega
    have hlt : p + 1 < us.length → firstR m ((stepsOf us d).getD p 0) s < startM us d s c l (p + 1) := fun hp1 => by
      have hs := start_strict (c := c) g hp1
      have := (rnd_ge (n := startM us d s c l (p + 1) - 1) g.srt he s1 (by omega) (show 0 ≤ m by omega)).mp (h2 hp1)
      omega
    have a1 := (place_ge (c := c) g x0 hp).mpr (by omega)
    have a2 : (placedM us d s c l (firstR m ((stepsOf us d).getD p 0) s)).1 ≤ p := by
      have hlt2 := (placedM_ok (c := c) g x0).1
      rcases Nat.lt_or_ge p (placedM us d s c l (firstR m ((stepsOf us d).getD p 0) s)).1 with w | w
      · exfalso
        have hp1 : p + 1 < us.length := by omega
        have := (place_ge (c := c) g x0 hp1).mp w
        have := hlt hp1
        omega
      · exact w
    have e1 : (placedM us d s c l (firstR m ((stepsOf us d).getD p 0) s)).1 = p := by omega
    have e2 := placed_snd us d s c l (firstR m ((stepsOf us d).getD p 0) s)
    rw [e1] at e2
    have e3 : rnd (firstR m ((stepsOf us d).getD p 0) s) ((stepsOf us d).getD p 0) s = m := by
      have b1 := (rnd_ge (n := firstR m ((stepsOf us d).getD p 0) s) g.srt he s1 x0 (show 0 ≤ m by omega)).mpr (Int.le_refl _)
      have b2 : ¬ m + 1 ≤ rnd (firstR m ((stepsOf us d).getD p 0) s) ((stepsOf us d).getD p 0) s := fun w => by
        have := (rnd_ge (n := firstR m ((stepsOf us d).getD p 0) s) (m := m + 1) g.srt he s1 x0 (by omega)).mp w
        have := firstR_strict (m := m) (s := s) s1 he (by omega)
        omega
      omega
    rw [e3] at e2
    exact Prod.ext e1 e2
  · refine ⟨_, h0, ?_⟩
    rw [placed_start g hp, show m = fmM us d l p by omega]
theorem FU_up (g : Good us d s l) {p : Nat} (hp : p + 1 < us.length) : FU us d s c l p < FU us d s c l (p + 1) := by
  have := lm_ge (c := c) g hp
  show FU us d s c l p < FU us d s c l p + (lmM us d s c l p - fmM us d l p + 1)
  omega
theorem FU_mono (g : Good us d s l) : ∀ {q p : Nat}, p ≤ q → q < us.length → FU us d s c l p ≤ FU us d s c l q := by
  intro q
  induction q with
  | zero => intro p h _; rw [show p = 0 by omega]; exact Int.le_refl _
  | succ q ih =>
    intro p h hq
    rcases Nat.lt_or_ge p (q + 1) with y | y
    · have := ih (p := p) (by omega) (by omega)
      have := FU_up (c := c) g hq
      omega
    · rw [show p = q + 1 by omega]
      exact Int.le_refl _
theorem FU_nn (g : Good us d s l) {p : Nat} (hp : p < us.length) : 0 ≤ FU us d s c l p := FU_mono (c := c) g (Nat.zero_le p) hp
/-- all that is asked of the unit that figure_at finds -/
theorem at_place (g : Good us d s l) {k : Int} {p : Nat} (hp : p < us.length) (h1 : FU us d s c l p ≤ k) (h2 : p + 1 < us.length → k < FU us d s c l (p + 1)) :
    fmM us d l p ≤ fmM us d l p + k - FU us d s c l p ∧ lowM us d s c l p (fmM us d l p + k - FU us d s c l p) ≤ highM us d s c l p (fmM us d l p + k - FU us d s c l p) ∧ idxM us d s c l (p, fmM us d l p + k - FU us d s c l p) = k := by
  refine ⟨by omega, is_shown g hp (by omega) (fun hp1 => ?_), ?_⟩
  · have h3 := h2 hp1
    have h4 : FU us d s c l (p + 1) = FU us d s c l p + (lmM us d s c l p - fmM us d l p + 1) := rfl
    omega
  · show FU us d s c l p + (fmM us d l p + k - FU us d s c l p) - fmM us d l p = k
    omega
/-- the worth never falls -/
theorem worth_succ (g : Good us d s l) {n : Int} (n0 : 0 ≤ n) : worthM us d s c l n ≤ worthM us d s c l (n + 1) := by
  have hlt := (placedM_ok (c := c) g n0).1
  have hlt' := (placedM_ok (c := c) (n := n + 1) g (by omega)).1
  have hm := place_mono (c := c) g n0 (show n ≤ n + 1 by omega)
  have es := placed_snd us d s c l n
  have es' := placed_snd us d s c l (n + 1)
  obtain ⟨_, s1, _⟩ := steps_ok g hlt
  unfold worthM
  rcases Nat.lt_or_ge (placedM us d s c l n).1 (placedM us d s c l (n + 1)).1 with y | y
  · have hp1 : (placedM us d s c l n).1 + 1 < us.length := by omega
    have h1 : n < startM us d s c l ((placedM us d s c l n).1 + 1) := by
      rcases Int.lt_or_le n (startM us d s c l ((placedM us d s c l n).1 + 1)) with w | w
      · exact w
      · have := (place_ge (c := c) g n0 hp1).mpr w
        omega
    have h2 := (place_ge (c := c) (n := n + 1) g (by omega) hp1).mp (by omega)
    have en : n + 1 = startM us d s c l ((placedM us d s c l n).1 + 1) := by omega
    have e1 := placed_start (c := c) g hp1
    rw [← en] at e1
    have hthr := start_le_thr (c := c) g hp1
    rw [← en] at hthr
    have ht := (thr_fm g hp1).1
    obtain ⟨_, k, hk0, hk⟩ := thr_steps g (show 1 ≤ (placedM us d s c l n).1 + 1 by omega) hp1
    rw [Nat.add_sub_cancel] at hk
    rw [e1]
    generalize (placedM us d s c l n).1 = p at *
    rw [es]
    show rnd n ((stepsOf us d).getD p 0) s * (stepsOf us d).getD p 0 ≤ fmM us d l (p + 1) * (stepsOf us d).getD (p + 1) 0
    rw [← ht, hk]
    rw [hk] at hthr
    exact Int.mul_le_mul_of_nonneg_right (rnd_below s1 (by omega)) (by omega)
  · have ep : (placedM us d s c l (n + 1)).1 = (placedM us d s c l n).1 := by omega
    obtain ⟨r1, r2⟩ := rnd_succ (s := s) g.srt (step_even g hlt) s1 n0
    rw [ep] at es'
    rw [← es, ← es'] at r1
    rw [ep]
    exact Int.mul_le_mul_of_nonneg_right r1 (by omega)
theorem worth_mono (g : Good us d s l) {n : Int} (n0 : 0 ≤ n) : ∀ k : Nat, worthM us d s c l n ≤ worthM us d s c l (n + (k : Int)) := by
  intro k
  induction k with
  | zero => rw [show n + ((0 : Nat) : Int) = n by omega]; exact Int.le_refl _
  | succ k ih =>
    have := worth_succ (c := c) (n := n + (k : Int)) g (by omega)
    rw [show n + ((k + 1 : Nat) : Int) = n + (k : Int) + 1 by omega]
    omega
theorem worth_le (g : Good us d s l) {n n' : Int} (n0 : 0 ≤ n) (h : n ≤ n') : worthM us d s c l n ≤ worthM us d s c l n' := by
  have := worth_mono (c := c) g n0 (n' - n).toNat
  rw [show n + ((n' - n).toNat : Int) = n' by omega] at this
  exact this
/-- figures are the same exactly if their places are -/
theorem same_iff (g : Good us d s l) {n n' : Int} (n0 : 0 ≤ n) (h : n ≤ n') : placedM us d s c l n = placedM us d s c l n' ↔ fbM us d s c l n = fbM us d s c l n' := by
  constructor
  · intro e
    unfold fbM
    rw [e]
  · intro e
    have key : ∀ k : Nat, n + (k : Int) ≤ n' → placedM us d s c l (n + (k : Int)) = placedM us d s c l n := by
      intro k
      induction k with
      | zero => intro _; rw [show n + ((0 : Nat) : Int) = n by omega]
      | succ k ih =>
        intro hk
        have i1 := ih (by omega)
        rw [show n + ((k + 1 : Nat) : Int) = n + (k : Int) + 1 by omega]
        rcases fb_succ (c := c) (n := n + (k : Int)) g (by omega) with e1 | ⟨_, e1⟩
        · rw [e1, i1]
        · exfalso
          have h1 := fb_le (c := c) (n := n + (k : Int) + 1) (n' := n') g (by omega) (by omega)
          have h2 : fbM us d s c l (n + (k : Int)) = fbM us d s c l n := by unfold fbM; rw [i1]
          omega
    have := key (n' - n).toNat (by omega)
    rw [show n + ((n' - n).toNat : Int) = n' by omega] at this
    exact this.symm
end
end My

namespace My
open PySem PySem.Spec PyProof.Rows L2
theorem low_hi {us : List (Str × Int)} {d : Nat} {s : Str} {c : Bool} {l : Int} (g : Good us d s l) {p : Nat} (hp : p < us.length) {m : Int} (m0 : 0 ≤ m) (m1 : m ≤ 2000000000) : lowM us d s c l p m ≤ 2000000000000000000000000000 := by
  obtain ⟨_, s1, s2⟩ := steps_ok g hp
  have h1 := firstR_hi (m := m) (s := s) s1
  have h2 : m * (stepsOf us d).getD p 0 ≤ 2000000000 * 1000000000000000000 := Int.mul_le_mul m1 s2 (by omega) (by decide)
  have h3 := start_le_thr (c := c) g hp
  have h4 : (thrsOf us l).getD p 0 ≤ 1000 * 1000000000000000000 := by
    rcases Nat.eq_zero_or_pos p with z | z
    · subst z
      show (0 : Int) ≤ _
      decide
    · rw [thr_eq z hp]
      have b1 := last_sz_pos g.u hp
      have b2 := g.l1
      have b3 := g.l2
      have : szOf us p * l ≤ 1000000000000000000 * 1000 := Int.mul_le_mul b1.2 b3 (by omega) (by decide)
      omega
  unfold lowM max2
  split <;> omega
/-- the mark of a figure with this place -/
theorem mark_le {us : List (Str × Int)} {d : Nat} {s : Str} {c : Bool} {l : Int} (g : Good us d s l) {p : Nat} (hp : p < us.length) {m : Int} : m ≤ idxM us d s c l (p, m) + 1000000 := by
  have h1 := FU_nn (c := c) g hp
  have h2 := fm_le g hp
  show m ≤ FU us d s c l p + m - fmM us d l p + 1000000
  omega
theorem low_place {us : List (Str × Int)} {d : Nat} {s : Str} {c : Bool} {l : Int} (g : Good us d s l) {p : Nat} (hp : p < us.length) {m : Int} (m0 : 0 ≤ m) (hle : lowM us d s c l p m ≤ highM us d s c l p m) : placedM us d s c l (lowM us d s c l p m) = (p, m) :=
  (range_iff g (low_nn g hp m) hp m0).mpr ⟨Int.le_refl _, hle⟩
theorem low_order {us : List (Str × Int)} {d : Nat} {s : Str} {c : Bool} {l : Int} (g : Good us d s l) {p p' : Nat} (hp : p < us.length) (hp' : p' < us.length) {m m' : Int} (m0 : 0 ≤ m) (m0' : 0 ≤ m') (hle : lowM us d s c l p m ≤ highM us d s c l p m) (hle' : lowM us d s c l p' m' ≤ highM us d s c l p' m')
    (h : idxM us d s c l (p, m) ≤ idxM us d s c l (p', m')) : lowM us d s c l p m ≤ lowM us d s c l p' m' := by
  have e := low_place (c := c) g hp m0 hle
  have e' := low_place (c := c) g hp' m0' hle'
  have n0 := low_nn (c := c) g hp' m'
  rcases Int.lt_or_le (lowM us d s c l p' m') (lowM us d s c l p m) with y | y
  · exfalso
    have h1 := fb_le (c := c) g n0 (Int.le_of_lt y)
    have h2 : fbM us d s c l (lowM us d s c l p' m') = fbM us d s c l (lowM us d s c l p m) := by
      unfold fbM at h1 ⊢
      rw [e, e'] at h1 ⊢
      omega
    have h3 := (same_iff (c := c) g n0 (Int.le_of_lt y)).mpr h2
    rw [e, e'] at h3
    rw [← Prod.mk.inj h3 |>.1, ← Prod.mk.inj h3 |>.2] at y
    omega
  · exact y
end My

namespace My
open PySem PySem.Spec PyProof.Rows L2
def spNextF (K : PySem.W.Frag) (C : Addr) : Sp := fun vs H Q _ => ∃ (a : Addr) (us : List (Str × Int)) (d : Nat) (s : Str) (c : Bool) (l : Int) (p : Nat) (m : Int), vs = [.ref a, .str (writ us d p m)] ∧ LadAt K C H a us d s c l ∧ Good us d s l ∧ p < us.length ∧ 0 ≤ m ∧ m < 10 ^ 24 ∧
  lowM us d s c l p m ≤ highM us d s c l p m ∧ highM us d s c l p m < 1000000000000000000000000000000 ∧ ∀ (H' : Hp), Same H H' → Q (.str (shown us d s c l (highM us d s c l p m + 1))) H'
section
variable {P : Program} {w : World} {K : PySem.W.Frag} {mg : Str → Option Value} {base : Heap}
end
end My

namespace My
open PySem PySem.Spec PyProof.Rows L2
/-! ### places of figures, in the program -/
abbrev sLastMark : Stmt := top 50
theorem scLastMark : FnScope ["ladder", "place"] ["ladder", "place"] (defScope sLastMark) := ⟨rfl, rfl, rfl, by decide +kernel, rfl, by decide +kernel, by decide +kernel⟩
def spFirstMark (K : PySem.W.Frag) (C : Addr) : Sp := fun vs H Q _ => ∃ (a : Addr) (us : List (Str × Int)) (d : Nat) (s : Str) (c : Bool) (l : Int) (p : Nat), vs = [.ref a, .int (p : Int)] ∧ LadAt K C H a us d s c l ∧ Good us d s l ∧ p < us.length ∧ Q (.int (fmM us d l p)) H
def spLastMark (K : PySem.W.Frag) (C : Addr) : Sp := fun vs H Q _ => ∃ (a : Addr) (us : List (Str × Int)) (d : Nat) (s : Str) (c : Bool) (l : Int) (p : Nat), vs = [.ref a, .int (p : Int)] ∧ LadAt K C H a us d s c l ∧ Good us d s l ∧ p + 1 < us.length ∧ ∀ H', Same H H' → Q (.int (lmM us d s c l p)) H'
def spFiguresBU (K : PySem.W.Frag) (C : Addr) : Sp := fun vs H Q _ => ∃ (a : Addr) (us : List (Str × Int)) (d : Nat) (s : Str) (c : Bool) (l : Int) (p : Nat), vs = [.ref a, .int (p : Int)] ∧ LadAt K C H a us d s c l ∧ Good us d s l ∧ p < us.length ∧ ∀ H', Same H H' → Q (.int (FU us d s c l p)) H'
def spFiguresB (K : PySem.W.Frag) (C : Addr) : Sp := fun vs H Q _ => ∃ (a : Addr) (us : List (Str × Int)) (d : Nat) (s : Str) (c : Bool) (l n : Int), vs = [.ref a, .int n] ∧ LadAt K C H a us d s c l ∧ Good us d s l ∧ 0 ≤ n ∧ ∀ H', Same H H' → Q (.int (fbM us d s c l n)) H'
def spPlaceOf (K : PySem.W.Frag) (C : Addr) : Sp := fun vs H Q _ => ∃ (a : Addr) (us : List (Str × Int)) (d : Nat) (s : Str) (c : Bool) (l : Int) (p : Nat) (m : Int), vs = [.ref a, .str (writ us d p m)] ∧ LadAt K C H a us d s c l ∧ Good us d s l ∧ p < us.length ∧ 0 ≤ m ∧ m < 10 ^ 24 ∧
  lowM us d s c l p m ≤ highM us d s c l p m ∧ ∀ (H' : Hp), Same H H' → Q (.int (idxM us d s c l (p, m))) H'
def spFigureAt (K : PySem.W.Frag) (C : Addr) : Sp := fun vs H Q _ => ∃ (a : Addr) (us : List (Str × Int)) (d : Nat) (s : Str) (c : Bool) (l k : Int), vs = [.ref a, .int k] ∧ LadAt K C H a us d s c l ∧ Good us d s l ∧ 0 ≤ k ∧ k ≤ 1000000000 ∧
  ∀ (p : Nat) (m : Int) (H' : Hp), Same H H' → p < us.length → 0 ≤ m → m ≤ 1001000000 → lowM us d s c l p m ≤ highM us d s c l p m → idxM us d s c l (p, m) = k → Q (.str (writ us d p m)) H'
theorem sum_snoc (xs : List Int) (x : Int) : (xs ++ [x]).sum = xs.sum + x := by
  rw [List.sum_append, List.sum_singleton]
section
variable {P : Program} {w : World} {K : PySem.W.Frag} {mg : Str → Option Value} {base : Heap}
theorem ok_lastmark (d : Dd K mg "last_mark" sLastMark ["ladder", "place"]) (dS : Dd K mg "start_of" sStartOf ["ladder", "place"]) (dF : Dd K mg "first_rounded" sFirstR ["mark", "step", "rounding"]) (dR : Dd K mg "rounded" sRounded ["number", "step", "rounding"]) (dG : Dd K mg "goes_up" sGoes ["below", "rest", "step", "rounding"]) (L : LadC K mg) (B : Bt mg) :
    FnOk P w K mg base CX0 4 d.f d.fd ["ladder", "place"] (spLastMark K L.C) := by
  have GS : FnOk P w K mg base CX0 3 dS.f dS.fd ["ladder", "place"] (spStartOf K L.C) := ok_startof dS dF L
  have GR : FnOk P w K mg base CX0 3 dR.f dR.fd ["number", "step", "rounding"] spRounded := ok_rounded dR dG B
  refine d.F.ok scLastMark (fun vs H Q E h => ?_) (fun cdv A outer s H vs Q E hr h => ?_)
  · obtain ⟨_, _, _, _, _, _, _, rfl, _⟩ := h
    rfl
  · obtain ⟨a, us, dn, z, c, l, p, rfl, hL, g, hlt, q⟩ := h
    refine ⟨_, pss_one (ps_ret (pe_call GR hr (by rfl) dR.g dR.F.kp dR.b .nil pass0 (pa_cons (pe_op op_sub (pe_call GS hr (by rfl) dS.g dS.F.kp dS.b .nil pass0 (pa_cons (pv 0) (pa_cons (pe_op op_add (pv 1) pe_int) pa_nil))) pe_int)
      (pa_cons (pe_ix ix_tup (pe_fld (pv 0) rfl) (pv 1) (fun _ _ => rfl)) (pa_cons (pe_fld (pv 0) rfl) pa_nil))))), ?_⟩
    obtain ⟨k1, k2, k3⟩ := steps_ok g (show p < us.length by omega)
    obtain ⟨dx, ua, t, st, th, hp, hua, ht, hs, hth⟩ := id hL
    refine ⟨_, rfl, _, rfl, p, 1, rfl, rfl, a, us, dn, z, c, l, p + 1, rfl, hL, g, hlt, _, 1, rfl, rfl, ?_⟩
    exact ⟨_, rfl, a, L.C, dx, _, _, rfl, hp, L.cl, L.nSteps, fl_steps .., _, rfl, st, _, p, .int ((stepsOf us dn).getD p 0), rfl, rfl, hs, atI_nat (by rw [List.getElem?_map, k1]; rfl), _, rfl, a, L.C, dx, _, _, rfl, hp, L.cl, L.nRnd, fl_rnd .., _, _, z, rfl, k2, by omega, q⟩
end
end My

namespace My
open PySem PySem.Spec PyProof.Rows L2
def spForms (K : PySem.W.Frag) (C : Addr) : Sp := fun vs H Q _ => ∃ (a : Addr) (us : List (Str × Int)) (d : Nat) (s : Str) (c : Bool) (l x y : Int), vs = [.ref a, .int x, .int y] ∧ LadAt K C H a us d s c l ∧ Good us d s l ∧ 0 ≤ x ∧ x ≤ y ∧ y ≤ 1000000000000000000 ∧
  ∀ (H' : Hp), Same H H' → Q (.int (fbM us d s c l y - fbM us d s c l x + 1)) H'
section
variable {P : Program} {w : World} {K : PySem.W.Frag} {mg : Str → Option Value} {base : Heap}
end
end My

namespace My
open PySem PySem.Spec PyProof.Rows L2
/-! ### when two ladders show the same -/
/-- what a step and a rounding may be -/
structure Stp (st : Int) (s : Str) : Prop where
  pos : 0 < st
  even : st = 1 ∨ st % 2 = 0
  srt : s ∈ sorts
theorem Good.stp {us : List (Str × Int)} {d : Nat} {s : Str} {l : Int} (g : Good us d s l) {p : Nat} (hp : p < us.length) : Stp ((stepsOf us d).getD p 0) s := ⟨(steps_ok g hp).2.1, step_even g hp, g.srt⟩
/-- two marks further it goes on alike -/
theorem firstR_two {m st : Int} {s : Str} (h : Stp st s) (m1 : 1 ≤ m) : firstR (m + 2) st s = firstR m st s + 2 * st := by
  have e : (m + 2) * st = m * st + 2 * st := by rw [Int.add_mul]
  have e' : (m + 2 - 1) * st = (m - 1) * st + 2 * st := by rw [show m + 2 - 1 = (m - 1) + 2 by omega, Int.add_mul]
  have c1 : (m + 2 = 0 ∨ st = 1 ∨ s = "down") ↔ (m = 0 ∨ st = 1 ∨ s = "down") := ⟨fun y => y.elim (fun y => by omega) .inr, fun y => y.elim (fun y => by omega) .inr⟩
  have c2 : (s = "even" ∧ (m + 2) % 2 = 1) ↔ (s = "even" ∧ m % 2 = 1) := ⟨fun y => ⟨y.1, by omega⟩, fun y => ⟨y.1, by omega⟩⟩
  unfold firstR
  rw [e, e']
  by_cases k1 : m = 0 ∨ st = 1 ∨ s = "down"
  · rw [if_pos (c1.mpr k1), if_pos k1]
  · rw [if_neg (fun y => k1 (c1.mp y)), if_neg k1]
    by_cases k2 : s = "up"
    · rw [if_pos k2, if_pos k2]
      omega
    · rw [if_neg k2, if_neg k2]
      by_cases k3 : s = "even" ∧ m % 2 = 1
      · rw [if_pos (c2.mpr k3), if_pos k3]
        omega
      · rw [if_neg (fun y => k3 (c2.mp y)), if_neg k3]
        omega
/-- what agrees at three marks in a row agrees at all -/
theorem firstR_agree {st st' m : Int} {s s' : Str} (h : Stp st s) (h' : Stp st' s') (m0 : 0 ≤ m) (e1 : firstR (m + 1) st s = firstR (m + 1) st' s') (e2 : firstR (m + 2) st s = firstR (m + 2) st' s') (e3 : firstR (m + 3) st s = firstR (m + 3) st' s') :
    ∀ k : Nat, firstR (m + 1 + (k : Int)) st s = firstR (m + 1 + (k : Int)) st' s' := by
  have a := firstR_two h (show 1 ≤ m + 1 by omega)
  have a' := firstR_two h' (show 1 ≤ m + 1 by omega)
  rw [show m + 1 + 2 = m + 3 by omega] at a a'
  have est : st = st' := by omega
  have key : ∀ k : Nat, firstR (m + 1 + (k : Int)) st s = firstR (m + 1 + (k : Int)) st' s' ∧ firstR (m + 1 + (k : Int) + 1) st s = firstR (m + 1 + (k : Int) + 1) st' s' := by
    intro k
    induction k with
    | zero =>
      rw [show m + 1 + ((0 : Nat) : Int) = m + 1 by omega, show m + 1 + 1 = m + 2 by omega]
      exact ⟨e1, e2⟩
    | succ k ih =>
      rw [show m + 1 + ((k + 1 : Nat) : Int) = m + 1 + (k : Int) + 1 by omega]
      refine ⟨ih.2, ?_⟩
      rw [show m + 1 + (k : Int) + 1 + 1 = m + 1 + (k : Int) + 2 by omega, firstR_two h (by omega), firstR_two h' (by omega), ih.1, est]
  exact fun k => (key k).1
theorem rnd_step_eq {n st m : Int} {s : Str} (h : Stp st s) (n0 : 0 ≤ n) (m0 : 0 ≤ m) (h1 : rnd n st s < m) (h2 : m ≤ rnd (n + 1) st s) : n + 1 = firstR m st s := by
  have a := (rnd_ge h.srt h.even h.pos (show 0 ≤ n + 1 by omega) m0).mp h2
  have b : ¬ firstR m st s ≤ n := fun y => by have := (rnd_ge h.srt h.even h.pos n0 m0).mpr y; omega
  omega
/-- marks that are equal up to a change, and not from there on: the change is one of the next three -/
theorem change_near {st st' a n : Int} {s s' : Str} (h : Stp st s) (h' : Stp st' s') (a0 : 0 ≤ a) (an : a < n) (hsame : ∀ x, a ≤ x → x < n → rnd x st s = rnd x st' s') (hinc : rnd (n - 1) st s < rnd n st s) (hst : rnd n st' s' ≤ rnd (n - 1) st' s') :
    ∃ j : Nat, j < 3 ∧ n = firstR (rnd a st s + 1 + (j : Int)) st s := by
  have r0 := rnd_nn (s := s) a0 h.pos
  have hm := rnd_mono h.srt h.even h.pos a0 (show a ≤ n - 1 by omega)
  have hn : n = firstR (rnd (n - 1) st s + 1) st s := by
    have := rnd_step_eq (n := n - 1) (m := rnd (n - 1) st s + 1) h (by omega) (by omega) (by omega) (by rw [Int.sub_add_cancel]; omega)
    omega
  rcases Int.lt_or_le (rnd (n - 1) st s) (rnd a st s + 3) with y | y
  · refine ⟨(rnd (n - 1) st s - rnd a st s).toNat, by omega, ?_⟩
    rw [show rnd a st s + 1 + ((rnd (n - 1) st s - rnd a st s).toNat : Int) = rnd (n - 1) st s + 1 by omega]
    exact hn
  · exfalso
    have ea := hsame a (Int.le_refl _) an
    have en := hsame (n - 1) (by omega) (by omega)
    -- a change of the one is a change of the other
    have both : ∀ i : Int, 1 ≤ i → i ≤ 3 → firstR (rnd a st s + i) st s = firstR (rnd a st s + i) st' s' := fun i i1 i2 => by
      have b1 := (rnd_ge (m := rnd a st s + i) h.srt h.even h.pos (show 0 ≤ n - 1 by omega) (by omega)).mp (by omega)
      have b2 : ¬ firstR (rnd a st s + i) st s ≤ a := fun w => by have := (rnd_ge (m := rnd a st s + i) h.srt h.even h.pos a0 (by omega)).mpr w; omega
      have c1 := hsame (firstR (rnd a st s + i) st s) (by omega) (by omega)
      have c2 := hsame (firstR (rnd a st s + i) st s - 1) (by omega) (by omega)
      have d1 := (rnd_ge (n := firstR (rnd a st s + i) st s) (m := rnd a st s + i) h.srt h.even h.pos (by omega) (by omega)).mpr (Int.le_refl _)
      have d2 : ¬ rnd a st s + i ≤ rnd (firstR (rnd a st s + i) st s - 1) st s := fun w => by
        have := (rnd_ge (n := firstR (rnd a st s + i) st s - 1) (m := rnd a st s + i) h.srt h.even h.pos (by omega) (by omega)).mp w
        omega
      have := rnd_step_eq (n := firstR (rnd a st s + i) st s - 1) (m := rnd a st s + i) h' (by omega) (by omega) (by omega) (by rw [Int.sub_add_cancel]; omega)
      omega
    have ag := firstR_agree h h' r0 (both 1 (by omega) (by omega)) (both 2 (by omega) (by omega)) (both 3 (by omega) (by omega)) (rnd (n - 1) st s - rnd a st s).toNat
    rw [show rnd a st s + 1 + ((rnd (n - 1) st s - rnd a st s).toNat : Int) = rnd (n - 1) st s + 1 by omega, ← hn] at ag
    have := (rnd_ge (n := n) (m := rnd (n - 1) st s + 1) h'.srt h'.even h'.pos (by omega) (by omega)).mpr (by omega)
    omega
/-! the form of a figure -/
theorem split_at {X X' Y Y' : List Nat} (h : 46 ∉ X) (h' : 46 ∉ X') (e : X ++ 46 :: Y = X' ++ 46 :: Y') : X = X' ∧ Y = Y' := by
  induction X generalizing X' with
  | nil =>
    cases X' with
    | nil => exact ⟨rfl, (List.cons.inj e).2⟩
    | cons x r =>
      have := (List.cons.inj e).1
      exact absurd (by rw [this]; exact List.mem_cons_self) h'
  | cons x r ih =>
    cases X' with
    | nil =>
      have := (List.cons.inj e).1
      exact absurd (by rw [this]; exact List.mem_cons_self) h
    | cons x' r' =>
      obtain ⟨e1, e2⟩ := List.cons.inj e
      obtain ⟨i1, i2⟩ := ih (X' := r') (fun w => h (List.mem_cons_of_mem _ w)) (fun w => h' (List.mem_cons_of_mem _ w)) e2
      exact ⟨by rw [e1, i1], i2⟩
theorem no46 {L : List Nat} (h : ∀ c ∈ L, 48 ≤ c ∧ c ≤ 57) : 46 ∉ L := fun w => by have := h 46 w; omega
theorem dg_inj {m m' : Int} {n n' : Nat} (hm : 0 ≤ m) (hm' : 0 ≤ m') (l1 : n + (dg m).length ≤ 4300) (e : List.replicate n 48 ++ dg m = List.replicate n' 48 ++ dg m') : m = m' := by
  have b1 := int_back (t := ⟨(List.replicate n 48 ++ dg m).toArray⟩) (n := n) hm rfl (by
    rw [str_len]
    show (List.replicate n 48 ++ dg m).length ≤ 4300
    rw [List.length_append, List.length_replicate]
    exact l1)
  have b2 := int_back (t := ⟨(List.replicate n 48 ++ dg m).toArray⟩) (n := n') hm' e (by
    rw [str_len]
    show (List.replicate n 48 ++ dg m).length ≤ 4300
    rw [List.length_append, List.length_replicate]
    exact l1)
  rw [b1] at b2
  exact Option.some.inj b2
theorem writ_form {us us' : List (Str × Int)} {d d' p p' : Nat} {m m' : Int} (g : GoodUs us) (g' : GoodUs us') (hd : d ≤ 3) (hd' : d' ≤ 3) (hp : p < us.length) (hp' : p' < us'.length) (hm : 0 ≤ m) (hm' : 0 ≤ m') (h1 : m < 10 ^ 40) (h2 : m' < 10 ^ 40) (e : writ us d p m = writ us' d' p' m') :
    m = m' ∧ ∀ k, writ us d p k = writ us' d' p' k := by
  have ea : ahead d p m = ahead d' p' m' := by rw [← writ_ahead g hp hm, ← writ_ahead g' hp' hm', e]
  have wc := writ_codes (us := us) (d := d) (p := p) (m := m)
  have wc' := writ_codes (us := us') (d := d') (p := p') (m := m')
  rw [e, ea, wc'] at wc
  have en : (us'.getD p' ("", 0)).1 = (us.getD p ("", 0)).1 := str_ext (List.append_cancel_left wc)
  have l1 := dg_small (m := m) (by omega)
  have l2 := dg_small (m := m') (by omega)
  have dz : ∀ {d : Nat} {m : Int}, 0 ≤ m → 46 ∉ zf d m := fun {d m} hm => no46 (zf_digits hm)
  by_cases c : p = 0 ∨ d = 0
  · by_cases c' : p' = 0 ∨ d' = 0
    · have ed : dg m = dg m' := by
        unfold ahead at ea
        rw [if_pos c, if_pos c'] at ea
        exact ea
      refine ⟨dg_inj (n := 0) (n' := 0) hm hm' (by omega) (by rw [List.replicate_zero, List.nil_append, List.nil_append]; exact ed), fun k => ?_⟩
      unfold writ
      rw [if_pos c, if_pos c', en]
    · exfalso
      unfold ahead at ea
      rw [if_pos c, if_neg c'] at ea
      have : 46 ∈ dg m := by
        rw [ea]
        unfold body
        exact List.mem_append_right _ List.mem_cons_self
      exact no46 (dg_digits hm) this
  · by_cases c' : p' = 0 ∨ d' = 0
    · exfalso
      unfold ahead at ea
      rw [if_neg c, if_pos c'] at ea
      have : 46 ∈ dg m' := by
        rw [← ea]
        unfold body
        exact List.mem_append_right _ List.mem_cons_self
      exact no46 (dg_digits hm') this
    · unfold ahead at ea
      rw [if_neg c, if_neg c'] at ea
      have eb := ea
      unfold body at eb
      obtain ⟨_, eY⟩ := split_at (fun w => dz hm (List.mem_of_mem_take w)) (fun w => dz hm' (List.mem_of_mem_take w)) eb
      have eL := congrArg List.length eY
      rw [List.length_drop, List.length_drop, zf_len, zf_len] at eL
      have hdd : d = d' := by omega
      have ef : zf d m = zf d' m' := by rw [← filter_body hm, ← filter_body hm', ea]
      refine ⟨?_, fun k => ?_⟩
      · unfold zf at ef
        exact dg_inj hm hm' (by omega) ef
      · unfold writ
        rw [if_neg c, if_neg c', en, hdd]
/-! the numbers that are tried -/
def chg (us : List (Str × Int)) (d : Nat) (s : Str) (c : Bool) (l n : Int) (k : Nat) : List Int := (List.range k).map fun (j : Nat) => firstR ((placedM us d s c l n).2 + (1 + (j : Int))) ((stepsOf us d).getD (placedM us d s c l n).1 0) s
def stars (us : List (Str × Int)) (d : Nat) (s : Str) (c : Bool) (l : Int) : List Int := (List.range us.length).map fun p => startM us d s c l p
theorem unit_in {us : List (Str × Int)} {d : Nat} {s : Str} {c : Bool} {l : Int} (g : Good us d s l) {n x : Int} (n0 : 0 ≤ n) (h1 : startM us d s c l (placedM us d s c l n).1 ≤ x) (h2 : x ≤ n) : (placedM us d s c l x).1 = (placedM us d s c l n).1 := by
  have hlt := (placedM_ok (c := c) g n0).1
  have hs := start_nn (c := c) g hlt
  have a := (place_ge (c := c) (n := x) g (by omega) hlt).mpr h1
  have b := place_mono (c := c) (n := x) (n' := n) g (by omega) h2
  omega
theorem chg_mem {us : List (Str × Int)} {d : Nat} {s : Str} {c : Bool} {l n : Int} {k j : Nat} (hj : j < k) {x : Int} (e : x = firstR ((placedM us d s c l n).2 + 1 + (j : Int)) ((stepsOf us d).getD (placedM us d s c l n).1 0) s) : x ∈ chg us d s c l n k := by
  refine List.mem_map.mpr ⟨j, List.mem_range.mpr hj, ?_⟩
  rw [e, Int.add_assoc]
/-- the first number that is shown differently is tried -/
theorem unlike_tried {us us' : List (Str × Int)} {d d' : Nat} {s s' : Str} {c c' : Bool} {l l' n : Int} (g : Good us d s l) (g' : Good us' d' s' l') (n0 : 0 ≤ n) (n1 : n < 10 ^ 39) (hne : shown us d s c l n ≠ shown us' d' s' c' l' n) (hmin : ∀ x, 0 ≤ x → x < n → shown us d s c l x = shown us' d' s' c' l' x) :
    ∃ a, (a ∈ stars us d s c l ∨ a ∈ stars us' d' s' c' l') ∧ (n = a ∨ n ∈ chg us d s c l a 3 ∨ n ∈ chg us' d' s' c' l' a 3) := by
  obtain ⟨k1, k2, k3⟩ := placedM_ok (c := c) g n0
  obtain ⟨j1, j2, j3⟩ := placedM_ok (c := c') g' n0
  have hA := (place_ge (c := c) g n0 k1).mp (Nat.le_refl _)
  have hB := (place_ge (c := c') g' n0 j1).mp (Nat.le_refl _)
  have sA0 := start_nn (c := c) g k1
  have sB0 := start_nn (c := c') g' j1
  have mA : startM us d s c l (placedM us d s c l n).1 ∈ stars us d s c l := List.mem_map.mpr ⟨_, List.mem_range.mpr k1, rfl⟩
  have mB : startM us' d' s' c' l' (placedM us' d' s' c' l' n).1 ∈ stars us' d' s' c' l' := List.mem_map.mpr ⟨_, List.mem_range.mpr j1, rfl⟩
  have uA := fun x (h1 : startM us d s c l (placedM us d s c l n).1 ≤ x) (h2 : x ≤ n) => unit_in (c := c) g n0 h1 h2
  have uB := fun x (h1 : startM us' d' s' c' l' (placedM us' d' s' c' l' n).1 ≤ x) (h2 : x ≤ n) => unit_in (c := c') g' n0 h1 h2
  have hpA := g.stp k1
  have hpB := g'.stp j1
  have sndA := fun x => placed_snd us d s c l x
  have sndB := fun x => placed_snd us' d' s' c' l' x
  obtain ⟨pA, epA⟩ : ∃ p, (placedM us d s c l n).1 = p := ⟨_, rfl⟩
  obtain ⟨pB, epB⟩ : ∃ p, (placedM us' d' s' c' l' n).1 = p := ⟨_, rfl⟩
  rw [epA] at hA sA0 mA uA hpA k1
  rw [epB] at hB sB0 mB uB hpB j1
  -- the later one of both starts
  obtain ⟨a, ha, ha1, ha2, han⟩ : ∃ a, (a ∈ stars us d s c l ∨ a ∈ stars us' d' s' c' l') ∧ startM us d s c l pA ≤ a ∧ startM us' d' s' c' l' pB ≤ a ∧ a ≤ n := by
    rcases Int.lt_or_le (startM us d s c l pA) (startM us' d' s' c' l' pB) with y | y
    · exact ⟨_, .inr mB, by omega, Int.le_refl _, hB⟩
    · exact ⟨_, .inl mA, Int.le_refl _, y, hA⟩
  refine ⟨a, ha, ?_⟩
  rcases Int.lt_or_le a n with y | y
  · right
    have a0 : 0 ≤ a := by omega
    -- marks in this stretch
    have wA : ∀ x, a ≤ x → x ≤ n → shown us d s c l x = writ us d pA (rnd x ((stepsOf us d).getD pA 0) s) := fun x h1 h2 => by
      unfold shown
      rw [sndA, uA x (by omega) h2]
    have wB : ∀ x, a ≤ x → x ≤ n → shown us' d' s' c' l' x = writ us' d' pB (rnd x ((stepsOf us' d').getD pB 0) s') := fun x h1 h2 => by
      unfold shown
      rw [sndB, uB x (by omega) h2]
    have bnd : ∀ {st : Int} {s : Str} (x : Int), 0 < st → 0 ≤ x → x ≤ n → 0 ≤ rnd x st s ∧ rnd x st s < 10 ^ 40 := fun {st s} x hst h1 h2 => by
      have := rnd_lo (s := s) h1 hst
      omega
    have form := fun x (h1 : a ≤ x) (h2 : x < n) => writ_form g.u g'.u g.d3 g'.d3 k1 j1 (bnd (s := s) x hpA.pos (by omega) (by omega)).1 (bnd (s := s') x hpB.pos (by omega) (by omega)).1 (bnd x hpA.pos (by omega) (by omega)).2 (bnd x hpB.pos (by omega) (by omega)).2 (by rw [← wA x h1 (by omega), ← wB x h1 (by omega)]; exact hmin x (by omega) h2)
    have same : ∀ x, a ≤ x → x < n → rnd x ((stepsOf us d).getD pA 0) s = rnd x ((stepsOf us' d').getD pB 0) s' := fun x h1 h2 => (form x h1 h2).1
    have fmt := (form a (Int.le_refl _) y).2
    have diff : rnd n ((stepsOf us d).getD pA 0) s ≠ rnd n ((stepsOf us' d').getD pB 0) s' := fun e => by
      refine hne ?_
      rw [wA n (by omega) (Int.le_refl _), wB n (by omega) (Int.le_refl _), e]
      exact fmt _
    have eP := same (n - 1) (by omega) (by omega)
    have incA := rnd_succ (n := n - 1) hpA.srt hpA.even hpA.pos (by omega)
    have incB := rnd_succ (n := n - 1) hpB.srt hpB.even hpB.pos (by omega)
    rw [Int.sub_add_cancel] at incA incB
    have eaA : (placedM us d s c l a).1 = pA := uA a ha1 han
    have eaB : (placedM us' d' s' c' l' a).1 = pB := uB a ha2 han
    rcases Int.lt_or_le (rnd (n - 1) ((stepsOf us d).getD pA 0) s) (rnd n ((stepsOf us d).getD pA 0) s) with w | w
    · left
      obtain ⟨j, hj, ej⟩ := change_near hpA hpB a0 y same w (by omega)
      exact chg_mem hj (by rw [sndA, eaA]; exact ej)
    · right
      obtain ⟨j, hj, ej⟩ := change_near hpB hpA a0 y (fun x h1 h2 => (same x h1 h2).symm) (by omega) w
      exact chg_mem hj (by rw [sndB, eaB]; exact ej)
  · exact .inl (by omega)
end My

/-! min(xs, default=d) of a list of ints -/
namespace MyM
open PySem PySem.W PyProof.Rows L2
section
variable {prog : Program} {w : World} {A : Around} {E : Value → Shared → Prop} {s : Shared} {l : Addr} {its : List Value} {ns : List Int} {d : Value} {Q : Value → Shared → Prop}
theorem min_intDefault {xs : Array (Int × Tok)} (hh : A.handled = none) (hl : s.heap.IsList l (intItems xs))
    (h0 : xs.size = 0 → ∀ h' tk, (∀ b o, s.heap.get? b = some o → h'.get? b = some o) → Q d { s with heap := h', toks := tk })
    (h : 0 < xs.size → ∀ v h' tk, (intItems xs)[argBest (fun i j => decide (numAt xs i < numAt xs j)) (xs.size - 1)]? = some v → (∀ b o, s.heap.get? b = some o → h'.get? b = some o) → Q v { s with heap := h', toks := tk }) :
    wpAny (model prog w) A (call (.builtin "min") [.ref l] [(Str.ofString "default", d)]) Q E s := by
  have hn : (intItems xs).size = xs.size := by simp [intItems]
  refine call_min_walkD (PySem.W.iter_listW (A := A.in1) hh hl fun s₂ e W st hfp hw hk => ?_)
  refine ⟨_, _, _, _, _, _, _, s.heap, (fun i j => decide (numAt xs i < numAt xs j)), rfl, W, st, hfp, hw, hk, fun hz s' m => ?_, fun hp => ⟨fun i j vi vj s Q E _ hi hj hq => CmpOf.ints_lt (numAt xs) (fun _ _ => intItems_at) i j vi vj s Q E hi hj hq, fun v s' hP m => ?_⟩⟩
  · obtain ⟨h', tk, rfl, hk'⟩ := PySem.W.moved_old e rfl m
    exact h0 (by omega) h' tk hk'
  · obtain ⟨h', tk, rfl, hk'⟩ := PySem.W.moved_old e rfl m
    rw [hn] at hP hp
    exact h hp v h' tk hP hk'
theorem min_rawD (hh : A.handled = none) (hl : s.heap.IsList l its.toArray) (hi : IntsAre its ns)
    (h0 : ns = [] → ∀ h' tk, (∀ b o, s.heap.get? b = some o → h'.get? b = some o) → Q d { s with heap := h', toks := tk })
    (h : ∀ h' tk M t', (∀ b o, s.heap.get? b = some o → h'.get? b = some o) → M ∈ ns → (∀ a, a ∈ ns → M ≤ a) → Q (.int M t') { s with heap := h', toks := tk }) : wpAny (model prog w) A (call (.builtin "min") [.ref l] [(Str.ofString "default", d)]) Q E s := by
  obtain ⟨xs, e⟩ := hi.allInts.items
  have hn : numsOf (intItems xs).toList = ns := by rw [← e]; exact hi.numsOf
  rw [nums_intItems] at hn
  subst hn
  rw [e] at hl
  refine min_intDefault hh hl (fun hz h' tk hk => h0 (by
    have : xs = #[] := Array.eq_empty_of_size_eq_zero hz
    subst this
    rfl) h' tk hk) fun hsz v h' tk hv hk => ?_
  obtain ⟨t, rfl⟩ := intItems_at hv
  obtain ⟨h1, h2⟩ := argBest_lt (numAt xs) (xs.size - 1)
  refine h h' tk _ t hk ?_ fun a ha => ?_
  · rw [numAt_eq]; exact PySem.getD_mem (by rw [List.length_map, Array.length_toList]; omega)
  · obtain ⟨j, hj, rfl⟩ := mem_getD ha
    rw [List.length_map, Array.length_toList] at hj
    rw [← numAt_eq]; exact h2 j (by omega)
end
def rMinD (K : PySem.W.Frag) : List V → List V → Hp → VK → Prop := fun vs zs H Q => ∃ (a : Addr) (ns : List Int) (dv : V), vs = [V.ref a] ∧ zs = [dv] ∧ SqL K H a (ns.map V.int) ∧ (ns = [] → Q dv H) ∧ ∀ m, m ∈ ns → (∀ y, y ∈ ns → m ≤ y) → Q (.int m) H
theorem cr_minD {X : Cx} (hc : X.calm = true) : CallRK X (.builtin "min") [Str.ofString "default"] (rMinD X.K) := by
  intro pins s σ H xs zs us ws Q I r rz h
  obtain ⟨a, ns, dv, rfl, rfl, hs, q0, q⟩ := h
  obtain ⟨its, rv, hl, _⟩ := I.list hs
  rw [Vals.ref1 r]
  cases rz with
  | cons rd t =>
    cases t
    exact min_rawD (I.ok.hd hc) hl.isList rv.ints (fun hn h' tk hk => ⟨dv, H, I.kept hk, rd, q0 hn⟩) fun h' tk m t' hk h1 h2 => ⟨.int _, H, I.kept hk, ⟨_, rfl⟩, q m h1 h2⟩
end MyM

namespace My
open PySem PySem.Spec PyProof.Rows L2
/-! ### starts, next changes -/
abbrev sStarts : Stmt := top 48
abbrev sNextC : Stmt := top 51
theorem scStarts : FnScope ["ladder", "place"] ["ladder"] (defScope sStarts) := ⟨rfl, rfl, rfl, by decide +kernel, rfl, by decide +kernel, by decide +kernel⟩
theorem scNextC : FnScope ["ladder", "number", "many", "place", "mark", "more"] ["ladder", "number", "many"] (defScope sNextC) := ⟨rfl, rfl, rfl, by decide +kernel, rfl, by decide +kernel, by decide +kernel⟩
def spStarts (K : PySem.W.Frag) (C : Addr) : Sp := fun vs H Q _ => ∃ (a : Addr) (us : List (Str × Int)) (d : Nat) (s : Str) (c : Bool) (l : Int), vs = [.ref a] ∧ LadAt K C H a us d s c l ∧ Good us d s l ∧
  ∀ (p : Addr) (H' : Hp), Same H H' → H p = none → H' p = some (.lst ((stars us d s c l).map V.int)) → Q (.ref p) H'
def spNextC (K : PySem.W.Frag) (C : Addr) : Sp := fun vs H Q _ => ∃ (a : Addr) (us : List (Str × Int)) (d : Nat) (s : Str) (c : Bool) (l n : Int) (k : Nat), vs = [.ref a, .int n, .int (k : Int)] ∧ LadAt K C H a us d s c l ∧ Good us d s l ∧ 0 ≤ n ∧ k ≤ 100 ∧
  ∀ (p : Addr) (H' : Hp), Same H H' → H p = none → H' p = some (.lst ((chg us d s c l n k).map V.int)) → Q (.ref p) H'
theorem LadAt.butL {K : PySem.W.Frag} {C : Addr} {H H' : Hp} {N p : Addr} {xs : List V} {us : List (Str × Int)} {d : Nat} {s : Str} {c : Bool} {l : Int} (hN : H N = some (.lst xs)) (b : But N H H') (h : LadAt K C H p us d s c l) : LadAt K C H' p us d s c l := by
  obtain ⟨dx, ua, t, st, th, h1, h2, h3, h4, h5⟩ := h
  have npa : p ≠ N := ne_of h1 hN (by intro z; cases z)
  exact ⟨dx, ua, t, st, th, b _ _ h1 npa, UA.but hN rfl b h2, b.sqt hN rfl h3, b.sqt hN rfl h4, b.sqt hN rfl h5⟩
section
variable {P : Program} {w : World} {K : PySem.W.Frag} {mg : Str → Option Value} {base : Heap}
theorem ok_starts {C : Addr} (d : Dd K mg "starts_of" sStarts ["ladder"]) (dS : Dd K mg "start_of" sStartOf ["ladder", "place"]) (L : LadC K mg) (eC : C = L.C) (B : Bt mg)
    (GS : FnOk P w K mg base CX0 3 dS.f dS.fd ["ladder", "place"] (spStartOf K C)) : FnOk P w K mg base CX0 4 d.f d.fd ["ladder"] (spStarts K C) := by
  subst eC
  refine d.F.ok scStarts (fun vs H Q E h => ?_) (fun cdv A outer s H vs Q E hr h => ?_)
  · obtain ⟨_, _, _, _, _, _, rfl, _⟩ := h
    rfl
  · obtain ⟨a, us, dn, z, c, l, rfl, hL, g, q⟩ := h
    have nd := scStarts.nd
    refine ⟨_, pss_one (ps_ret (pe_lc (own := [("place", 1)]) (g := gName 1) (tt := tYes) rfl nd (pi_range1 (by rfl) B.range (pa_cons (pe_callB call_len_seq (by rfl) B.len PySem.boot_len (pa_cons (pe_fld (pv 0) rfl) pa_nil)) pa_nil))
      (blkOk_by (own := [("place", 1)]) (N := ["ladder", "place"]) (sc := defScope sStarts) (by decide +kernel)) (fun _ _ _ _ _ => pg_name (i := 1) nd rfl (Or.inl rfl)) (fun _ _ _ _ _ => pts_nil)
      (fun _ _ _ _ _ => pe_call GS hr (by rfl) dS.g dS.F.kp dS.b .nil pass0 (pa_cons (pv 0) (pa_cons (pv 1) pa_nil))))), ?_⟩
    have hlo := g.u.lo
    have hhi := g.u.hi
    obtain ⟨dx, ua, t, st, th, hp, ⟨ps, hua, hu⟩, ht, hs, hth⟩ := id hL
    have el := UP.len hu
    refine ⟨_, rfl, a, L.C, dx, _, _, rfl, hp, L.cl, L.nUnits, fl_units .., ua, _, rfl, .inr hua, _, rfl, by rw [List.length_map, el]; omega, by rw [List.length_map, el]; omega, fun D nD => ?_⟩
    rw [List.length_map, el, Int.toNat_natCast]
    refine lc_range (lo := 0) (n := us.length) (fun i H2 => Same H H2 ∧ H2 D = some (.lst (((List.range i).map fun p => startM us dn z c l p).map V.int))) ⟨same_upd nD, upd_same⟩ ?_ ?_
    · rintro i H2 hi ⟨sm, hD⟩
      have ei : (0 : Int) + (i : Int) = (i : Int) := by omega
      refine ⟨rfl, _, rfl, _, rfl, a, us, dn, z, c, l, i, by rw [ei]; rfl, hL.same sm, g, hi, ?_⟩
      refine ⟨_, hD, ?_, fun b o eb => ?_, ?_⟩
      · rw [List.length_map, List.length_map, List.length_range]
        exact Nat.lt_of_lt_of_le (show i < 7 by omega) (by decide)
      · rw [upd_ne (ne_of_none eb nD)]
        exact sm _ _ eb
      · rw [upd_same, List.range_succ, List.map_append, List.map_append]
        rfl
    · rintro H2 ⟨sm, hD⟩
      exact q D H2 sm nD hD
theorem ok_nextc {C : Addr} (d : Dd K mg "next_changes" sNextC ["ladder", "number", "many"]) (dR : Dd K mg "first_rounded" sFirstR ["mark", "step", "rounding"]) (dP : Dd K mg "placed" sPlaced ["ladder", "number"]) (L : LadC K mg) (eC : C = L.C) (B : Bt mg)
    (GR : FnOk P w K mg base CX0 2 dR.f dR.fd ["mark", "step", "rounding"] spFirstR) (GP : FnOk P w K mg base CX0 4 dP.f dP.fd ["ladder", "number"] (spPlaced K C)) : FnOk P w K mg base CX0 5 d.f d.fd ["ladder", "number", "many"] (spNextC K C) := by
  subst eC
  refine d.F.ok scNextC (fun vs H Q E h => ?_) (fun cdv A outer s H vs Q E hr h => ?_)
  · obtain ⟨_, _, _, _, _, _, _, _, rfl, _⟩ := h
    rfl
  · obtain ⟨a, us, dn, z, c, l, n, k, rfl, hL, g, n0, hk, q⟩ := h
    have hr1 : Room 2 _ := hr.mono (by decide)
    have nd := scNextC.nd
    refine ⟨_, pss_cons (ps_asg (pe_call GP hr (by rfl) dP.g dP.F.kp dP.b .nil pass0 (pa_cons (pv 0) (pa_cons (pv 1) pa_nil))) (pg_tup rfl (pgs_cons (pg_name (i := 3) nd rfl (.inr rfl)) (pgs_cons (pg_name (i := 4) nd rfl (.inr rfl)) pgs_nil))))
      (pss_one (ps_ret (pe_lc (own := [("more", 5)]) (g := gName 5) (tt := tYes) rfl nd (pi_range2 (by rfl) B.range (pa_cons pe_int (pa_cons (pe_op op_add (pv 2) pe_int) pa_nil)))
        (blkOk_by (own := [("more", 5)]) (N := ["ladder", "number", "many", "place", "mark", "more"]) (sc := defScope sNextC) (by decide +kernel)) (fun _ _ _ _ _ => pg_name (i := 5) nd rfl (Or.inl rfl)) (fun _ _ _ _ _ => pts_nil)
        (fun _ _ _ _ _ => pe_call GR hr1 (by rfl) dR.g dR.F.kp dR.b .nil pass0 (pa_cons (pe_op op_add (pv 4) (pv 5)) (pa_cons (pe_ix (r := rIxT K) ix_tup (show PE _ _ (tFld K (tVar 0) "steps") from pe_fld (pv 0) rfl) (pv 3) (fun _ _ => rfl)) (pa_cons (show PE _ _ (tFld K (tVar 0) "rounding") from pe_fld (pv 0) rfl) pa_nil))))))), ?_⟩
    obtain ⟨PM, ePM⟩ : ∃ PM, placedM us dn z c l n = PM := ⟨_, rfl⟩
    obtain ⟨k1, k2, k3⟩ := placedM_ok (c := c) g n0
    rw [ePM] at k1 k2 k3
    obtain ⟨st1, st2, st3⟩ := steps_ok g k1
    refine ⟨_, rfl, _, rfl, a, us, dn, z, c, l, n, rfl, hL, g, n0, fun r H1 s1 hr' => ?_⟩
    rw [ePM] at hr'
    refine ⟨r, _, rfl, hr', rfl, _, _, rfl, _, _, rfl, rfl, ?_⟩
    refine ⟨_, rfl, _, 1, rfl, rfl, _, _, rfl, ⟨by omega, by omega, by omega, by omega⟩, fun D nD => ?_⟩
    rw [show ((k : Int) + 1 - 1).toNat = k by omega]
    refine lc_range (lo := 1) (n := k) (fun i H2 => Same H1 H2 ∧ H2 D = some (.lst ((chg us dn z c l n i).map V.int))) ⟨same_upd nD, upd_same⟩ ?_ ?_
    · rintro i H2 hi ⟨sm, hD⟩
      obtain ⟨dx, ua, t, st, th, hp, hua, ht, hs, hth⟩ := (hL.same s1).same sm
      refine ⟨rfl, _, rfl, _, rfl, _, _, rfl, rfl, _, rfl, a, L.C, dx, _, _, rfl, hp, L.cl, L.nSteps, fl_steps .., _, rfl, st, _, PM.1, .int ((stepsOf us dn).getD PM.1 0), rfl, rfl, hs, atI_nat (by rw [List.getElem?_map, st1]; rfl), _, rfl, a, L.C, dx, _, _, rfl, hp, L.cl, L.nRnd, fl_rnd .., _, _, z, rfl, st2, st3, ?_⟩
      refine ⟨_, hD, ?_, fun b o eb => ?_, ?_⟩
      · unfold chg
        rw [List.length_map, List.length_map, List.length_range]
        exact Nat.lt_of_lt_of_le (show i < 101 by omega) (by decide)
      · rw [upd_ne (ne_of_none eb nD)]
        exact sm _ _ eb
      · unfold chg
        rw [upd_same, List.range_succ, List.map_append, List.map_append, ePM]
        rfl
    · rintro H2 ⟨sm, hD⟩
      refine q D H2 (s1.trans sm) ?_ hD
      cases e : H D with
      | none => rfl
      | some o =>
        exfalso
        have := s1 _ _ e
        rw [nD] at this
        cases this
end
end My

namespace My
open PySem PySem.Spec PyProof.Rows L2
/-! ### first_unlike, are_alike -/
abbrev sPoss : Stmt := top 58
abbrev sFirstU : Stmt := top 54
abbrev sAlike : Stmt := top 55
theorem scPoss : FnScope ["ladder", "other", "numbers", "start"] ["ladder", "other"] (defScope sPoss) := ⟨rfl, rfl, rfl, by decide +kernel, rfl, by decide +kernel, by decide +kernel⟩
theorem scFirstU : FnScope ["ladder", "other", "number"] ["ladder", "other"] (defScope sFirstU) := ⟨rfl, rfl, rfl, by decide +kernel, rfl, by decide +kernel, by decide +kernel⟩
theorem scAlike : FnScope ["ladder", "other"] ["ladder", "other"] (defScope sAlike) := ⟨rfl, rfl, rfl, by decide +kernel, rfl, by decide +kernel, by decide +kernel⟩
/-- what a ladder is made of -/
structure Lad where
  us : List (Str × Int)
  d : Nat
  s : Str
  c : Bool
  l : Int
abbrev Lad.At (A : Lad) (K : PySem.W.Frag) (C : Addr) (H : Hp) (p : Addr) : Prop := LadAt K C H p A.us A.d A.s A.c A.l
abbrev Lad.Ok (A : Lad) : Prop := Good A.us A.d A.s A.l
abbrev Lad.show (A : Lad) (n : Int) : Str := shown A.us A.d A.s A.c A.l n
abbrev Lad.stars (A : Lad) : List Int := My.stars A.us A.d A.s A.c A.l
abbrev Lad.chg (A : Lad) (n : Int) (k : Nat) : List Int := My.chg A.us A.d A.s A.c A.l n k
def possL (A B : Lad) (xs : List Int) : List Int := xs.flatMap fun x => x :: (A.chg x 3 ++ B.chg x 3)
def spPoss (K : PySem.W.Frag) (C : Addr) : Sp := fun vs H Q _ => ∃ (a b : Addr) (A B : Lad), vs = [.ref a, .ref b] ∧ A.At K C H a ∧ B.At K C H b ∧ A.Ok ∧ B.Ok ∧
  ∀ (p : Addr) (H' : Hp), Same H H' → H' p = some (.lst ((possL A B (A.stars ++ B.stars)).map V.int)) → Q (.ref p) H'
/-- the first number that is shown differently -/
def Unlike (A B : Lad) (r : Option Int) : Prop := match r with
  | none => ∀ x, 0 ≤ x → x < 10 ^ 38 → A.show x = B.show x
  | some n => 0 ≤ n ∧ n ≤ 100000000000000000000000 ∧ A.show n ≠ B.show n ∧ ∀ x, 0 ≤ x → x < n → A.show x = B.show x
def optV : Option Int → V
  | none => .non
  | some n => .int n
def spFirstU (K : PySem.W.Frag) (C : Addr) : Sp := fun vs H Q _ => ∃ (a b : Addr) (A B : Lad), vs = [.ref a, .ref b] ∧ A.At K C H a ∧ B.At K C H b ∧ A.Ok ∧ B.Ok ∧
  ∀ (r : Option Int) (H' : Hp), Same H H' → Unlike A B r → Q (optV r) H'
def spAlike (K : PySem.W.Frag) (C : Addr) : Sp := fun vs H Q _ => ∃ (a b : Addr) (A B : Lad), vs = [.ref a, .ref b] ∧ A.At K C H a ∧ B.At K C H b ∧ A.Ok ∧ B.Ok ∧
  ∀ (r : Option Int) (H' : Hp), Same H H' → Unlike A B r → Q (.bl r.isNone) H'
theorem stars_le {A : Lad} (g : A.Ok) {x : Int} (h : x ∈ A.stars) : 0 ≤ x ∧ x ≤ 1000000000000000000000 := by
  obtain ⟨p, hp, e⟩ := List.mem_map.mp h
  have hp' : p < A.us.length := List.mem_range.mp hp
  have h0 := start_nn (c := A.c) g hp'
  have h1 := start_le_thr (c := A.c) g hp'
  have h4 : (thrsOf A.us A.l).getD p 0 ≤ 1000 * 1000000000000000000 := by
    rcases Nat.eq_zero_or_pos p with z | z
    · subst z
      show (0 : Int) ≤ _
      decide
    · rw [thr_eq z hp']
      have b1 := last_sz_pos g.u hp'
      have b2 := g.l1
      have b3 := g.l2
      have : szOf A.us p * A.l ≤ 1000000000000000000 * 1000 := Int.mul_le_mul b1.2 b3 (by omega) (by decide)
      omega
  omega
theorem chg_le {A : Lad} (g : A.Ok) {n x : Int} {k : Nat} (n0 : 0 ≤ n) (hk : k ≤ 6) (h : x ∈ A.chg n k) : 0 ≤ x ∧ x ≤ n + 10000000000000000000 := by
  obtain ⟨j, hj, e⟩ := List.mem_map.mp h
  have hj' := List.mem_range.mp hj
  obtain ⟨k1, k2, k3⟩ := placedM_ok (c := A.c) g n0
  have hp := g.stp k1
  have hs := (steps_ok g k1).2.2
  have es := placed_snd A.us A.d A.s A.c A.l n
  have h1 := firstR_hi (m := (placedM A.us A.d A.s A.c A.l n).2 + (1 + (j : Int))) (s := A.s) hp.pos
  have h0 := firstR_nn (m := (placedM A.us A.d A.s A.c A.l n).2 + (1 + (j : Int))) (s := A.s) hp.pos (by omega)
  -- the mark of n stands for at most a step more than n
  have h2 := (rnd_ge (n := n) (m := (placedM A.us A.d A.s A.c A.l n).2) hp.srt hp.even hp.pos n0 k2).mp (by rw [← es]; exact Int.le_refl _)
  have h3 := firstR_lo (m := (placedM A.us A.d A.s A.c A.l n).2) (s := A.s) hp.pos
  generalize (stepsOf A.us A.d).getD (placedM A.us A.d A.s A.c A.l n).1 0 = st at *
  generalize (placedM A.us A.d A.s A.c A.l n).2 = m at *
  have e2 : (m + (1 + (j : Int))) * st = m * st + (1 + (j : Int)) * st := by rw [Int.add_mul]
  have h5 : (1 + (j : Int)) * st ≤ 6 * 1000000000000000000 := Int.mul_le_mul (by omega) hs (by have := hp.pos; omega) (by decide)
  rw [← e]
  omega
theorem poss_le {A B : Lad} (g : A.Ok) (g' : B.Ok) {x : Int} (h : x ∈ possL A B (A.stars ++ B.stars)) : 0 ≤ x ∧ x ≤ 100000000000000000000000 := by
  obtain ⟨y, hy, hx⟩ := List.mem_flatMap.mp h
  have by' : 0 ≤ y ∧ y ≤ 1000000000000000000000 := by
    rcases List.mem_append.mp hy with k | k
    · exact stars_le g k
    · exact stars_le g' k
  rcases List.mem_cons.mp hx with k | k
  · omega
  · rcases List.mem_append.mp k with k | k
    · have := chg_le g by'.1 (by omega) k
      omega
    · have := chg_le g' by'.1 (by omega) k
      omega
theorem least_exists {p : Int → Prop} {n : Int} (n0 : 0 ≤ n) (hn : p n) : ∃ m, 0 ≤ m ∧ m ≤ n ∧ p m ∧ ∀ x, 0 ≤ x → x < m → ¬ p x := by
  have key : ∀ k : Nat, ∀ n : Int, n = (k : Int) → p n → ∃ m, 0 ≤ m ∧ m ≤ n ∧ p m ∧ ∀ x, 0 ≤ x → x < m → ¬ p x := by
    intro k
    induction k using Nat.strongRecOn with
    | ind k ih =>
      intro n e hn
      by_cases h : ∃ x, 0 ≤ x ∧ x < n ∧ p x
      · obtain ⟨x, x0, x1, hx⟩ := h
        obtain ⟨m, m0, m1, hm, hl⟩ := ih x.toNat (by omega) x (by omega) hx
        exact ⟨m, m0, by omega, hm, hl⟩
      · exact ⟨n, by omega, Int.le_refl _, hn, fun x x0 x1 hx => h ⟨x, x0, x1, hx⟩⟩
  exact key n.toNat n (by omega) hn
/-- what is asked of the numbers that are tried -/
theorem unlike_all {A B : Lad} (g : A.Ok) (g' : B.Ok) (h : ∀ x ∈ possL A B (A.stars ++ B.stars), A.show x = B.show x) : Unlike A B none := by
  -- the marks have less than 40 digits up to here
  intro x x0 x1
  by_cases e : A.show x = B.show x
  · exact e
  · exfalso
    obtain ⟨m, m0, m1, hm, hl⟩ := least_exists (p := fun x => A.show x ≠ B.show x) x0 e
    obtain ⟨a, ha, hc⟩ := unlike_tried (c := A.c) (c' := B.c) g g' m0 (by omega) hm (fun x x0 x1 => Classical.not_not.mp (hl x x0 x1))
    refine hm (h m (List.mem_flatMap.mpr ⟨a, List.mem_append.mpr ha, ?_⟩))
    rcases hc with k | k | k
    · rw [k]
      exact List.mem_cons_self
    · exact List.mem_cons_of_mem _ (List.mem_append_left _ k)
    · exact List.mem_cons_of_mem _ (List.mem_append_right _ k)
theorem unlike_some {A B : Lad} (g : A.Ok) (g' : B.Ok) {n : Int} (hn : n ∈ possL A B (A.stars ++ B.stars)) (hne : A.show n ≠ B.show n) (hl : ∀ x ∈ possL A B (A.stars ++ B.stars), A.show x ≠ B.show x → n ≤ x) : Unlike A B (some n) := by
  have hb := poss_le g g' hn
  refine ⟨hb.1, hb.2, hne, fun x x0 x1 => ?_⟩
  by_cases e : A.show x = B.show x
  · exact e
  · exfalso
    obtain ⟨m, m0, m1, hm, hl2⟩ := least_exists (p := fun x => A.show x ≠ B.show x) x0 e
    obtain ⟨a, ha, hc⟩ := unlike_tried (c := A.c) (c' := B.c) g g' m0 (by omega) hm (fun x x0 x1 => Classical.not_not.mp (hl2 x x0 x1))
    have hmm : m ∈ possL A B (A.stars ++ B.stars) := by
      refine List.mem_flatMap.mpr ⟨a, List.mem_append.mpr ha, ?_⟩
      rcases hc with k | k | k
      · rw [k]
        exact List.mem_cons_self
      · exact List.mem_cons_of_mem _ (List.mem_append_left _ k)
      · exact List.mem_cons_of_mem _ (List.mem_append_right _ k)
    have := hl m hmm hm
    omega
end My

namespace My
open PySem PySem.Spec PyProof.Rows L2
theorem len_chg (A : Lad) (n : Int) (k : Nat) : (A.chg n k).length = k := by
  show (My.chg A.us A.d A.s A.c A.l n k).length = k
  unfold My.chg
  rw [List.length_map, List.length_range]
theorem len_stars (A : Lad) : A.stars.length = A.us.length := by
  show (My.stars A.us A.d A.s A.c A.l).length = _
  unfold My.stars
  rw [List.length_map, List.length_range]
theorem len_poss (A B : Lad) : ∀ xs : List Int, (possL A B xs).length = 7 * xs.length
  | [] => rfl
  | x :: r => by
    have ih := len_poss A B r
    unfold possL at ih ⊢
    rw [List.flatMap_cons, List.length_append, ih, List.length_cons, List.length_cons, List.length_append, len_chg, len_chg]
    omega
theorem poss_snoc (A B : Lad) (xs : List Int) (y : Int) : possL A B (xs ++ [y]) = possL A B xs ++ (y :: (A.chg y 3 ++ B.chg y 3)) := by
  unfold possL
  rw [List.flatMap_append, List.flatMap_cons, List.flatMap_nil, List.append_nil]
section
variable {P : Program} {w : World} {K : PySem.W.Frag} {mg : Str → Option Value} {base : Heap}
theorem ok_poss {C : Addr} (d : Dd K mg "possible_first_ones" sPoss ["ladder", "other"]) (dS : Dd K mg "starts_of" sStarts ["ladder"]) (dN : Dd K mg "next_changes" sNextC ["ladder", "number", "many"]) (gE : ∃ t, mg "ENOUGH_CHANGES_alike" = some (.int 3 t))
    (GS : FnOk P w K mg base CX0 4 dS.f dS.fd ["ladder"] (spStarts K C)) (GN : FnOk P w K mg base CX0 5 dN.f dN.fd ["ladder", "number", "many"] (spNextC K C)) : FnOk P w K mg base CX0 6 d.f d.fd ["ladder", "other"] (spPoss K C) := by
  obtain ⟨t1, g1⟩ := gE
  refine d.F.ok scPoss (fun vs H Q E h => ?_) (fun cdv A0 outer s H vs Q E hr h => ?_)
  · obtain ⟨_, _, _, _, rfl, _⟩ := h
    rfl
  · obtain ⟨a, b, A, B, rfl, hA, hB, gA, gB, q⟩ := h
    have hr3 : Room 4 _ := hr.mono (by decide)
    have nd := scPoss.nd
    refine ⟨_, pss_cons (ps_set (i := 2) nd rfl (.inl rfl) (pe_lst pa_nil))
      (pss_cons (ps_for PassesOwn.never rfl (pi_list (pe_op op_cat (pe_call GS hr3 (by rfl) dS.g dS.F.kp dS.b .nil pass0 (pa_cons (pv 0) pa_nil)) (pe_call GS hr3 (by rfl) dS.g dS.F.kp dS.b .nil pass0 (pa_cons (pv 1) pa_nil)))) (pg_name (i := 3) nd rfl (.inl rfl))
        (pss_cons (ps_expr (pe_bm PySem.F.plainAttrs_list PySem.F.slot_list_append PySem.F.type_list_append mt_append (pv 2) (pa_cons (pv 3) pa_nil)))
        (pss_cons (ps_expr (pe_bm PySem.F.plainAttrs_list PySem.F.slot_list_extend PySem.F.type_list_extend mt_extend (pv 2) (pa_cons (pe_call GN hr (by rfl) dN.g dN.F.kp dN.b .nil pass0 (pa_cons (pv 0) (pa_cons (pv 3) (pa_cons (pe_glob (v := .int 3) (by rfl) g1 ⟨_, rfl⟩) pa_nil)))) pa_nil)))
        (pss_one (ps_expr (pe_bm PySem.F.plainAttrs_list PySem.F.slot_list_extend PySem.F.type_list_extend mt_extend (pv 2) (pa_cons (pe_call GN hr (by rfl) dN.g dN.F.kp dN.b .nil pass0 (pa_cons (pv 1) (pa_cons (pv 3) (pa_cons (pe_glob (v := .int 3) (by rfl) g1 ⟨_, rfl⟩) pa_nil)))) pa_nil)))))))
      (pss_one (ps_ret (pv 2)))), ?_⟩
    refine ⟨Nat.zero_le _, fun N nN => ?_⟩
    have sN := same_upd nN (o := .lst [])
    refine ⟨_, rfl, a, A.us, A.d, A.s, A.c, A.l, rfl, LadAt.same sN hA, gA, fun p1 H1 s1 np1 h1 => ?_⟩
    refine ⟨_, rfl, b, B.us, B.d, B.s, B.c, B.l, rfl, (LadAt.same sN hB).same s1, gB, fun p2 H2 s2 np2 h2 => ?_⟩
    have hla := len_stars A
    have hlb := len_stars B
    have hia := gA.u.hi
    have hib := gB.u.hi
    refine ⟨p1, p2, _, _, rfl, rfl, s2 _ _ h1, h2, ?_, fun c nc => ?_⟩
    · rw [List.length_map, List.length_map]
      exact Nat.le_trans (show A.stars.length + B.stars.length ≤ 12 by omega) (by decide)
    rw [← List.map_append]
    have sc := same_upd nc (o := .lst ((A.stars ++ B.stars).map V.int))
    have hNc : (upd H2 c (.lst ((A.stars ++ B.stars).map V.int))) N = some (.lst []) := sc _ _ (s2 _ _ (s1 _ _ upd_same))
    have ncN : c ≠ N := (ne_of_none (s2 _ _ (s1 _ _ upd_same)) nc).symm
    have hAc : LadAt K C (upd H2 c (.lst ((A.stars ++ B.stars).map V.int))) a A.us A.d A.s A.c A.l := (((LadAt.same sN hA).same s1).same s2).same sc
    have hBc : LadAt K C (upd H2 c (.lst ((A.stars ++ B.stars).map V.int))) b B.us B.d B.s B.c B.l := (((LadAt.same sN hB).same s1).same s2).same sc
    have hold : ∀ {H' : Hp}, But N (upd H2 c (.lst ((A.stars ++ B.stars).map V.int))) H' → Same H H' := fun bt x o e => bt x o (sc _ _ (s2 _ _ (s1 _ _ (sN _ _ e)))) (ne_of_none e nN)
    have hlist : (upd H2 c (.lst ((A.stars ++ B.stars).map V.int))) c = some (.lst ((A.stars ++ B.stars).map V.int)) := upd_same
    generalize upd H2 c (.lst ((A.stars ++ B.stars).map V.int)) = Hc at hNc hAc hBc hold hlist ⊢
    refine ⟨c, rfl, ⟨_, SqL.of hlist⟩, for_list (K := K) (a := c) (xs := (A.stars ++ B.stars).map V.int) (fun i σ H' => (∃ v3, σ = [some (.ref a), some (.ref b), some (.ref N), v3]) ∧ But N Hc H' ∧ H' N = some (.lst ((possL A B ((A.stars ++ B.stars).take i)).map V.int))) ⟨⟨_, rfl⟩, But.refl _ _, hNc⟩ (fun i σ H' _ h => SqL.of (h.2.1 _ _ hlist ncN)) ?_ ?_⟩
    · rintro i x σ H3 hi ⟨⟨v3, rfl⟩, b3, hN3⟩
      rw [List.getElem?_map] at hi
      cases hy : (A.stars ++ B.stars)[i]? with
      | none => rw [hy] at hi; cases hi
      | some y =>
        rw [hy] at hi
        cases hi
        have hym : y ∈ A.stars ++ B.stars := List.mem_of_getElem? hy
        have y0 : 0 ≤ y := by
          rcases List.mem_append.mp hym with k | k
          · exact (stars_le gA k).1
          · exact (stars_le gB k).1
        have hlt : ((A.stars ++ B.stars).take i).length ≤ 12 := by rw [List.length_take, List.length_append]; omega
        have hlp := len_poss A B ((A.stars ++ B.stars).take i)
        refine ⟨_, rfl, .inl ⟨rfl, _, SqL.of hN3⟩, _, rfl, N, _, _, rfl, rfl, hN3, ?_, ?_⟩
        · rw [List.length_map]
          exact Nat.lt_of_le_of_lt (show _ ≤ 84 by omega) (by decide)
        have h4 : (upd H3 N (.lst ((possL A B ((A.stars ++ B.stars).take i)).map V.int ++ [.int y]))) N = some (.lst ((possL A B ((A.stars ++ B.stars).take i) ++ [y]).map V.int)) := by
          rw [upd_same, List.map_append]
          rfl
        have b4 := b3.trans (But.upd N H3 (.lst ((possL A B ((A.stars ++ B.stars).take i)).map V.int ++ [.int y])))
        generalize upd H3 N (.lst ((possL A B ((A.stars ++ B.stars).take i)).map V.int ++ [.int y])) = H4 at h4 b4 ⊢
        refine ⟨_, rfl, .inl ⟨rfl, _, SqL.of h4⟩, _, rfl, _, rfl, a, A.us, A.d, A.s, A.c, A.l, y, 3, rfl, hAc.butL hNc b4, gA, y0, by decide, fun e1 H5 s5 ne1 he1 => ?_⟩
        refine ⟨N, e1, _, _, rfl, rfl, s5 _ _ h4, he1, ?_, ?_⟩
        · rw [List.length_map, List.length_map, List.length_append, hlp]
          have : (chg A.us A.d A.s A.c A.l y 3).length = 3 := len_chg A y 3
          exact Nat.le_trans (show _ ≤ 100 by simp only [List.length_singleton]; omega) (by decide)
        rw [← List.map_append]
        have h6 : (upd H5 N (.lst ((possL A B ((A.stars ++ B.stars).take i) ++ [y] ++ A.chg y 3).map V.int))) N = some (.lst ((possL A B ((A.stars ++ B.stars).take i) ++ [y] ++ A.chg y 3).map V.int)) := upd_same
        have b6 := (b4.trans (Same.but s5)).trans (But.upd N H5 (.lst ((possL A B ((A.stars ++ B.stars).take i) ++ [y] ++ A.chg y 3).map V.int)))
        generalize upd H5 N (.lst ((possL A B ((A.stars ++ B.stars).take i) ++ [y] ++ A.chg y 3).map V.int)) = H6 at h6 b6 ⊢
        refine ⟨_, rfl, .inl ⟨rfl, _, SqL.of h6⟩, _, rfl, _, rfl, b, B.us, B.d, B.s, B.c, B.l, y, 3, rfl, hBc.butL hNc b6, gB, y0, by decide, fun e2 H7 s7 ne2 he2 => ?_⟩
        refine ⟨N, e2, _, _, rfl, rfl, s7 _ _ h6, he2, ?_, ⟨_, rfl⟩, (b6.trans (Same.but s7)).trans (But.upd N H7 _), ?_⟩
        · rw [List.length_map, List.length_map, List.length_append, List.length_append, hlp]
          have := len_chg A y 3
          have : (chg A.us A.d A.s A.c A.l y 3).length = 3 := len_chg A y 3
          have : (chg B.us B.d B.s B.c B.l y 3).length = 3 := len_chg B y 3
          exact Nat.le_trans (show _ ≤ 100 by simp only [List.length_singleton]; omega) (by decide)
        · rw [upd_same, ← List.map_append, List.take_add_one, hy]
          show some (HO.lst _) = some (HO.lst ((possL A B ((A.stars ++ B.stars).take i ++ [y])).map V.int))
          rw [poss_snoc]
          simp only [List.append_assoc, List.cons_append, List.nil_append]
    · rintro σ H3 ⟨⟨v3, rfl⟩, b3, hN3⟩
      rw [List.length_map, List.take_of_length_le (Nat.le_refl _)] at hN3
      exact ⟨_, rfl, q N H3 (hold b3) hN3⟩
theorem ok_firstu {C : Addr} (d : Dd K mg "first_unlike" sFirstU ["ladder", "other"]) (dP : Dd K mg "possible_first_ones" sPoss ["ladder", "other"]) (dC : Dd K mg "check_ladder" sCLad ["ladder"]) (dF : Dd K mg "figure_of" sFigOf ["ladder", "number"]) (B0 : Bt mg)
    (GP : FnOk P w K mg base CX0 6 dP.f dP.fd ["ladder", "other"] (spPoss K C)) (GC : FnOk P w K mg base CX0 2 dC.f dC.fd ["ladder"] (spCLad K C)) (GF : FnOk P w K mg base CX0 5 dF.f dF.fd ["ladder", "number"] (spFig K C)) : FnOk P w K mg base CX0 7 d.f d.fd ["ladder", "other"] (spFirstU K C) := by
  refine d.F.ok scFirstU (fun vs H Q E h => ?_) (fun cdv A0 outer s H vs Q E hr h => ?_)
  · obtain ⟨_, _, _, _, rfl, _⟩ := h
    rfl
  · obtain ⟨a, b, A, B, rfl, hA, hB, gA, gB, q⟩ := h
    have hr1 : Room 2 _ := hr.mono (by decide)
    have hr4 : Room 5 _ := hr.mono (by decide)
    have nd := scFirstU.nd
    refine ⟨_, pss_cons (ps_expr (pe_call GC hr1 (by rfl) dC.g dC.F.kp dC.b .nil pass0 (pa_cons (pv 0) pa_nil)))
      (pss_cons (ps_expr (pe_call GC hr1 (by rfl) dC.g dC.F.kp dC.b .nil pass0 (pa_cons (pv 1) pa_nil)))
      (pss_one (ps_ret (pe_callBK (MyM.cr_minD rfl) (by rfl) B0.min (by decide +kernel) (pa_cons (pe_lc (own := [("number", 2)]) (g := gName 2) rfl nd (pi_list (pe_call GP hr (by rfl) dP.g dP.F.kp dP.b .nil pass0 (pa_cons (pv 0) (pa_cons (pv 1) pa_nil))))
          (blkOk_by (own := [("number", 2)]) (N := ["ladder", "other", "number"]) (sc := defScope sFirstU) (by decide +kernel)) (fun _ _ _ _ _ => pg_name (i := 2) nd rfl (Or.inl rfl))
          (fun _ _ _ _ _ => pts_one (pt_cmpR op_ne (pe_call GF hr4 (by rfl) dF.g dF.F.kp dF.b .nil pass0 (pa_cons (pv 0) (pa_cons (pv 2) pa_nil))) (pe_call GF hr4 (by rfl) dF.g dF.F.kp dF.b .nil pass0 (pa_cons (pv 1) (pa_cons (pv 2) pa_nil))) (nomark _))) (fun _ _ _ _ _ => pv 2)) pa_nil) (pk_cons pe_non pk_nil))))), ?_⟩
    refine ⟨_, rfl, a, A.us, A.d, A.s, A.c, A.l, rfl, hA, _, rfl, b, B.us, B.d, B.s, B.c, B.l, rfl, hB, ?_⟩
    refine ⟨_, rfl, _, rfl, a, b, A, B, rfl, hA, hB, gA, gB, fun N H1 s1 hN => ?_⟩
    refine ⟨N, rfl, ⟨_, SqL.of hN⟩, fun D nD => ?_⟩
    have hln := len_poss A B (A.stars ++ B.stars)
    have hla := len_stars A
    have hlb := len_stars B
    have hia := gA.u.hi
    have hib := gB.u.hi
    have hball := fun x (hx : x ∈ possL A B (A.stars ++ B.stars)) => poss_le gA gB hx
    have hfin1 := unlike_all gA gB
    have hfin2 := fun (n : Int) => unlike_some (n := n) gA gB
    rw [List.length_append] at hln
    generalize possL A B (A.stars ++ B.stars) = T at hN hln hball hfin1 hfin2
    refine lc_list (K := K) (a := N) (xs := T.map V.int) (fun i H2 => Same H1 H2 ∧ H2 D = some (.lst (((T.take i).filter fun x => decide (A.show x ≠ B.show x)).map V.int))) ⟨same_upd nD, upd_same⟩ (fun i H2 _ h => SqL.of (h.1 _ _ hN)) ?_ ?_
    · rintro i x H2 hi ⟨sm, hD⟩
      rw [List.getElem?_map] at hi
      cases hy : T[i]? with
      | none => rw [hy] at hi; cases hi
      | some y =>
        rw [hy] at hi
        cases hi
        have hb := hball y (List.mem_of_getElem? hy)
        have et : (T.take (i + 1)).filter (fun x => decide (A.show x ≠ B.show x)) = (T.take i).filter (fun x => decide (A.show x ≠ B.show x)) ++ (if decide (A.show y ≠ B.show y) = true then [y] else []) := by
          rw [List.take_add_one, hy, List.filter_append]
          congr 1
          show List.filter _ [y] = _
          rw [List.filter_cons]
          rfl
        refine ⟨rfl, _, rfl, _, rfl, a, A.us, A.d, A.s, A.c, A.l, y, rfl, (hA.same s1).same sm, gA, hb.1, by omega, fun H3 s3 => ?_⟩
        refine ⟨_, rfl, _, rfl, b, B.us, B.d, B.s, B.c, B.l, y, rfl, ((hB.same s1).same sm).same s3, gB, hb.1, by omega, fun H4 s4 => ?_⟩
        have s24 := s3.trans s4
        refine ⟨rfl, _, rfl, ite2 (fun e => ?_) (fun e => ?_)⟩
        · have e' : A.show y ≠ B.show y := fun k => by
            rw [show shown A.us A.d A.s A.c A.l y = shown B.us B.d B.s B.c B.l y from k, decide_eq_true rfl] at e
            cases e
          refine ⟨.int y, rfl, _, s24 _ _ hD, ?_, fun x o ex => ?_, ?_⟩
          · rw [List.length_map]
            have k1 : ((T.take i).filter fun x => decide (A.show x ≠ B.show x)).length ≤ 84 := Nat.le_trans (List.length_filter_le _ _) (by rw [List.length_take]; omega)
            exact Nat.lt_of_le_of_lt k1 (by decide)
          · rw [upd_ne (ne_of_none ex nD)]
            exact s24 _ _ (sm _ _ ex)
          · rw [upd_same, et, if_pos (decide_eq_true e'), List.map_append]
            rfl
        · have e' : ¬ A.show y ≠ B.show y := fun k => by
            refine e ?_
            have : decide (V.str (shown A.us A.d A.s A.c A.l y) = V.str (shown B.us B.d B.s B.c B.l y)) = false := decide_eq_false fun w => k (V.str.inj w)
            rw [this]
            rfl
          refine ⟨sm.trans s24, ?_⟩
          rw [et, if_neg (fun k => e' (of_decide_eq_true k)), List.append_nil]
          exact s24 _ _ hD
    · rintro H2 ⟨sm, hD⟩
      rw [List.length_map, List.take_of_length_le (Nat.le_refl _)] at hD
      refine ⟨D, _, .non, rfl, rfl, SqL.of hD, fun e => q none H2 (s1.trans sm) (hfin1 fun x hx => ?_), fun m hm hl => q (some m) H2 (s1.trans sm) ?_⟩
      · by_cases k : A.show x = B.show x
        · exact k
        · exfalso
          have : x ∈ T.filter fun x => decide (A.show x ≠ B.show x) := List.mem_filter.mpr ⟨hx, decide_eq_true k⟩
          rw [e] at this
          cases this
      · obtain ⟨h1, h2⟩ := List.mem_filter.mp hm
        exact hfin2 m h1 (of_decide_eq_true h2) fun x hx hne => hl x (List.mem_filter.mpr ⟨hx, decide_eq_true hne⟩)
theorem ok_alike {C : Addr} (d : Dd K mg "are_alike" sAlike ["ladder", "other"]) (dU : Dd K mg "first_unlike" sFirstU ["ladder", "other"])
    (GU' : FnOk P w K mg base CX0 7 dU.f dU.fd ["ladder", "other"] (spFirstU K C)) : FnOk P w K mg base CX0 8 d.f d.fd ["ladder", "other"] (spAlike K C) := by
  refine d.F.ok scAlike (fun vs H Q E h => ?_) (fun cdv A0 outer s H vs Q E hr h => ?_)
  · obtain ⟨_, _, _, _, rfl, _⟩ := h
    rfl
  · obtain ⟨a, b, A, B, rfl, hA, hB, gA, gB, q⟩ := h
    refine ⟨_, pss_one (ps_ret (pe_cmp (pc_isN (pe_call GU' hr (by rfl) dU.g dU.F.kp dU.b .nil pass0 (pa_cons (pv 0) (pa_cons (pv 1) pa_nil)))))), ?_⟩
    refine ⟨_, rfl, _, rfl, a, b, A, B, rfl, hA, hB, gA, gB, fun r H1 s1 hu => ?_⟩
    have := q r H1 s1 hu
    cases r with
    | none => exact this
    | some n => exact this
end
end My

namespace My
open PySem PySem.Spec PyProof.Rows L2
/-! ### when one ladder tells another one -/
theorem firstR_far {m st : Int} {s : Str} (h : Stp st s) (m1 : 1 ≤ m) : ∀ t : Nat, firstR (m + 2 * (t : Int)) st s = firstR m st s + 2 * (t : Int) * st := by
  intro t
  induction t with
  | zero => rw [show m + 2 * ((0 : Nat) : Int) = m by omega, show 2 * ((0 : Nat) : Int) * st = 0 by rw [show 2 * ((0 : Nat) : Int) = 0 by omega, Int.zero_mul], Int.add_zero]
  | succ t ih =>
    rw [show m + 2 * ((t + 1 : Nat) : Int) = m + 2 * (t : Int) + 2 by omega, firstR_two h (by omega), ih, show 2 * ((t + 1 : Nat) : Int) = 2 * (t : Int) + 2 by omega, Int.add_mul]
    omega
theorem firstR_mono {m m' st : Int} {s : Str} (h : Stp st s) (m0 : 0 ≤ m) (hm : m ≤ m') : firstR m st s ≤ firstR m' st s := by
  have key : ∀ j : Nat, firstR m st s ≤ firstR (m + (j : Int)) st s := by
    intro j
    induction j with
    | zero => rw [show m + ((0 : Nat) : Int) = m by omega]; exact Int.le_refl _
    | succ j ih =>
      have := firstR_strict (m := m + (j : Int)) (s := s) h.pos h.even (by omega)
      rw [show m + ((j + 1 : Nat) : Int) = m + (j : Int) + 1 by omega]
      omega
  have := key (m' - m).toNat
  rw [show m + ((m' - m).toNat : Int) = m' by omega] at this
  exact this
/-- a number at which a mark begins -/
def Beg (st : Int) (s : Str) (x : Int) : Prop := ∃ k, 1 ≤ k ∧ x = firstR k st s
/-- two begins whose marks are an even number apart: so far apart are all that follow in such steps -/
theorem beg_step {st x y : Int} {s : Str} {k k' : Int} (h : Stp st s) (k1 : 1 ≤ k) (hk : k ≤ k') (he : (k' - k) % 2 = 0) (ex : x = firstR k st s) (ey : y = firstR k' st s) : ∀ t : Nat, Beg st s (x + (t : Int) * (y - x)) := by
  intro t
  obtain ⟨e, hee⟩ : ∃ e : Nat, k' = k + 2 * (e : Int) := ⟨((k' - k) / 2).toNat, by omega⟩
  have h1 := firstR_far h k1 e
  rw [← hee] at h1
  refine ⟨k + 2 * ((t * e : Nat) : Int), by omega, ?_⟩
  rw [firstR_far h k1 (t * e), ex, ey, h1]
  have e1 : firstR k st s + 2 * (e : Int) * st - firstR k st s = 2 * (e : Int) * st := by omega
  rw [e1, Int.natCast_mul]
  have : (t : Int) * (2 * (e : Int) * st) = 2 * ((t : Int) * (e : Int)) * st := by
    rw [← Int.mul_assoc, ← Int.mul_assoc, Int.mul_comm (t : Int) 2, Int.mul_assoc 2 (t : Int)]
  rw [this]
/-- six changes that are hidden nowhere: none is hidden -/
theorem beg_all {st st' m : Int} {s s' : Str} (h : Stp st s) (h' : Stp st' s') (m0 : 0 ≤ m) (hb : ∀ i : Int, 1 ≤ i → i ≤ 6 → Beg st' s' (firstR (m + i) st s)) : ∀ j : Nat, Beg st' s' (firstR (m + 1 + (j : Int)) st s) := by
  have three : ∀ i : Int, 1 ≤ i → i ≤ 2 → ∀ t : Nat, Beg st' s' (firstR (m + i + 2 * (t : Int)) st s) := by
    intro i i1 i2 t
    obtain ⟨a, a1, ea⟩ := hb i (by omega) (by omega)
    obtain ⟨b, b1, eb⟩ := hb (i + 2) (by omega) (by omega)
    obtain ⟨c, c1, ec⟩ := hb (i + 4) (by omega) (by omega)
    have f1 := firstR_two (m := m + i) h (by omega)
    have f2 := firstR_two (m := m + i + 2) h (by omega)
    rw [show m + (i + 2) = m + i + 2 by omega] at eb
    rw [show m + (i + 4) = m + i + 2 + 2 by omega] at ec
    have hp := h.pos
    have ord : ∀ {u v : Int}, 1 ≤ u → 1 ≤ v → firstR u st' s' < firstR v st' s' → u ≤ v := fun {u v} u1 v1 w => by
      rcases Int.lt_or_le v u with y | y
      · have := firstR_mono h' (show 0 ≤ v by omega) (Int.le_of_lt y)
        omega
      · exact y
    have ab := ord a1 b1 (by omega)
    have bc := ord b1 c1 (by omega)
    have ft := firstR_far h (show 1 ≤ m + i by omega) t
    by_cases p1 : (b - a) % 2 = 0
    · have := beg_step h' a1 ab p1 ea eb t
      rw [ft, show firstR (m + i) st s + 2 * (t : Int) * st = firstR (m + i) st s + (t : Int) * (firstR (m + i + 2) st s - firstR (m + i) st s) by
        rw [f1, show firstR (m + i) st s + 2 * st - firstR (m + i) st s = 2 * st by omega, ← Int.mul_assoc, Int.mul_comm (t : Int) 2]]
      exact this
    · by_cases p2 : (c - b) % 2 = 0
      · -- from the second one on; the first one is known
        rcases Nat.eq_zero_or_pos t with z | z
        · subst z
          rw [show m + i + 2 * ((0 : Nat) : Int) = m + i by omega]
          exact ⟨a, a1, ea⟩
        · have := beg_step h' b1 bc p2 eb ec (t - 1)
          rw [ft, show firstR (m + i) st s + 2 * (t : Int) * st = firstR (m + i + 2) st s + ((t - 1 : Nat) : Int) * (firstR (m + i + 2 + 2) st s - firstR (m + i + 2) st s) by
            rw [f2, f1, show firstR (m + i) st s + 2 * st + 2 * st - (firstR (m + i) st s + 2 * st) = 2 * st by omega, show 2 * (t : Int) = 2 * ((t - 1 : Nat) : Int) + 2 by omega, Int.add_mul, ← Int.mul_assoc, Int.mul_comm ((t - 1 : Nat) : Int) 2]
            omega]
          exact this
      · have p3 : (c - a) % 2 = 0 := by omega
        have hac : a ≤ c := by omega
        rcases Nat.mod_two_eq_zero_or_one t with z | z
        · obtain ⟨u, hu⟩ : ∃ u, t = 2 * u := ⟨t / 2, by omega⟩
          have := beg_step h' a1 hac p3 ea ec u
          rw [ft, show firstR (m + i) st s + 2 * (t : Int) * st = firstR (m + i) st s + (u : Int) * (firstR (m + i + 2 + 2) st s - firstR (m + i) st s) by
            rw [f2, f1, show firstR (m + i) st s + 2 * st + 2 * st - firstR (m + i) st s = 4 * st by omega, ← Int.mul_assoc, Int.mul_comm (u : Int) 4, hu]
            rw [show 2 * ((2 * u : Nat) : Int) = 4 * (u : Int) by omega]]
          exact this
        · obtain ⟨u, hu⟩ : ∃ u, t = 2 * u + 1 := ⟨t / 2, by omega⟩
          -- the second one and one two steps later
          obtain ⟨d, d1, ed⟩ : ∃ d, d = b + (c - a) ∧ True := ⟨_, rfl, trivial⟩
          obtain ⟨e, hee⟩ : ∃ e : Nat, c = a + 2 * (e : Int) := ⟨((c - a) / 2).toNat, by omega⟩
          have g1 := firstR_far h' a1 e
          have g2 := firstR_far h' b1 e
          rw [← hee, ← ec, ← ea] at g1
          have := beg_step (y := firstR (b + 2 * (e : Int)) st' s') h' b1 (by omega) (by omega) eb rfl u
          rw [g2, ← eb] at this
          rw [ft, show firstR (m + i) st s + 2 * (t : Int) * st = firstR (m + i + 2) st s + (u : Int) * (firstR (m + i + 2) st s + 2 * (e : Int) * st' - firstR (m + i + 2) st s) by
            rw [show firstR (m + i + 2) st s + 2 * (e : Int) * st' - firstR (m + i + 2) st s = firstR (m + i + 2 + 2) st s - firstR (m + i) st s by omega, f2, f1, show firstR (m + i) st s + 2 * st + 2 * st - firstR (m + i) st s = 4 * st by omega, ← Int.mul_assoc, Int.mul_comm (u : Int) 4, hu]
            rw [show 2 * ((2 * u + 1 : Nat) : Int) = 4 * (u : Int) + 2 by omega, Int.add_mul]
            omega]
          exact this
  intro j
  rcases Nat.mod_two_eq_zero_or_one j with z | z
  · obtain ⟨t, ht⟩ : ∃ t, j = 2 * t := ⟨j / 2, by omega⟩
    have := three 1 (by omega) (by omega) t
    rw [show m + 1 + (j : Int) = m + 1 + 2 * (t : Int) by omega]
    exact this
  · obtain ⟨t, ht⟩ : ∃ t, j = 2 * t + 1 := ⟨j / 2, by omega⟩
    have := three 2 (by omega) (by omega) t
    rw [show m + 1 + (j : Int) = m + 2 + 2 * (t : Int) by omega]
    exact this
/-- the marks of n and of the number before it -/
def Chg (us : List (Str × Int)) (d : Nat) (s : Str) (c : Bool) (l n : Int) : Prop := placedM us d s c l (n - 1) ≠ placedM us d s c l n
theorem beg_chg {us : List (Str × Int)} {d : Nat} {s : Str} {c : Bool} {l n : Int} {p : Nat} (g : Good us d s l) (n1 : 1 ≤ n) (hp : p < us.length) (e1 : (placedM us d s c l (n - 1)).1 = p) (e2 : (placedM us d s c l n).1 = p) : Chg us d s c l n ↔ Beg ((stepsOf us d).getD p 0) s n := by
  have h := g.stp hp
  have s1 := placed_snd us d s c l (n - 1)
  have s2 := placed_snd us d s c l n
  rw [e1] at s1
  rw [e2] at s2
  have inc := rnd_succ (n := n - 1) h.srt h.even h.pos (by omega)
  rw [Int.sub_add_cancel] at inc
  have r0 := rnd_nn (s := s) (show 0 ≤ n - 1 by omega) h.pos
  constructor
  · intro hc
    have hne : rnd (n - 1) ((stepsOf us d).getD p 0) s ≠ rnd n ((stepsOf us d).getD p 0) s := fun w => hc (Prod.ext (by rw [e1, e2]) (by rw [s1, s2, w]))
    have := rnd_step_eq (n := n - 1) (m := rnd n ((stepsOf us d).getD p 0) s) h (by omega) (by omega) (by omega) (by rw [Int.sub_add_cancel]; exact Int.le_refl _)
    exact ⟨rnd n ((stepsOf us d).getD p 0) s, by omega, by omega⟩
  · rintro ⟨k, k1, ek⟩ w
    have a := (rnd_ge (n := n) (m := k) h.srt h.even h.pos (by omega) (by omega)).mpr (by omega)
    have b : ¬ k ≤ rnd (n - 1) ((stepsOf us d).getD p 0) s := fun y => by
      have := (rnd_ge (n := n - 1) (m := k) h.srt h.even h.pos (by omega) (by omega)).mp y
      omega
    have := congrArg Prod.snd w
    rw [s1, s2] at this
    omega
/-- the first change of the one that the other one hides is tried -/
theorem untold_tried {us us' : List (Str × Int)} {d d' : Nat} {s s' : Str} {c c' : Bool} {l l' n : Int} (g : Good us d s l) (g' : Good us' d' s' l') (n1 : 1 ≤ n) (hB : Chg us' d' s' c' l' n) (hA : ¬ Chg us d s c l n) (hmin : ∀ x, 1 ≤ x → x < n → Chg us' d' s' c' l' x → Chg us d s c l x) :
    ∃ a, (a ∈ stars us d s c l ∨ a ∈ stars us' d' s' c' l') ∧ (n = a ∨ n ∈ chg us' d' s' c' l' a 6) := by
  have n0 : 0 ≤ n := by omega
  obtain ⟨k1, k2, k3⟩ := placedM_ok (c := c) g n0
  obtain ⟨j1, j2, j3⟩ := placedM_ok (c := c') g' n0
  have hAs := (place_ge (c := c) g n0 k1).mp (Nat.le_refl _)
  have hBs := (place_ge (c := c') g' n0 j1).mp (Nat.le_refl _)
  have sA0 := start_nn (c := c) g k1
  have sB0 := start_nn (c := c') g' j1
  have mA : startM us d s c l (placedM us d s c l n).1 ∈ stars us d s c l := List.mem_map.mpr ⟨_, List.mem_range.mpr k1, rfl⟩
  have mB : startM us' d' s' c' l' (placedM us' d' s' c' l' n).1 ∈ stars us' d' s' c' l' := List.mem_map.mpr ⟨_, List.mem_range.mpr j1, rfl⟩
  have uA := fun x (h1 : startM us d s c l (placedM us d s c l n).1 ≤ x) (h2 : x ≤ n) => unit_in (c := c) g n0 h1 h2
  have uB := fun x (h1 : startM us' d' s' c' l' (placedM us' d' s' c' l' n).1 ≤ x) (h2 : x ≤ n) => unit_in (c := c') g' n0 h1 h2
  have hpA := g.stp k1
  have hpB := g'.stp j1
  have sndB := fun x => placed_snd us' d' s' c' l' x
  have begA := fun (x : Int) (x1 : 1 ≤ x) (e1 : (placedM us d s c l (x - 1)).1 = (placedM us d s c l n).1) (e2 : (placedM us d s c l x).1 = (placedM us d s c l n).1) => beg_chg (c := c) g x1 k1 e1 e2
  have begB := fun (x : Int) (x1 : 1 ≤ x) (e1 : (placedM us' d' s' c' l' (x - 1)).1 = (placedM us' d' s' c' l' n).1) (e2 : (placedM us' d' s' c' l' x).1 = (placedM us' d' s' c' l' n).1) => beg_chg (c := c') g' x1 j1 e1 e2
  obtain ⟨pA, epA⟩ : ∃ p, (placedM us d s c l n).1 = p := ⟨_, rfl⟩
  obtain ⟨pB, epB⟩ : ∃ p, (placedM us' d' s' c' l' n).1 = p := ⟨_, rfl⟩
  rw [epA] at hAs sA0 mA uA hpA begA
  rw [epB] at hBs sB0 mB uB hpB begB
  obtain ⟨a, ha, ha1, ha2, han⟩ : ∃ a, (a ∈ stars us d s c l ∨ a ∈ stars us' d' s' c' l') ∧ startM us d s c l pA ≤ a ∧ startM us' d' s' c' l' pB ≤ a ∧ a ≤ n := by
    rcases Int.lt_or_le (startM us d s c l pA) (startM us' d' s' c' l' pB) with y | y
    · exact ⟨_, .inr mB, by omega, Int.le_refl _, hBs⟩
    · exact ⟨_, .inl mA, Int.le_refl _, y, hAs⟩
  refine ⟨a, ha, ?_⟩
  rcases Int.lt_or_le a n with y | y
  · right
    have a0 : 0 ≤ a := by omega
    have bB : ∀ x, a < x → x ≤ n → (Chg us' d' s' c' l' x ↔ Beg ((stepsOf us' d').getD pB 0) s' x) := fun x h1 h2 => begB x (by omega) (uB (x - 1) (by omega) (by omega)) (uB x (by omega) h2)
    have bA : ∀ x, a < x → x ≤ n → (Chg us d s c l x ↔ Beg ((stepsOf us d).getD pA 0) s x) := fun x h1 h2 => begA x (by omega) (uA (x - 1) (by omega) (by omega)) (uA x (by omega) h2)
    obtain ⟨k, hk1, hk⟩ := (bB n y (Int.le_refl _)).mp hB
    have eaB : (placedM us' d' s' c' l' a).1 = pB := uB a ha2 han
    have r0 := rnd_nn (s := s') a0 hpB.pos
    -- the mark of n lies above that of a
    have hgt : rnd a ((stepsOf us' d').getD pB 0) s' < k := by
      rcases Int.lt_or_le (rnd a ((stepsOf us' d').getD pB 0) s') k with w | w
      · exact w
      · have := (rnd_ge (n := a) (m := k) hpB.srt hpB.even hpB.pos a0 (by omega)).mp w
        omega
    rcases Int.lt_or_le k (rnd a ((stepsOf us' d').getD pB 0) s' + 7) with w | w
    · refine chg_mem (j := (k - rnd a ((stepsOf us' d').getD pB 0) s' - 1).toNat) (by omega) ?_
      rw [sndB, eaB, show rnd a ((stepsOf us' d').getD pB 0) s' + 1 + ((k - rnd a ((stepsOf us' d').getD pB 0) s' - 1).toNat : Int) = k by omega]
      exact hk
    · exfalso
      refine hA ((bA n y (Int.le_refl _)).mpr ?_)
      have six : ∀ i : Int, 1 ≤ i → i ≤ 6 → Beg ((stepsOf us d).getD pA 0) s (firstR (rnd a ((stepsOf us' d').getD pB 0) s' + i) ((stepsOf us' d').getD pB 0) s') := fun i i1 i2 => by
        have c1 : firstR (rnd a ((stepsOf us' d').getD pB 0) s' + i) ((stepsOf us' d').getD pB 0) s' < n := by
          have q1 := firstR_strict (m := rnd a ((stepsOf us' d').getD pB 0) s' + i) (s := s') hpB.pos hpB.even (by omega)
          have q2 := firstR_mono hpB (show 0 ≤ rnd a ((stepsOf us' d').getD pB 0) s' + i + 1 by omega) (show rnd a ((stepsOf us' d').getD pB 0) s' + i + 1 ≤ k by omega)
          omega
        have c2 : a < firstR (rnd a ((stepsOf us' d').getD pB 0) s' + i) ((stepsOf us' d').getD pB 0) s' := by
          rcases Int.lt_or_le a (firstR (rnd a ((stepsOf us' d').getD pB 0) s' + i) ((stepsOf us' d').getD pB 0) s') with v | v
          · exact v
          · have := (rnd_ge (n := a) (m := rnd a ((stepsOf us' d').getD pB 0) s' + i) hpB.srt hpB.even hpB.pos a0 (by omega)).mpr v
            omega
        exact (bA _ c2 (by omega)).mp (hmin _ (by omega) c1 ((bB _ c2 (by omega)).mpr ⟨_, by omega, rfl⟩))
      have := beg_all hpB hpA r0 six (k - rnd a ((stepsOf us' d').getD pB 0) s' - 1).toNat
      rw [show rnd a ((stepsOf us' d').getD pB 0) s' + 1 + ((k - rnd a ((stepsOf us' d').getD pB 0) s' - 1).toNat : Int) = k by omega, ← hk] at this
      exact this
  · exact .inl (by omega)
end My

namespace My
open PySem PySem.Spec PyProof.Rows L2
/-! ### first_untold, tells -/
abbrev sIsChg : Stmt := top 73
abbrev sPossC : Stmt := top 74
abbrev sFirstT : Stmt := top 71
abbrev sTells : Stmt := top 72
theorem scIsChg : FnScope ["ladder", "number"] ["ladder", "number"] (defScope sIsChg) := ⟨rfl, rfl, rfl, by decide +kernel, rfl, by decide +kernel, by decide +kernel⟩
theorem scPossC : FnScope ["ladder", "other", "numbers", "start"] ["ladder", "other"] (defScope sPossC) := ⟨rfl, rfl, rfl, by decide +kernel, rfl, by decide +kernel, by decide +kernel⟩
theorem scFirstT : FnScope ["ladder", "other", "untold", "number"] ["ladder", "other"] (defScope sFirstT) := ⟨rfl, rfl, rfl, by decide +kernel, rfl, by decide +kernel, by decide +kernel⟩
theorem scTells : FnScope ["ladder", "other"] ["ladder", "other"] (defScope sTells) := ⟨rfl, rfl, rfl, by decide +kernel, rfl, by decide +kernel, by decide +kernel⟩
abbrev Lad.Chg (A : Lad) (n : Int) : Prop := My.Chg A.us A.d A.s A.c A.l n
def isC (A : Lad) (n : Int) : Bool := decide (0 < n) && !decide (V.str (A.show n) = V.str (A.show (n - 1)))
theorem shown_same' {us : List (Str × Int)} {d : Nat} {s : Str} {c : Bool} {l x y : Int} (g : Good us d s l) (x0 : 0 ≤ x) (y0 : 0 ≤ y) (x1 : x ≤ 1000000000000000000000000000000) (y1 : y ≤ 1000000000000000000000000000000) : shown us d s c l x = shown us d s c l y ↔ placedM us d s c l x = placedM us d s c l y := by
  constructor
  · intro e
    obtain ⟨k1, k2, k3⟩ := placedM_ok (c := c) g x0
    obtain ⟨j1, j2, j3⟩ := placedM_ok (c := c) g y0
    obtain ⟨e1, e2⟩ := writ_inj g.u g.d3 k1 j1 k2 j2 (by omega) (by omega) e
    exact Prod.ext e1 e2
  · intro e
    unfold shown
    rw [e]
theorem isC_iff {A : Lad} (g : A.Ok) {n : Int} (n0 : 0 ≤ n) (n1 : n ≤ 1000000000000000000000000000000) : isC A n = true ↔ 1 ≤ n ∧ A.Chg n := by
  unfold isC
  rw [Bool.and_eq_true, decide_eq_true_eq]
  constructor
  · rintro ⟨h1, h2⟩
    refine ⟨h1, fun w => ?_⟩
    have := (shown_same' g (show 0 ≤ n - 1 by omega) n0 (by omega) n1).mpr w
    rw [show V.str (A.show n) = V.str (A.show (n - 1)) from congrArg V.str this.symm, decide_eq_true rfl] at h2
    cases h2
  · rintro ⟨h1, h2⟩
    refine ⟨h1, ?_⟩
    rw [decide_eq_false (fun w => h2 ((shown_same' g (show 0 ≤ n - 1 by omega) n0 (by omega) n1).mp (V.str.inj w).symm))]
    rfl
def possC (B : Lad) (xs : List Int) : List Int := xs.flatMap fun x => x :: B.chg x 6
/-- the first change of the other one that the ladder hides -/
def Untold (A B : Lad) (r : Option Int) : Prop := match r with
  | none => ∀ x, 1 ≤ x → B.Chg x → A.Chg x
  | some n => 1 ≤ n ∧ n ≤ 100000000000000000000000 ∧ B.Chg n ∧ ¬ A.Chg n ∧ ∀ x, 1 ≤ x → x < n → B.Chg x → A.Chg x
def spIsChg (K : PySem.W.Frag) (C : Addr) : Sp := fun vs H Q _ => ∃ (a : Addr) (A : Lad) (n : Int), vs = [.ref a, .int n] ∧ A.At K C H a ∧ A.Ok ∧ 0 ≤ n ∧ n ≤ 1000000000000000000000000000000 ∧ ∀ (H' : Hp), Same H H' → Q (.bl (isC A n)) H'
def spPossC (K : PySem.W.Frag) (C : Addr) : Sp := fun vs H Q _ => ∃ (a b : Addr) (A B : Lad), vs = [.ref a, .ref b] ∧ A.At K C H a ∧ B.At K C H b ∧ A.Ok ∧ B.Ok ∧
  ∀ (p : Addr) (H' : Hp), Same H H' → H' p = some (.lst ((possC B (A.stars ++ B.stars)).map V.int)) → Q (.ref p) H'
def spFirstT (K : PySem.W.Frag) (C : Addr) : Sp := fun vs H Q _ => ∃ (a b : Addr) (A B : Lad), vs = [.ref a, .ref b] ∧ A.At K C H a ∧ B.At K C H b ∧ A.Ok ∧ B.Ok ∧
  (∀ (H' : Hp), Same H H' → Untold A B none → Q .non H') ∧ ∀ (n : Int) (p : Addr) (H' : Hp), Same H H' → Untold A B (some n) → SqT K H' p [.int (n - 1), .int n] → Q (.ref p) H'
def spTells (K : PySem.W.Frag) (C : Addr) : Sp := fun vs H Q _ => ∃ (a b : Addr) (A B : Lad), vs = [.ref a, .ref b] ∧ A.At K C H a ∧ B.At K C H b ∧ A.Ok ∧ B.Ok ∧
  ∀ (r : Option Int) (H' : Hp), Same H H' → Untold A B r → Q (.bl r.isNone) H'
theorem len_possC (B : Lad) : ∀ xs : List Int, (possC B xs).length = 7 * xs.length
  | [] => rfl
  | x :: r => by
    have ih := len_possC B r
    unfold possC at ih ⊢
    rw [List.flatMap_cons, List.length_append, ih, List.length_cons, List.length_cons, len_chg]
    omega
theorem possC_snoc (B : Lad) (xs : List Int) (y : Int) : possC B (xs ++ [y]) = possC B xs ++ (y :: B.chg y 6) := by
  unfold possC
  rw [List.flatMap_append, List.flatMap_cons, List.flatMap_nil, List.append_nil]
theorem possC_le {A B : Lad} (g : A.Ok) (g' : B.Ok) {x : Int} (h : x ∈ possC B (A.stars ++ B.stars)) : 0 ≤ x ∧ x ≤ 100000000000000000000000 := by
  obtain ⟨y, hy, hx⟩ := List.mem_flatMap.mp h
  have by' : 0 ≤ y ∧ y ≤ 1000000000000000000000 := by
    rcases List.mem_append.mp hy with k | k
    · exact stars_le g k
    · exact stars_le g' k
  rcases List.mem_cons.mp hx with k | k
  · omega
  · have := chg_le g' by'.1 (by omega) k
    omega
theorem untold_none {A B : Lad} (g : A.Ok) (g' : B.Ok) (h : ∀ x ∈ possC B (A.stars ++ B.stars), ¬ (isC B x = true ∧ ¬ isC A x = true)) : Untold A B none := by
  intro x x1 hB
  by_cases hA : A.Chg x
  · exact hA
  · exfalso
    obtain ⟨m, m0, m1, ⟨h1, h2, h3⟩, hl⟩ := least_exists (p := fun x => 1 ≤ x ∧ B.Chg x ∧ ¬ A.Chg x) (show 0 ≤ x by omega) ⟨x1, hB, hA⟩
    obtain ⟨a, ha, hc⟩ := untold_tried (c := A.c) (c' := B.c) g g' h1 h2 h3 (fun x x1 x2 hb => Classical.byContradiction fun k => hl x (by omega) x2 ⟨x1, hb, k⟩)
    have hmm : m ∈ possC B (A.stars ++ B.stars) := by
      refine List.mem_flatMap.mpr ⟨a, List.mem_append.mpr ha, ?_⟩
      rcases hc with k | k
      · rw [k]
        exact List.mem_cons_self
      · exact List.mem_cons_of_mem _ k
    have hb := possC_le g g' hmm
    exact h m hmm ⟨(isC_iff g' hb.1 (by omega)).mpr ⟨h1, h2⟩, fun k => h3 ((isC_iff g hb.1 (by omega)).mp k).2⟩
theorem untold_some {A B : Lad} (g : A.Ok) (g' : B.Ok) {n : Int} (hn : n ∈ possC B (A.stars ++ B.stars)) (hB : isC B n = true) (hA : ¬ isC A n = true) (hl : ∀ x ∈ possC B (A.stars ++ B.stars), isC B x = true → ¬ isC A x = true → n ≤ x) : Untold A B (some n) := by
  have hb := possC_le g g' hn
  obtain ⟨n1, hB'⟩ := (isC_iff g' hb.1 (by omega)).mp hB
  have hA' : ¬ A.Chg n := fun k => hA ((isC_iff g hb.1 (by omega)).mpr ⟨n1, k⟩)
  refine ⟨n1, hb.2, hB', hA', fun x x1 x2 hx => ?_⟩
  by_cases hax : A.Chg x
  · exact hax
  · exfalso
    obtain ⟨m, m0, m1, ⟨h1, h2, h3⟩, hl2⟩ := least_exists (p := fun x => 1 ≤ x ∧ B.Chg x ∧ ¬ A.Chg x) (show 0 ≤ x by omega) ⟨x1, hx, hax⟩
    obtain ⟨a, ha, hc⟩ := untold_tried (c := A.c) (c' := B.c) g g' h1 h2 h3 (fun x x1 x2 hb => Classical.byContradiction fun k => hl2 x (by omega) x2 ⟨x1, hb, k⟩)
    have hmm : m ∈ possC B (A.stars ++ B.stars) := by
      refine List.mem_flatMap.mpr ⟨a, List.mem_append.mpr ha, ?_⟩
      rcases hc with k | k
      · rw [k]
        exact List.mem_cons_self
      · exact List.mem_cons_of_mem _ k
    have hbm := possC_le g g' hmm
    have := hl m hmm ((isC_iff g' hbm.1 (by omega)).mpr ⟨h1, h2⟩) (fun k => h3 ((isC_iff g hbm.1 (by omega)).mp k).2)
    omega
section
variable {P : Program} {w : World} {K : PySem.W.Frag} {mg : Str → Option Value} {base : Heap}
theorem ok_ischg {C : Addr} (d : Dd K mg "is_change" sIsChg ["ladder", "number"]) (dF : Dd K mg "figure_of" sFigOf ["ladder", "number"]) (GF : FnOk P w K mg base CX0 5 dF.f dF.fd ["ladder", "number"] (spFig K C)) : FnOk P w K mg base CX0 6 d.f d.fd ["ladder", "number"] (spIsChg K C) := by
  refine d.F.ok scIsChg (fun vs H Q E h => ?_) (fun cdv A0 outer s H vs Q E hr h => ?_)
  · obtain ⟨_, _, _, rfl, _⟩ := h
    rfl
  · obtain ⟨a, A, n, rfl, hA, gA, n0, n1, q⟩ := h
    refine ⟨_, pss_one (ps_ret (pe_and (pe_cmpR op_gt (pv 1) pe_int (nomark _)) (pe_one (pe_cmpR op_ne (pe_call GF hr (by rfl) dF.g dF.F.kp dF.b .nil pass0 (pa_cons (pv 0) (pa_cons (pv 1) pa_nil))) (pe_call GF hr (by rfl) dF.g dF.F.kp dF.b .nil pass0 (pa_cons (pv 0) (pa_cons (pe_op op_sub (pv 1) pe_int) pa_nil))) (nomark _))))), ?_⟩
    unfold isC at q
    refine ⟨_, rfl, _, _, rfl, rfl, _, rfl, ite2 (fun e => ?_) (fun e => ?_)⟩
    · have e' : 0 < n := of_decide_eq_true e
      rw [decide_eq_true e', Bool.true_and] at q
      refine ⟨_, rfl, _, rfl, a, A.us, A.d, A.s, A.c, A.l, n, rfl, hA, gA, n0, n1, fun H1 s1 => ?_⟩
      refine ⟨_, rfl, _, rfl, n, 1, rfl, rfl, a, A.us, A.d, A.s, A.c, A.l, n - 1, rfl, LadAt.same s1 hA, gA, by omega, by omega, fun H2 s2 => ?_⟩
      exact ⟨rfl, q H2 (s1.trans s2)⟩
    · have e' : ¬ 0 < n := fun k => e (decide_eq_true k)
      rw [decide_eq_false e', Bool.false_and] at q
      exact q H (Same.refl _)
theorem ok_possc {C : Addr} (d : Dd K mg "possible_changes" sPossC ["ladder", "other"]) (dS : Dd K mg "starts_of" sStarts ["ladder"]) (dN : Dd K mg "next_changes" sNextC ["ladder", "number", "many"]) (gE : ∃ t, mg "ENOUGH_CHANGES_tells" = some (.int 6 t))
    (GS : FnOk P w K mg base CX0 4 dS.f dS.fd ["ladder"] (spStarts K C)) (GN : FnOk P w K mg base CX0 5 dN.f dN.fd ["ladder", "number", "many"] (spNextC K C)) : FnOk P w K mg base CX0 6 d.f d.fd ["ladder", "other"] (spPossC K C) := by
  obtain ⟨t1, g1⟩ := gE
  refine d.F.ok scPossC (fun vs H Q E h => ?_) (fun cdv A0 outer s H vs Q E hr h => ?_)
  · obtain ⟨_, _, _, _, rfl, _⟩ := h
    rfl
  · obtain ⟨a, b, A, B, rfl, hA, hB, gA, gB, q⟩ := h
    have hr3 : Room 4 _ := hr.mono (by decide)
    have nd := scPossC.nd
    refine ⟨_, pss_cons (ps_set (i := 2) nd rfl (.inl rfl) (pe_lst pa_nil))
      (pss_cons (ps_for PassesOwn.never rfl (pi_list (pe_op op_cat (pe_call GS hr3 (by rfl) dS.g dS.F.kp dS.b .nil pass0 (pa_cons (pv 0) pa_nil)) (pe_call GS hr3 (by rfl) dS.g dS.F.kp dS.b .nil pass0 (pa_cons (pv 1) pa_nil)))) (pg_name (i := 3) nd rfl (.inl rfl))
        (pss_cons (ps_expr (pe_bm PySem.F.plainAttrs_list PySem.F.slot_list_append PySem.F.type_list_append mt_append (pv 2) (pa_cons (pv 3) pa_nil)))
        (pss_one (ps_expr (pe_bm PySem.F.plainAttrs_list PySem.F.slot_list_extend PySem.F.type_list_extend mt_extend (pv 2) (pa_cons (pe_call GN hr (by rfl) dN.g dN.F.kp dN.b .nil pass0 (pa_cons (pv 1) (pa_cons (pv 3) (pa_cons (pe_glob (v := .int 6) (by rfl) g1 ⟨_, rfl⟩) pa_nil)))) pa_nil))))))
      (pss_one (ps_ret (pv 2)))), ?_⟩
    refine ⟨Nat.zero_le _, fun N nN => ?_⟩
    have sN := same_upd nN (o := .lst [])
    refine ⟨_, rfl, a, A.us, A.d, A.s, A.c, A.l, rfl, LadAt.same sN hA, gA, fun p1 H1 s1 np1 h1 => ?_⟩
    refine ⟨_, rfl, b, B.us, B.d, B.s, B.c, B.l, rfl, (LadAt.same sN hB).same s1, gB, fun p2 H2 s2 np2 h2 => ?_⟩
    have hla := len_stars A
    have hlb := len_stars B
    have hia := gA.u.hi
    have hib := gB.u.hi
    refine ⟨p1, p2, _, _, rfl, rfl, s2 _ _ h1, h2, ?_, fun c nc => ?_⟩
    · rw [List.length_map, List.length_map]
      exact Nat.le_trans (show A.stars.length + B.stars.length ≤ 12 by omega) (by decide)
    rw [← List.map_append]
    have sc := same_upd nc (o := .lst ((A.stars ++ B.stars).map V.int))
    have hNc : (upd H2 c (.lst ((A.stars ++ B.stars).map V.int))) N = some (.lst []) := sc _ _ (s2 _ _ (s1 _ _ upd_same))
    have ncN : c ≠ N := (ne_of_none (s2 _ _ (s1 _ _ upd_same)) nc).symm
    have hBc : LadAt K C (upd H2 c (.lst ((A.stars ++ B.stars).map V.int))) b B.us B.d B.s B.c B.l := (((LadAt.same sN hB).same s1).same s2).same sc
    have hold : ∀ {H' : Hp}, But N (upd H2 c (.lst ((A.stars ++ B.stars).map V.int))) H' → Same H H' := fun bt x o e => bt x o (sc _ _ (s2 _ _ (s1 _ _ (sN _ _ e)))) (ne_of_none e nN)
    have hlist : (upd H2 c (.lst ((A.stars ++ B.stars).map V.int))) c = some (.lst ((A.stars ++ B.stars).map V.int)) := upd_same
    generalize upd H2 c (.lst ((A.stars ++ B.stars).map V.int)) = Hc at hNc hBc hold hlist ⊢
    refine ⟨c, rfl, ⟨_, SqL.of hlist⟩, for_list (K := K) (a := c) (xs := (A.stars ++ B.stars).map V.int) (fun i σ H' => (∃ v3, σ = [some (.ref a), some (.ref b), some (.ref N), v3]) ∧ But N Hc H' ∧ H' N = some (.lst ((possC B ((A.stars ++ B.stars).take i)).map V.int))) ⟨⟨_, rfl⟩, But.refl _ _, hNc⟩ (fun i σ H' _ h => SqL.of (h.2.1 _ _ hlist ncN)) ?_ ?_⟩
    · rintro i x σ H3 hi ⟨⟨v3, rfl⟩, b3, hN3⟩
      rw [List.getElem?_map] at hi
      cases hy : (A.stars ++ B.stars)[i]? with
      | none => rw [hy] at hi; cases hi
      | some y =>
        rw [hy] at hi
        cases hi
        have hym : y ∈ A.stars ++ B.stars := List.mem_of_getElem? hy
        have y0 : 0 ≤ y := by
          rcases List.mem_append.mp hym with k | k
          · exact (stars_le gA k).1
          · exact (stars_le gB k).1
        have hlt : ((A.stars ++ B.stars).take i).length ≤ 12 := by rw [List.length_take, List.length_append]; omega
        have hlp := len_possC B ((A.stars ++ B.stars).take i)
        refine ⟨_, rfl, .inl ⟨rfl, _, SqL.of hN3⟩, _, rfl, N, _, _, rfl, rfl, hN3, ?_, ?_⟩
        · rw [List.length_map]
          exact Nat.lt_of_le_of_lt (show _ ≤ 84 by omega) (by decide)
        have h4 : (upd H3 N (.lst ((possC B ((A.stars ++ B.stars).take i)).map V.int ++ [.int y]))) N = some (.lst ((possC B ((A.stars ++ B.stars).take i) ++ [y]).map V.int)) := by
          rw [upd_same, List.map_append]
          rfl
        have b4 := b3.trans (But.upd N H3 (.lst ((possC B ((A.stars ++ B.stars).take i)).map V.int ++ [.int y])))
        generalize upd H3 N (.lst ((possC B ((A.stars ++ B.stars).take i)).map V.int ++ [.int y])) = H4 at h4 b4 ⊢
        refine ⟨_, rfl, .inl ⟨rfl, _, SqL.of h4⟩, _, rfl, _, rfl, b, B.us, B.d, B.s, B.c, B.l, y, 6, rfl, hBc.butL hNc b4, gB, y0, by decide, fun e2 H7 s7 ne2 he2 => ?_⟩
        refine ⟨N, e2, _, _, rfl, rfl, s7 _ _ h4, he2, ?_, ⟨_, rfl⟩, (b4.trans (Same.but s7)).trans (But.upd N H7 _), ?_⟩
        · rw [List.length_map, List.length_map, List.length_append, hlp]
          have : (chg B.us B.d B.s B.c B.l y 6).length = 6 := len_chg B y 6
          exact Nat.le_trans (show _ ≤ 100 by simp only [List.length_singleton]; omega) (by decide)
        · rw [upd_same, ← List.map_append, List.take_add_one, hy]
          show some (HO.lst _) = some (HO.lst ((possC B ((A.stars ++ B.stars).take i ++ [y])).map V.int))
          rw [possC_snoc]
          simp only [List.append_assoc, List.cons_append, List.nil_append]
    · rintro σ H3 ⟨⟨v3, rfl⟩, b3, hN3⟩
      rw [List.length_map, List.take_of_length_le (Nat.le_refl _)] at hN3
      exact ⟨_, rfl, q N H3 (hold b3) hN3⟩
end
end My

namespace My
open PySem PySem.Spec PyProof.Rows L2
section
variable {P : Program} {w : World} {K : PySem.W.Frag} {mg : Str → Option Value} {base : Heap}
theorem ok_firstt {C : Addr} (d : Dd K mg "first_untold" sFirstT ["ladder", "other"]) (dP : Dd K mg "possible_changes" sPossC ["ladder", "other"]) (dC : Dd K mg "check_ladder" sCLad ["ladder"]) (dI : Dd K mg "is_change" sIsChg ["ladder", "number"]) (B0 : Bt mg)
    (GP : FnOk P w K mg base CX0 6 dP.f dP.fd ["ladder", "other"] (spPossC K C)) (GC : FnOk P w K mg base CX0 2 dC.f dC.fd ["ladder"] (spCLad K C)) (GI : FnOk P w K mg base CX0 6 dI.f dI.fd ["ladder", "number"] (spIsChg K C)) : FnOk P w K mg base CX0 7 d.f d.fd ["ladder", "other"] (spFirstT K C) := by
  refine d.F.ok scFirstT (fun vs H Q E h => ?_) (fun cdv A0 outer s H vs Q E hr h => ?_)
  · obtain ⟨_, _, _, _, rfl, _⟩ := h
    rfl
  · obtain ⟨a, b, A, B, rfl, hA, hB, gA, gB, q0, q1⟩ := h
    have hr1 : Room 2 _ := hr.mono (by decide)
    have nd := scFirstT.nd
    refine ⟨_, pss_cons (ps_expr (pe_call GC hr1 (by rfl) dC.g dC.F.kp dC.b .nil pass0 (pa_cons (pv 0) pa_nil)))
      (pss_cons (ps_expr (pe_call GC hr1 (by rfl) dC.g dC.F.kp dC.b .nil pass0 (pa_cons (pv 1) pa_nil)))
      (Evl.pss_cut (ps_setLc (i := 2) (own := [("number", 3)]) (g := gName 3) rfl nd rfl rfl (by rfl) (pi_list (pe_call GP hr (by rfl) dP.g dP.F.kp dP.b .nil pass0 (pa_cons (pv 0) (pa_cons (pv 1) pa_nil))))
          (blkOk_by (own := [("number", 3)]) (N := ["ladder", "other", "untold", "number"]) (sc := defScope sFirstT) (by decide +kernel)) (fun _ _ _ _ _ => pg_name (i := 3) nd rfl (Or.inl rfl))
          (fun _ _ _ _ _ => pts_one (PW.pt (pw_and (pt_val (pe_call GI hr (by rfl) dI.g dI.F.kp dI.b .nil pass0 (pa_cons (pv 1) (pa_cons (pv 3) pa_nil)))) (pw_and1 (pt_not (pt_val (pe_call GI hr (by rfl) dI.g dI.F.kp dI.b .nil pass0 (pa_cons (pv 0) (pa_cons (pv 3) pa_nil)))))))))
          (fun _ _ _ _ _ => pv 3))
      (pss_cons (ps_if (pt_not (pt_truth (pv 2) (fun _ => rfl))) (pss_one (ps_ret pe_non)) pss_nil)
      (pss_one (ps_ret (pe_tup (pa_cons (pe_op op_sub (pe_callB (cr_min rfl) (by rfl) B0.min (by decide +kernel) (pa_cons (pv 2) pa_nil)) pe_int) (pa_cons (pe_callB (cr_min rfl) (by rfl) B0.min (by decide +kernel) (pa_cons (pv 2) pa_nil)) pa_nil)))))))), ?_⟩
    refine ⟨_, rfl, a, A.us, A.d, A.s, A.c, A.l, rfl, hA, _, rfl, b, B.us, B.d, B.s, B.c, B.l, rfl, hB, ?_⟩
    have hln := len_possC B (A.stars ++ B.stars)
    have hla := len_stars A
    have hlb := len_stars B
    have hia := gA.u.hi
    have hib := gB.u.hi
    have hball := fun x (hx : x ∈ possC B (A.stars ++ B.stars)) => possC_le gA gB hx
    have hfin1 := untold_none gA gB
    have hfin2 := fun (n : Int) => untold_some (n := n) gA gB
    rw [List.length_append] at hln
    refine ⟨fun σ' H' => ∃ U, σ' = [some (.ref a), some (.ref b), some (.ref U), none] ∧ Same H H' ∧ H' U = some (.lst (((possC B (A.stars ++ B.stars)).filter fun x => isC B x && !isC A x).map V.int)), ?_, ?_⟩
    · refine ⟨_, rfl, _, rfl, a, b, A, B, rfl, hA, hB, gA, gB, fun N H1 s1 hN => ?_⟩
      generalize possC B (A.stars ++ B.stars) = T at hN hln hball ⊢
      refine ⟨N, rfl, ⟨_, SqL.of hN⟩, fun D nD => ?_⟩
      refine lc_list (K := K) (a := N) (xs := T.map V.int) (fun i H2 => Same H1 H2 ∧ H2 D = some (.lst (((T.take i).filter fun x => isC B x && !isC A x).map V.int))) ⟨same_upd nD, upd_same⟩ (fun i H2 _ h => SqL.of (h.1 _ _ hN)) ?_ ?_
      · rintro i x H2 hi ⟨sm, hD⟩
        rw [List.getElem?_map] at hi
        cases hy : T[i]? with
        | none => rw [hy] at hi; cases hi
        | some y =>
          rw [hy] at hi
          cases hi
          have hb := hball y (List.mem_of_getElem? hy)
          have et : (T.take (i + 1)).filter (fun x => isC B x && !isC A x) = (T.take i).filter (fun x => isC B x && !isC A x) ++ (if (isC B y && !isC A y) = true then [y] else []) := by
            rw [List.take_add_one, hy, List.filter_append]
            congr 1
            show List.filter _ [y] = _
            rw [List.filter_cons]
            rfl
          have no : (isC B y && !isC A y) = false → ∀ {H3 : Hp}, Same H2 H3 → Same H1 H3 ∧ H3 D = some (.lst (((T.take (i + 1)).filter fun x => isC B x && !isC A x).map V.int)) := fun e H3 s3 => by
            refine ⟨sm.trans s3, ?_⟩
            rw [et, e, if_neg Bool.false_ne_true, List.append_nil]
            exact s3 _ _ hD
          refine ⟨rfl, _, rfl, _, rfl, b, B, y, rfl, (LadAt.same s1 hB).same sm, gB, hb.1, by omega, fun H3 s3 => ?_⟩
          refine ⟨_, rfl, ?_⟩
          cases eB : isC B y with
          | false =>
            refine iteF ?_
            exact iteF (no (by rw [eB]; rfl) s3)
          | true =>
            refine iteT ?_
            refine ⟨_, rfl, _, rfl, a, A, y, rfl, ((LadAt.same s1 hA).same sm).same s3, gA, hb.1, by omega, fun H4 s4 => ?_⟩
            refine ⟨_, rfl, ?_⟩
            cases eA : isC A y with
            | true => exact iteF (no (by rw [eB, eA]; rfl) (s3.trans s4))
            | false =>
              refine iteT ?_
              have s24 := s3.trans s4
              refine ⟨.int y, rfl, _, s24 _ _ hD, ?_, fun x o ex => ?_, ?_⟩
              · rw [List.length_map]
                have k1 : ((T.take i).filter fun x => isC B x && !isC A x).length ≤ 84 := Nat.le_trans (List.length_filter_le _ _) (by rw [List.length_take]; omega)
                exact Nat.lt_of_le_of_lt k1 (by decide)
              · rw [upd_ne (ne_of_none ex nD)]
                exact s24 _ _ (sm _ _ ex)
              · rw [upd_same, et, eB, eA, if_pos (show (true && !false) = true from rfl), List.map_append]
                rfl
      · rintro H2 ⟨sm, hD⟩
        rw [List.length_map, List.take_of_length_le (Nat.le_refl _)] at hD
        exact ⟨D, rfl, s1.trans sm, hD⟩
    rintro σ' H1 ⟨U, rfl, s1, hU⟩
    obtain ⟨F, eF⟩ : ∃ F, ((possC B (A.stars ++ B.stars)).filter fun x => isC B x && !isC A x) = F := ⟨_, rfl⟩
    have hF : ∀ x, x ∈ F ↔ x ∈ possC B (A.stars ++ B.stars) ∧ isC B x = true ∧ ¬ isC A x = true := fun x => by
      rw [← eF, List.mem_filter, Bool.and_eq_true]
      constructor
      · rintro ⟨h1, h2, h3⟩
        exact ⟨h1, h2, fun k => by rw [k] at h3; cases h3⟩
      · rintro ⟨h1, h2, h3⟩
        exact ⟨h1, h2, by rw [Bool.eq_false_iff.mpr h3]; rfl⟩
    rw [eF] at hU
    refine ⟨_, rfl, _, .inl ⟨_, SqL.of hU, rfl⟩, ?_⟩
    cases F with
    | nil =>
      refine iteT ?_
      exact q0 H1 s1 (hfin1 fun x hx hh => by
        have := (hF x).mpr ⟨hx, hh⟩
        cases this)
    | cons f0 fr =>
      refine iteF ?_
      refine ⟨_, rfl, U, _, rfl, SqL.of hU, Nat.succ_pos _, fun m hm hl => ?_⟩
      refine ⟨_, 1, rfl, rfl, _, rfl, U, _, rfl, SqL.of hU, Nat.succ_pos _, fun m' hm' hl' => ⟨(by show 2 ≤ sizeLine; decide), fun r nr => ?_⟩⟩
      have em : m = m' := by
        have h1 := hl m' hm'
        have h2 := hl' m hm
        omega
      subst em
      obtain ⟨h1, h2, h3⟩ := (hF m).mp hm
      exact q1 m r _ (s1.trans (same_upd nr)) (hfin2 m h1 h2 h3 fun x hx hb ha => hl x ((hF x).mpr ⟨hx, hb, ha⟩)) (SqT.of upd_same)
theorem ok_tells {C : Addr} (d : Dd K mg "tells" sTells ["ladder", "other"]) (dU : Dd K mg "first_untold" sFirstT ["ladder", "other"])
    (GU' : FnOk P w K mg base CX0 7 dU.f dU.fd ["ladder", "other"] (spFirstT K C)) : FnOk P w K mg base CX0 8 d.f d.fd ["ladder", "other"] (spTells K C) := by
  refine d.F.ok scTells (fun vs H Q E h => ?_) (fun cdv A0 outer s H vs Q E hr h => ?_)
  · obtain ⟨_, _, _, _, rfl, _⟩ := h
    rfl
  · obtain ⟨a, b, A, B, rfl, hA, hB, gA, gB, q⟩ := h
    refine ⟨_, pss_one (ps_ret (pe_cmp (pc_isN (pe_call GU' hr (by rfl) dU.g dU.F.kp dU.b .nil pass0 (pa_cons (pv 0) (pa_cons (pv 1) pa_nil)))))), ?_⟩
    exact ⟨_, rfl, _, rfl, a, b, A, B, rfl, hA, hB, gA, gB, fun H1 s1 hu => q none H1 s1 hu, fun n p H1 s1 hu _ => q (some n) H1 s1 hu⟩
end
end My

namespace My
open PySem PySem.Spec PyProof.Rows L2
/-! ### what follows for ladders that tell -/
theorem untold_self {A : Lad} {r : Option Int} (h : Untold A A r) : r = none := by
  cases r with
  | none => rfl
  | some n => exact absurd h.2.2.1 h.2.2.2.1
theorem untold_alike {A B : Lad} (gA : A.Ok) (gB : B.Ok) {r : Option Int} (ha : ∀ x, 0 ≤ x → x < 10 ^ 38 → A.show x = B.show x) (h : Untold A B r) : r = none := by
  cases r with
  | none => rfl
  | some n =>
    exfalso
    obtain ⟨n1, n2, hB, hA, _⟩ := h
    have e1 := (shown_same' gA (show 0 ≤ n - 1 by omega) (show 0 ≤ n by omega) (by omega) (by omega)).mpr (Classical.not_not.mp hA)
    refine hB ((shown_same' gB (show 0 ≤ n - 1 by omega) (show 0 ≤ n by omega) (by omega) (by omega)).mp ?_)
    have a1 := ha (n - 1) (by omega) (by omega)
    have a2 := ha n (by omega) (by omega)
    exact a1.symm.trans (e1.trans a2)
theorem untold_trans {A B D : Lad} {r : Option Int} (h1 : Untold A B none) (h2 : Untold B D none) (h : Untold A D r) : r = none := by
  cases r with
  | none => rfl
  | some n => exact absurd (h1 n h.1 (h2 n h.1 h.2.2.1)) h.2.2.2.1
/-- the range of a figure lies in that of a ladder that hides no more -/
theorem nested {us us' : List (Str × Int)} {d d' : Nat} {s s' : Str} {c c' : Bool} {l l' x : Int} (g : Good us d s l) (g' : Good us' d' s' l') (x0 : 0 ≤ x) {p p' : Nat} {m m' : Int} (e : placedM us d s c l x = (p, m)) (e' : placedM us' d' s' c' l' x = (p', m'))
    (h : ∀ y, 1 ≤ y → y ≤ highM us d s c l p m → Chg us' d' s' c' l' y → Chg us d s c l y) : lowM us' d' s' c' l' p' m' ≤ lowM us d s c l p m ∧ highM us d s c l p m ≤ highM us' d' s' c' l' p' m' := by
  have hin := in_range g x0 e
  obtain ⟨k1', k2', _⟩ := placedM_ok (c := c) g x0
  obtain ⟨j1', j2', _⟩ := placedM_ok (c := c') g' x0
  rw [e] at k1' k2'
  rw [e'] at j1' j2'
  have k1 : p < us.length := k1'
  have k2 : 0 ≤ m := k2'
  have j1 : p' < us'.length := j1'
  have j2 : 0 ≤ m' := j2'
  have l0 := low_nn (c := c) g k1 m
  have same : ∀ y, lowM us d s c l p m ≤ y → y ≤ highM us d s c l p m → placedM us d s c l y = (p, m) := fun y h1 h2 => (range_iff g (by omega) k1 k2).mpr ⟨h1, h2⟩
  have key : ∀ k : Nat, lowM us d s c l p m + (k : Int) ≤ highM us d s c l p m → placedM us' d' s' c' l' (lowM us d s c l p m + (k : Int)) = placedM us' d' s' c' l' (lowM us d s c l p m) := by
    intro k
    induction k with
    | zero => intro _; rw [show lowM us d s c l p m + ((0 : Nat) : Int) = lowM us d s c l p m by omega]
    | succ k ih =>
      intro hk
      have i1 := ih (by omega)
      rw [← i1]
      refine Classical.byContradiction fun w => ?_
      have e1 : lowM us d s c l p m + ((k + 1 : Nat) : Int) - 1 = lowM us d s c l p m + (k : Int) := by omega
      refine h (lowM us d s c l p m + ((k + 1 : Nat) : Int)) (by omega) hk (fun v => w ?_) ?_
      · rw [e1] at v
        exact v.symm
      · rw [e1, same _ (by omega) (by omega), same _ (by omega) hk]
  have all : ∀ y, lowM us d s c l p m ≤ y → y ≤ highM us d s c l p m → placedM us' d' s' c' l' y = (p', m') := fun y h1 h2 => by
    have a := key (y - lowM us d s c l p m).toNat (by omega)
    have b := key (x - lowM us d s c l p m).toNat (by omega)
    rw [show lowM us d s c l p m + ((y - lowM us d s c l p m).toNat : Int) = y by omega] at a
    rw [show lowM us d s c l p m + ((x - lowM us d s c l p m).toNat : Int) = x by omega] at b
    rw [a, ← b, e']
  have a1 := (range_iff g' l0 j1 j2).mp (all _ (Int.le_refl _) (by omega))
  have a2 := (range_iff g' (show 0 ≤ highM us d s c l p m by omega) j1 j2).mp (all _ (by omega) (Int.le_refl _))
  exact ⟨a1.1, a2.2⟩
/-- with down, more decimals tell fewer -/
theorem fine_tells {us : List (Str × Int)} {d : Nat} {c : Bool} {l n : Int} (g : Good us (d + 1) "down" l) (g' : Good us d "down" l) (n1 : 1 ≤ n) (h : ¬ Chg us (d + 1) "down" c l n) : ¬ Chg us d "down" c l n := by
  have e := Classical.not_not.mp h
  intro hc
  refine hc ?_
  rw [placed_down g (by omega), placed_down g (by omega)] at e
  rw [placed_down g' (by omega), placed_down g' (by omega)]
  obtain ⟨e1, e2⟩ := Prod.mk.inj e
  have st1 : ∀ x, 0 ≤ x → stOf us d l x = if placeOf us l x = 0 then 1 else 10 * stOf us (d + 1) l x := fun x x0 => by
    have hp := place_lt g x0
    split
    · rename_i k
      unfold stOf
      rw [k]
      rfl
    · rename_i k
      have z1 := sz_step g (k := placeOf us l x) (by omega) hp
      have z2 := sz_step g' (k := placeOf us l x) (by omega) hp
      unfold stOf
      rw [z1, Int.pow_succ, Int.mul_comm (10 ^ d) 10, ← Int.mul_assoc, Int.mul_comm _ 10] at z2
      have pw := pow_lo d
      have := Int.eq_of_mul_eq_mul_right (show (10 ^ d : Int) ≠ 0 by omega) z2
      exact this.symm
  refine Prod.ext e1 ?_
  show (n - 1) / stOf us d l (n - 1) = n / stOf us d l n
  rw [st1 (n - 1) (by omega), st1 n (by omega), e1]
  split
  · rename_i k
    have : stOf us (d + 1) l (n - 1) = 1 := by unfold stOf; rw [e1, k]; rfl
    have k2 : stOf us (d + 1) l n = 1 := by unfold stOf; rw [k]; rfl
    rw [this, k2] at e2
    exact e2
  · have p1 := st_pos g (show 0 ≤ n - 1 by omega)
    have p2 := st_pos g (show 0 ≤ n by omega)
    rw [Int.mul_comm 10, Int.mul_comm 10, ← Int.ediv_ediv_of_nonneg (by omega), ← Int.ediv_ediv_of_nonneg (by omega), e2]
end My

namespace My
open PySem PySem.Spec PyProof.Rows L2
/-! ### numbers whose worth is shown by another figure -/
theorem rnd_exact {m st : Int} {s : Str} (h0 : 0 < st) : rnd (m * st) st s = m := by
  have e1 : m * st / st = m := Int.mul_ediv_cancel m (by omega)
  have e2 : m * st % st = 0 := Int.mul_emod_left m st
  unfold rnd goesUp
  rw [e1, e2]
  have k1 : decide ((0 : Int) < 0) = false := rfl
  have k2 : decide (st ≤ 2 * 0) = false := decide_eq_false (by omega)
  have k3 : decide (st < 2 * 0) = false := decide_eq_false (by omega)
  have k4 : decide (2 * 0 = st) = false := decide_eq_false (by omega)
  rw [k1, k2, k3, k4]
  simp
theorem firstR_low {m st : Int} {s : Str} (h : Stp st s) (m1 : 1 ≤ m) : (m - 1) * st ≤ firstR m st s := by
  have hp := h.pos
  have e : m * st = (m - 1) * st + st := by rw [Int.sub_mul, Int.one_mul]; omega
  unfold firstR
  split
  · omega
  · split
    · omega
    · split <;> omega
/-- a mark of a unit is one of those from its first one on -/
theorem fm_mark {us : List (Str × Int)} {d : Nat} {s : Str} {c : Bool} {l x : Int} (g : Good us d s l) (x0 : 0 ≤ x) {p : Nat} {m : Int} (e : placedM us d s c l x = (p, m)) : p < us.length ∧ fmM us d l p ≤ m ∧ m = rnd x ((stepsOf us d).getD p 0) s ∧ startM us d s c l p ≤ x := by
  obtain ⟨a1, _, _⟩ := placedM_ok (c := c) g x0
  have es := placed_snd us d s c l x
  have h1 := (place_ge (c := c) g x0 a1).mp (Nat.le_refl _)
  rw [e] at a1 es h1
  have a1' : p < us.length := a1
  have es' : m = rnd x ((stepsOf us d).getD p 0) s := es
  have h1' : startM us d s c l p ≤ x := h1
  obtain ⟨_, st0, _⟩ := steps_ok g a1'
  have := rnd_mono (s := s) g.srt (step_even g a1') st0 (start_nn (c := c) g a1') h1'
  rw [start_mark (c := c) g a1', ← es'] at this
  exact ⟨a1', this, es', h1'⟩
/-- a worth is shown by its own figure, unless it lies behind the end of its unit -/
theorem drift_iff {us : List (Str × Int)} {d : Nat} {s : Str} {c : Bool} {l x : Int} (g : Good us d s l) (x0 : 0 ≤ x) (x1 : x ≤ 100000000000000000000000000000) {p : Nat} {m : Int} (e : placedM us d s c l x = (p, m)) :
    shown us d s c l (m * (stepsOf us d).getD p 0) ≠ shown us d s c l x ↔ p + 1 < us.length ∧ startM us d s c l (p + 1) ≤ m * (stepsOf us d).getD p 0 := by
  obtain ⟨hp, hf, hm, hs⟩ := fm_mark g x0 e
  obtain ⟨_, st0, st1⟩ := steps_ok g hp
  obtain ⟨ef, f0⟩ := thr_fm g hp
  have hsl := start_le_thr (c := c) g hp
  have m0 : 0 ≤ m := by omega
  have w0 : 0 ≤ m * (stepsOf us d).getD p 0 := Int.mul_nonneg m0 (by omega)
  have wlo : fmM us d l p * (stepsOf us d).getD p 0 ≤ m * (stepsOf us d).getD p 0 := Int.mul_le_mul_of_nonneg_right hf (by omega)
  have hge := (place_ge (c := c) g w0 hp).mpr (by omega)
  have wb : m * (stepsOf us d).getD p 0 ≤ x + (stepsOf us d).getD p 0 := by
    have hd := Int.mul_ediv_add_emod x ((stepsOf us d).getD p 0)
    have hr := Int.emod_nonneg x (show (stepsOf us d).getD p 0 ≠ 0 by omega)
    have hm2 : m ≤ x / (stepsOf us d).getD p 0 + 1 := by
      rw [hm]
      unfold rnd
      split <;> omega
    have := Int.mul_le_mul_of_nonneg_right hm2 (show 0 ≤ (stepsOf us d).getD p 0 by omega)
    rw [Int.add_mul, Int.one_mul, Int.mul_comm (x / (stepsOf us d).getD p 0)] at this
    omega
  have same := shown_same' (c := c) g w0 x0 (by omega) (by omega)
  constructor
  · intro h
    refine Classical.byContradiction fun w => h (same.mpr ?_)
    have hlt := (placedM_ok (c := c) g w0).1
    have hle : (placedM us d s c l (m * (stepsOf us d).getD p 0)).1 ≤ p := by
      rcases Nat.lt_or_ge p (placedM us d s c l (m * (stepsOf us d).getD p 0)).1 with y | y
      · exfalso
        have hp1 : p + 1 < us.length := by omega
        exact w ⟨hp1, (place_ge (c := c) g w0 hp1).mp y⟩
      · exact y
    have ep : (placedM us d s c l (m * (stepsOf us d).getD p 0)).1 = p := by omega
    have es := placed_snd us d s c l (m * (stepsOf us d).getD p 0)
    rw [ep, rnd_exact st0] at es
    rw [e]
    exact Prod.ext ep es
  · rintro ⟨hp1, hle⟩ h
    have h2 := same.mp h
    have := (place_ge (c := c) g w0 hp1).mpr hle
    rw [h2, e] at this
    have this' : p + 1 ≤ p := this
    omega
/-- it is the last mark of its unit then -/
theorem drift_last {us : List (Str × Int)} {d : Nat} {s : Str} {c : Bool} {l x : Int} (g : Good us d s l) (x0 : 0 ≤ x) {p : Nat} {m : Int} (e : placedM us d s c l x = (p, m)) (hp : p + 1 < us.length) (h : startM us d s c l (p + 1) ≤ m * (stepsOf us d).getD p 0) : m = lmM us d s c l p := by
  obtain ⟨hp0, hf, hm, hs⟩ := fm_mark g x0 e
  obtain ⟨_, st0, _⟩ := steps_ok g hp0
  have hst := g.stp hp0
  have xlt : x < startM us d s c l (p + 1) := by
    rcases Int.lt_or_le x (startM us d s c l (p + 1)) with y | y
    · exact y
    · have := (place_ge (c := c) g x0 hp).mpr y
      rw [e] at this
      have this' : p + 1 ≤ p := this
      omega
  have hle : m ≤ lmM us d s c l p := by
    rw [hm]
    unfold lmM
    exact rnd_mono g.srt (step_even g hp0) st0 x0 (by omega)
  rcases Int.lt_or_le m (lmM us d s c l p) with y | y
  · exfalso
    have f0 := (thr_fm g hp0).2
    have k1 := (rnd_ge (n := startM us d s c l (p + 1) - 1) (m := lmM us d s c l p) hst.srt hst.even hst.pos (by omega) (by omega)).mp (Int.le_refl _)
    have k2 := firstR_low (m := lmM us d s c l p) hst (by omega)
    have k3 := Int.mul_le_mul_of_nonneg_right (show m ≤ lmM us d s c l p - 1 by omega) (show 0 ≤ (stepsOf us d).getD p 0 by omega)
    omega
  · omega
/-- what first_drift looks for -/
def DriftAt (us : List (Str × Int)) (d : Nat) (s : Str) (c : Bool) (l : Int) (p : Nat) : Prop := p + 1 < us.length ∧ startM us d s c l (p + 1) ≤ lmM us d s c l p * (stepsOf us d).getD p 0
def Drifts (us : List (Str × Int)) (d : Nat) (s : Str) (c : Bool) (l x : Int) : Prop := DriftAt us d s c l (placedM us d s c l x).1 ∧ (placedM us d s c l x).2 = lmM us d s c l (placedM us d s c l x).1
theorem drifts_iff {us : List (Str × Int)} {d : Nat} {s : Str} {c : Bool} {l x : Int} (g : Good us d s l) (x0 : 0 ≤ x) (x1 : x ≤ 100000000000000000000000000000) : shown us d s c l (worthM us d s c l x) ≠ shown us d s c l x ↔ Drifts us d s c l x := by
  have h := drift_iff (c := c) g x0 x1 (p := (placedM us d s c l x).1) (m := (placedM us d s c l x).2) rfl
  unfold worthM
  rw [h]
  constructor
  · rintro ⟨h1, h2⟩
    have e := drift_last (c := c) g x0 (p := (placedM us d s c l x).1) (m := (placedM us d s c l x).2) rfl h1 h2
    rw [e] at h2
    exact ⟨⟨h1, h2⟩, e⟩
  · rintro ⟨⟨h1, h2⟩, e⟩
    rw [← e] at h2
    exact ⟨h1, h2⟩
/-- the first number that drifts -/
def FirstDrift (us : List (Str × Int)) (d : Nat) (s : Str) (c : Bool) (l : Int) (r : Option Int) : Prop := match r with
  | none => ∀ p, ¬ DriftAt us d s c l p
  | some n => ∃ p, DriftAt us d s c l p ∧ (∀ q, q < p → ¬ DriftAt us d s c l q) ∧ n = lowM us d s c l p (lmM us d s c l p)
theorem lm_shown {us : List (Str × Int)} {d : Nat} {s : Str} {c : Bool} {l : Int} (g : Good us d s l) {p : Nat} (hp : p + 1 < us.length) : 0 ≤ lmM us d s c l p ∧ lowM us d s c l p (lmM us d s c l p) ≤ highM us d s c l p (lmM us d s c l p) := by
  have hp0 : p < us.length := by omega
  have h1 := lm_ge (c := c) g hp
  have f0 := (thr_fm g hp0).2
  exact ⟨by omega, is_shown g hp0 h1 (fun _ => Int.le_refl _)⟩
theorem first_drift {us : List (Str × Int)} {d : Nat} {s : Str} {c : Bool} {l : Int} (g : Good us d s l) {r : Option Int} (h : FirstDrift us d s c l r) : match r with
    | none => ∀ x, ¬ Drifts us d s c l x
    | some n => 0 ≤ n ∧ Drifts us d s c l n ∧ ∀ x, 0 ≤ x → x < n → ¬ Drifts us d s c l x := by
  cases r with
  | none => exact fun x hx => h _ hx.1
  | some n =>
    obtain ⟨p, hp, hq, e⟩ := h
    obtain ⟨l1, l2⟩ := lm_shown (c := c) g hp.1
    have hp0 : p < us.length := by have := hp.1; omega
    have pl := low_place (c := c) g hp0 l1 l2
    have n0 := low_nn (c := c) g hp0 (lmM us d s c l p)
    refine ⟨by omega, ?_, fun x x0 x1 hx => ?_⟩
    · unfold Drifts
      rw [e, pl]
      exact ⟨hp, rfl⟩
    · obtain ⟨hd, hm⟩ := hx
      rcases Nat.lt_trichotomy (placedM us d s c l x).1 p with y | y | y
      · exact hq _ y hd
      · have hin := in_range (c := c) g x0 (p := (placedM us d s c l x).1) (m := (placedM us d s c l x).2) rfl
        rw [hm, y] at hin
        omega
      · have k1 := (place_ge (c := c) g x0 hp.1).mp y
        have k2 := (place_ge (c := c) g n0 hp.1)
        rw [pl] at k2
        have : ¬ startM us d s c l (p + 1) ≤ lowM us d s c l p (lmM us d s c l p) := fun w => by
          have k3 : p + 1 ≤ p := k2.mpr w
          omega
        omega
end My

namespace My
open PySem PySem.Spec PyProof.Rows L2
theorem firstR_lt {m st : Int} {s : Str} (h : Stp st s) (m1 : 1 ≤ m) : (m - 1) * st < firstR m st s := by
  have hp := h.pos
  have he := h.even
  have e : m * st = (m - 1) * st + st := by rw [Int.sub_mul, Int.one_mul]; omega
  unfold firstR
  split
  · omega
  · split
    · omega
    · split <;> omega
theorem steady_of {us : List (Str × Int)} {d : Nat} {s : Str} {c : Bool} {l : Int} (g : Good us d s l) (h : c = true ∨ s = "down" ∨ us.length < 3) : ∀ p, ¬ DriftAt us d s c l p := by
  rintro p ⟨hp, hle⟩
  have hp0 : p < us.length := by omega
  obtain ⟨_, st0, _⟩ := steps_ok g hp0
  have hst := g.stp hp0
  have hs := start_strict (c := c) g hp
  have hn := start_nn (c := c) g hp0
  rcases h with h | h | h
  · subst h
    have es : startM us d s true l (p + 1) = firstR ((thrsOf us l).getD (p + 1) 0 / (stepsOf us d).getD p 0) ((stepsOf us d).getD p 0) s := by
      show (if p + 1 = 0 ∨ true = false then _ else firstR ((thrsOf us l).getD (p + 1) 0 / (stepsOf us d).getD (p + 1 - 1) 0) ((stepsOf us d).getD (p + 1 - 1) 0) s) = _
      rw [if_neg (by rintro (k | k) <;> cases k)]
      rfl
    obtain ⟨M, eM⟩ : ∃ M, (thrsOf us l).getD (p + 1) 0 / (stepsOf us d).getD p 0 = M := ⟨_, rfl⟩
    rw [eM] at es
    have t0 : 0 ≤ (thrsOf us l).getD (p + 1) 0 := by
      have := (thr_fm g hp).1
      have h2 := (thr_fm g hp).2
      obtain ⟨_, q1, _⟩ := steps_ok g hp
      rw [this]
      exact Int.mul_nonneg h2 (by omega)
    have M0 : 0 ≤ M := by rw [← eM]; exact Int.ediv_nonneg t0 (by omega)
    rcases Int.lt_or_le 0 M with y | y
    · have k1 := firstR_lt (m := M) hst (by omega)
      have k2 : ¬ M ≤ lmM us d s true l p := fun w => by
        have := (rnd_ge (n := startM us d s true l (p + 1) - 1) (m := M) hst.srt hst.even hst.pos (by omega) (by omega)).mp w
        omega
      have k3 := Int.mul_le_mul_of_nonneg_right (show lmM us d s true l p ≤ M - 1 by omega) (show 0 ≤ (stepsOf us d).getD p 0 by omega)
      omega
    · have z : M = 0 := by omega
      subst z
      have e0 : firstR 0 ((stepsOf us d).getD p 0) s = 0 * (stepsOf us d).getD p 0 := by
        unfold firstR
        rw [if_pos (.inl rfl)]
      rw [e0, Int.zero_mul] at es
      omega
  · subst h
    have e : lmM us d "down" c l p = (startM us d "down" c l (p + 1) - 1) / (stepsOf us d).getD p 0 := by
      unfold lmM rnd
      rw [goes_down, if_neg Bool.false_ne_true]
    rw [e] at hle
    have := Int.ediv_mul_le (startM us d "down" c l (p + 1) - 1) (b := (stepsOf us d).getD p 0) (by omega)
    omega
  · have z : p = 0 := by omega
    subst z
    have e1 : (stepsOf us d).getD 0 0 = 1 := rfl
    have e : lmM us d s c l 0 = startM us d s c l (0 + 1) - 1 := by
      unfold lmM
      rw [e1]
      have := rnd_exact (m := startM us d s c l (0 + 1) - 1) (st := 1) (s := s) (by decide)
      rw [Int.mul_one] at this
      exact this
    rw [e, e1] at hle
    omega
end My

namespace My
open PySem PySem.Spec PyProof.Rows L2
/-! ### first_drift, is_steady, the law's own drifts -/
abbrev sFirstD : Stmt := top 56
abbrev sSteady : Stmt := top 57
theorem scFirstD : FnScope ["ladder", "place", "mark", "low", "_"] ["ladder"] (defScope sFirstD) := ⟨rfl, rfl, rfl, by decide +kernel, rfl, by decide +kernel, by decide +kernel⟩
theorem scSteady : FnScope ["ladder"] ["ladder"] (defScope sSteady) := ⟨rfl, rfl, rfl, by decide +kernel, rfl, by decide +kernel, by decide +kernel⟩
def optI : Option Int → V
  | none => .non
  | some n => .int n
def spFirstD (K : PySem.W.Frag) (C : Addr) : Sp := fun vs H Q _ => ∃ (a : Addr) (us : List (Str × Int)) (d : Nat) (s : Str) (c : Bool) (l : Int), vs = [.ref a] ∧ LadAt K C H a us d s c l ∧ Good us d s l ∧ ∀ (r : Option Int) (H' : Hp), Same H H' → FirstDrift us d s c l r → Q (optI r) H'
def spSteady (K : PySem.W.Frag) (C : Addr) : Sp := fun vs H Q _ => ∃ (a : Addr) (us : List (Str × Int)) (d : Nat) (s : Str) (c : Bool) (l : Int), vs = [.ref a] ∧ LadAt K C H a us d s c l ∧ Good us d s l ∧ ∀ (r : Option Int) (H' : Hp), Same H H' → FirstDrift us d s c l r → Q (.bl r.isNone) H'
def spLDrifts (K : PySem.W.Frag) : Sp := fun vs H Q _ => ∃ (r : Addr) (us : List (Str × Int)) (d : Nat) (s : Str) (c : Bool) (l n : Int), vs = [.ref r, .int n] ∧ ToldAt K H r us d s c l ∧ Good us d s l ∧ 0 ≤ n ∧ n ≤ 10000000000000000000000000000 ∧ ∀ (b : Bool) (H' : Hp), Same H H' → (b = true ↔ Drifts us d s c l n) → Q (.bl b) H'
theorem firstDrift_one {us : List (Str × Int)} {d : Nat} {s : Str} {c : Bool} {l : Int} {r r' : Option Int} (h : FirstDrift us d s c l r) (h' : FirstDrift us d s c l r') : r = r' := by
  cases r with
  | none =>
    cases r' with
    | none => rfl
    | some m =>
      obtain ⟨p, hp, _⟩ := h'
      exact absurd hp (h p)
  | some n =>
    obtain ⟨p, hp, hq, e⟩ := h
    cases r' with
    | none => exact absurd hp (h' p)
    | some m =>
      obtain ⟨p', hp', hq', e'⟩ := h'
      rcases Nat.lt_trichotomy p p' with y | y | y
      · exact absurd hp (hq' p y)
      · subst y
        rw [e, e']
      · exact absurd hp' (hq p' y)
theorem kb_one {K : PySem.W.Frag} {mg : Str → Option Value} {x : Str} {st : Stmt} (d : Dd K mg x st ["ladder"]) (h : ∀ (kV doc pm : Value) (an : Option Addr) (cdv ct : Value) (u : Value), bindArgs (PySem.W.fnOf x x (defArgs st) (defBody st) (defScope st) .none kV doc pm an cdv ct) ⟨[], [("ladder", u)]⟩ = pure [(("ladder" : Str), u)]) : KBn K d.fd ["ladder"] 0 ["ladder"] (fun _ ws => ws) (fun _ ws => ws) := by
  obtain ⟨oc, od, kV, doc, pm, an, cdv, ct, osl, e, _⟩ := d.F.ex
  rw [e]
  refine ⟨fun s us ws _ h1 h2 => ?_, fun _ h2 => h2⟩
  match us, ws, h1, h2 with
  | [], [u], _, _ => exact .of_eq (h ..)
section
variable {X : Cx}
/-- repr of an int or None -/
theorem call_repr_opt : CallR X (.builtin "repr") (fun xs H Q => ∃ o : Option Int, xs = [optI o] ∧ (∀ i, o = some i → i.natAbs.log2 < 1920) ∧ Q (.str (match o with | none => "None" | some i => Str.ofString (toString i))) H) := by
  intro pins s σ H xs us Q I r h
  obtain ⟨o, rfl, hz, q⟩ := h
  cases o with
  | none =>
    obtain ⟨u, rfl, hu⟩ := vals1 r
    cases hu
    exact PySem.P.repr_of_none ⟨.str _, H, I.tok _, ⟨_, rfl⟩, q⟩
  | some i =>
    obtain ⟨u, rfl, t, rfl⟩ := vals1 r
    exact PySem.P.repr_of_int (hz i rfl) ⟨.str _, H, I.tok _, ⟨_, rfl⟩, q⟩
end
section
variable {P : Program} {w : World} {K : PySem.W.Frag} {mg : Str → Option Value} {base : Heap}
theorem ok_firstd (d : Dd K mg "first_drift" sFirstD ["ladder"]) (dC : Dd K mg "check_ladder" sCLad ["ladder"]) (dL : Dd K mg "last_mark" sLastMark ["ladder", "place"]) (dS : Dd K mg "start_of" sStartOf ["ladder", "place"]) (dN : Dd K mg "numbers_shown" sNums ["ladder", "place", "mark"]) (L : LadC K mg) (B : Bt mg)
    (GC : FnOk P w K mg base CX0 2 dC.f dC.fd ["ladder"] (spCLad K L.C)) (GL : FnOk P w K mg base CX0 4 dL.f dL.fd ["ladder", "place"] (spLastMark K L.C)) (GS : FnOk P w K mg base CX0 3 dS.f dS.fd ["ladder", "place"] (spStartOf K L.C)) (GN : FnOk P w K mg base CX0 4 dN.f dN.fd ["ladder", "place", "mark"] (spNums K L.C)) :
    FnOk P w K mg base CX0 5 d.f d.fd ["ladder"] (spFirstD K L.C) := by
  refine d.F.ok scFirstD (fun vs H Q E h => ?_) (fun cdv A outer s H vs Q E hr h => ?_)
  · obtain ⟨_, _, _, _, _, _, rfl, _⟩ := h
    rfl
  · obtain ⟨a, us, dn, z, c, l, rfl, hL, g, q⟩ := h
    have hr1 : Room 2 _ := hr.mono (by decide)
    have hr2 : Room 3 _ := hr.mono (by decide)
    have nd := scFirstD.nd
    refine ⟨_, pss_cons (ps_expr (pe_call GC hr1 (by rfl) dC.g dC.F.kp dC.b .nil pass0 (pa_cons (pv 0) pa_nil)))
      (pss_cons (ps_for PassesOwn.never rfl (pi_range1 rfl B.range (pa_cons (pe_op op_sub (pe_callB call_len_seq (by rfl) B.len PySem.boot_len (pa_cons (pe_fld (pv 0) rfl) pa_nil)) pe_int) pa_nil)) (pg_name (i := 1) nd rfl (.inl rfl))
        (pss_cons (ps_set (i := 2) nd rfl (.inl rfl) (pe_call GL hr (by rfl) dL.g dL.F.kp dL.b .nil pass0 (pa_cons (pv 0) (pa_cons (pv 1) pa_nil))))
        (pss_one (ps_if (pt_cmpR op_ge (pe_op op_mul (pv 2) (pe_ix ix_tup (pe_fld (pv 0) rfl) (pv 1) (fun _ _ => rfl))) (pe_call GS hr2 (by rfl) dS.g dS.F.kp dS.b .nil pass0 (pa_cons (pv 0) (pa_cons (pe_op op_add (pv 1) pe_int) pa_nil))) (nomark _))
          (pss_cons (ps_asg (pe_call GN hr (by rfl) dN.g dN.F.kp dN.b .nil pass0 (pa_cons (pv 0) (pa_cons (pv 1) (pa_cons (pv 2) pa_nil)))) (pg_tup rfl (pgs_cons (pg_name (i := 3) nd rfl (.inl rfl)) (pgs_cons (pg_name (i := 4) nd rfl (.inl rfl)) pgs_nil))))
          (pss_one (ps_ret (pv 3)))) pss_nil))))
      (pss_one (ps_ret pe_non))), ?_⟩
    refine ⟨_, rfl, a, us, dn, z, c, l, rfl, hL, ?_⟩
    obtain ⟨dx, ua, t, st, th, hp, hUA, ht, hs, hth⟩ := id hL
    obtain ⟨ps, hua, hup⟩ := id hUA
    have el := UP.len hup
    have hlo := g.u.lo
    have hhi := g.u.hi
    refine ⟨_, rfl, a, L.C, dx, _, _, rfl, hp, L.cl, L.nUnits, fl_units .., ua, _, rfl, .inr hua, _, 1, rfl, rfl, _, rfl, by rw [List.length_map]; omega, by rw [List.length_map]; omega, ?_⟩
    rw [List.length_map, el, show ((us.length : Int) - 1).toNat = us.length - 1 by omega]
    refine for_range (lo := 0) (n := us.length - 1) (fun i σ H' => (∃ v1 v2, σ = [some (.ref a), v1, v2, none, none]) ∧ Same H H' ∧ ∀ q, q < i → ¬ DriftAt us dn z c l q) ⟨⟨_, _, rfl⟩, Same.refl _, fun q hq => absurd hq (Nat.not_lt_zero _)⟩ ?_ ?_
    · rintro i σ H1 hi ⟨⟨v1, v2, rfl⟩, s1, hq⟩
      have ei : (0 : Int) + (i : Int) = (i : Int) := by omega
      have hi1 : i + 1 < us.length := by omega
      obtain ⟨k1, k2, k3⟩ := steps_ok g (show i < us.length by omega)
      obtain ⟨l1, l2⟩ := lm_shown (c := c) g hi1
      refine ⟨_, rfl, _, rfl, a, us, dn, z, c, l, i, by rw [ei]; rfl, LadAt.same s1 hL, g, hi1, fun H2 s2 => ?_⟩
      have s02 := s1.trans s2
      refine ⟨_, rfl, _, rfl, a, L.C, dx, _, _, rfl, s02 _ _ hp, L.cl, L.nSteps, fl_steps .., _, rfl, st, _, (0 : Int) + (i : Int), .int ((stepsOf us dn).getD i 0), rfl, rfl, same_sqt s02 hs, by rw [ei]; exact atI_nat (by rw [List.getElem?_map, k1]; rfl), _, _, rfl, rfl, .inr ⟨by omega, by omega⟩, ?_⟩
      refine ⟨_, rfl, _, rfl, _, 1, rfl, rfl, a, us, dn, z, c, l, i + 1, by rw [ei]; rfl, LadAt.same s02 hL, g, hi1, _, _, rfl, rfl, _, rfl, ite2 (fun e => ?_) (fun e => ?_)⟩
      · have e' : lmM us dn z c l i * (stepsOf us dn).getD i 0 ≥ startM us dn z c l (i + 1) := of_decide_eq_true e
        refine ⟨_, rfl, _, rfl, _, rfl, a, us, dn, z, c, l, i, lmM us dn z c l i, by rw [ei]; rfl, LadAt.same s02 hL, g, by omega, fun k => absurd k (by omega), fun _ rr H3 s3 hrr => ?_⟩
        exact ⟨rr, _, rfl, hrr, rfl, _, _, rfl, _, _, rfl, rfl, _, rfl, q (some (lowM us dn z c l i (lmM us dn z c l i))) H3 (s02.trans s3) ⟨i, ⟨hi1, e'⟩, hq, rfl⟩⟩
      · have e' : ¬ lmM us dn z c l i * (stepsOf us dn).getD i 0 ≥ startM us dn z c l (i + 1) := fun k => e (decide_eq_true k)
        refine ⟨⟨_, _, rfl⟩, s02, fun q hq2 hd => ?_⟩
        rcases Nat.lt_or_ge q i with y | y
        · exact hq q y hd
        · have : q = i := by omega
          subst this
          exact e' hd.2
    · rintro σ H1 ⟨⟨v1, v2, rfl⟩, s1, hq⟩
      refine q none H1 s1 fun p hp => ?_
      exact hq p (by have := hp.1; omega) hp
theorem ok_steady {C : Addr} (d : Dd K mg "is_steady" sSteady ["ladder"]) (dF : Dd K mg "first_drift" sFirstD ["ladder"]) (GF : FnOk P w K mg base CX0 5 dF.f dF.fd ["ladder"] (spFirstD K C)) : FnOk P w K mg base CX0 6 d.f d.fd ["ladder"] (spSteady K C) := by
  refine d.F.ok scSteady (fun vs H Q E h => ?_) (fun cdv A outer s H vs Q E hr h => ?_)
  · obtain ⟨_, _, _, _, _, _, rfl, _⟩ := h
    rfl
  · obtain ⟨a, us, dn, z, c, l, rfl, hL, g, q⟩ := h
    refine ⟨_, pss_one (ps_ret (pe_cmp (pc_isN (pe_call GF hr (by rfl) dF.g dF.F.kp dF.b .nil pass0 (pa_cons (pv 0) pa_nil))))), ?_⟩
    refine ⟨_, rfl, a, us, dn, z, c, l, rfl, hL, g, fun r H1 s1 hr => ?_⟩
    cases r with
    | none => exact q none H1 s1 hr
    | some n => exact q (some n) H1 s1 hr
end
end My

namespace My
open PySem PySem.Spec PyProof.Rows L2
/-! ### defs that are called while nothing is being displayed -/
/-- what a def keeps to, where no display of anything is under way -/
structure FnG (P : Program) (w : World) (K : PySem.W.Frag) (mg : Str → Option Value) (base : Heap) (k : Nat) (f : Addr) (fd : FuncData) (ps : List Str) (sp : Sp) : Prop where
  len : ∀ xs M Q E, sp xs M Q E → xs.length = ps.length
  run : ∀ (A : Around) (up : List Env) (t : Shared) (M : Hp) (given : Args) (us : List Value) (xs : List V) (Q : VK) (E : XK),
    A.guards = some [] → Room k A → Env0 P w K mg base A up t M → BindsTo t fd given (ps.zip us) → Vals xs us → sp xs M Q E → codeAny (model P w) A (.call (.ref f) given) (CR CX0 up P w M t Q E) t
section
variable {P : Program} {w : World} {K : PySem.W.Frag} {mg : Str → Option Value} {base : Heap}
theorem FnG.of {k : Nat} {f : Addr} {fd : FuncData} {ps : List Str} {sp : Sp} (F : FnOk P w K mg base CX0 k f fd ps sp) : FnG P w K mg base k f fd ps sp :=
  ⟨F.len, fun A up t M given us xs Q E _ => F.run A up t M given us xs Q E⟩
theorem Fun_okG {x qual : Str} {st : Stmt} {f : Addr} {fd : FuncData} {N ps : List Str} {k : Nat} {sp : Sp} (F : Fun K x qual st f fd) (S : FnScope N ps (defScope st)) (len : ∀ xs M Q E, sp xs M Q E → xs.length = ps.length)
    (body : ∀ (cdv : Value) (A : Around) (up : List Env) (s : Shared) (M : Hp) (xs : List V) (Q : VK) (E : XK), A.guards = some [] → Room k (A.deeper (envOfC qual (defScope st) s.heap.objs.size f cdv)) → sp xs M Q E →
      ∃ t, PSs (cxOf CX0 P w K mg base N qual (defScope st) f cdv A up s M E).nox (defBody st) t ∧ t { nx := fun _ M' => Q .non M', rt := Q } (start N xs) M) : FnG P w K mg base (k + 1) f fd ps sp := by
  obtain ⟨oc, od, kV, doc, pm, an, cdv, ct, osl, rfl, look, hc⟩ := F.ex
  refine ⟨len, fun A up s M given us xs Q E gd room en bd rel want => ?_⟩
  have inK : K.In s.heap := en.mod.kin.keeps fun b o e => (en.bs b o e).1
  have free := en.mod.nolimit.keeps (h' := s.heap) fun b o e => (en.bs b o e).1
  have many := len _ _ _ _ want
  have kinds : ∀ y ∈ ps.zip us, (defScope st).names.lookup y.1 = some .local ∨ ((defScope st).names.lookup y.1 = some .cell ∧ ((cellsFrom (s.heap.objs.size + 1) (defScope st).names []).lookup y.1).isSome = true) := by
    rintro ⟨n, v⟩ hy
    rcases S.par n (List.of_mem_zip hy).1 with z | z
    · exact .inl z
    · exact .inr ⟨z, PySem.W.cellsFrom_some _ _ _ (.inl z)⟩
  refine codeAny_call_function room.depth (inK _ _ look) rfl S.co S.gen rfl (PySem.W.codeRec_of inK hc) (bd _ _ _ _ ?_)
  refine wpAny_newFunctionEnv_cells S.kind kinds fun env same s1 made => ?_
  subst same
  refine ⟨free.keeps made.toInCall.keep, codeAny_func ?_⟩
  obtain ⟨t, h0, q⟩ := body cdv A up s M xs Q E gd (room.deeper _) want
  have h1 := h0.nox
  have J := inv_start (CX := CX0) (E := E) S room.hd en many rel made
  refine wpAny_mono (h1.run [] s1 (start N xs) M _ J q) (fun fl s' z => ?_) fun e s' z => z
  cases fl with
  | ret u =>
    obtain ⟨v, σ', M', I, rv, hq⟩ := z
    exact ⟨v, M', I.os, I.bare, I.base, I.hok, rv, hq⟩
  | next =>
    obtain ⟨σ', M', I, hq⟩ := z
    exact ⟨V.non, M', I.os, I.bare, I.base, I.hok, rfl, hq⟩
  | brk => exact z.elim fun _ z => z.elim fun _ z => z.2.elim
  | cont => exact z.elim fun _ z => z.elim fun _ z => z.2.elim
end
section
variable {X : Cx} {k : Nat} {f : Addr} {fd : FuncData} {ps : List Str} {sp : Sp} {E : XK}
/-- f(e, ..) of such a def -/
theorem pe_callG {x : Str} {e : Expr} {es : List Expr} {t : TA} {p pos : Pos} (F : FnG X.prog X.w X.K X.mg X.base k f fd ps sp) (gd : X.A.guards = some []) (hr : Room k X.A) (hg : Gl X x) (hm : X.mg x = some (.ref f)) (hk : PySem.W.keepIn X.K (.ref f) = true) (hb : Binds X.K fd ps [])
    (hx : Passes CX0 X E) (ha : PA X (e :: es) t) (hdb : (x == ("__debug__" : Str)) = false := by decide) (he : starEach (e :: es) X.env = (false, eval e X.env) :: starEach es X.env := by rfl) (hpl : (backTo pos (starEach es X.env)).any (·.1) = false := by rfl) :
    PE X (.Call (.Name x p) (e :: es) [] pos) (tCall sp [] E t) := by
  refine ⟨fun pins s σ M Q I h => wpAny_Call_Name_kw (ld_glob I hg hm ?_ hdb)⟩
  refine PySem.W.callWith_K (h₀ := X.base) I.ok.mod.kin hk (thn (ha.run pos pins s σ M _ I h) fun us s1 ⟨xs, M1, J, r, q⟩ => ⟨J.kIn, ?_⟩) he hpl
  have q : sp (xs ++ []) M1 Q E := q
  rw [List.append_nil] at q
  have hl : us.length = ps.length := by rw [← r.length]; exact F.len _ _ _ _ q
  have bd : BindsTo s1 fd ⟨us, []⟩ (ps.zip us) := by
    have z := hb s1 us J.kIn (by rw [List.append_nil]; exact hl)
    rw [List.append_nil] at z
    exact z
  refine wpAny_call (codeAny_mono (F.run X.A X.stack s1 M1 ⟨us, []⟩ us xs Q E gd hr J.env0 bd r q) fun res s' z => ?_)
  cases res with
  | error v => exact hx pins σ M1 s1 v s' J z
  | ok fl =>
    cases fl with
    | ret u => exact J.after z
    | next => exact z.elim
    | brk => exact z.elim
    | cont => exact z.elim
/-- repr of data -/
theorem call_reprD (gd : X.A.guards = some []) (hu : X.A.units + 66 < cLine) : CallR X (.builtin "repr") (fun xs M Q => ∃ (a : Addr) (d : PyData), xs = [.ref a] ∧ Dp X.K M (.ref a) d ∧ d.showable = true ∧ d.hasDict = false ∧ d.depth ≤ 64 ∧ d.shown.length ≤ sizeLine ∧ Q (.str d.shown) M) := by
  intro pins s σ M xs us Q I r h
  obtain ⟨a, d, rfl, hd, h1, h2, h3, h4, q⟩ := h
  obtain ⟨u, rfl, hu1⟩ := vals1 r
  cases hu1
  obtain ⟨as, rd⟩ := Dp.reads I d (.ref a) (.ref a) hd rfl
  refine repr_of_reads' rd h1 (PyData.noDict_hsm h2) gd (by omega) (fun _ _ e => e) (fun h' u tk hk => ?_) h4
  exact ⟨.str d.shown, M, I.kept hk, ⟨u, rfl⟩, q⟩
end
/-! ### the law's own promise, at the heap behind the top -/
theorem ints_vals : ∀ {vs : List Value} {ns : List Int}, IntsAre vs ns → Vals (ns.map V.int) vs
  | _, _, .nil => .nil
  | _, _, .cons _ tok more => .cons ⟨tok, rfl⟩ (ints_vals more)
/-- the law's def is called with the script -/
theorem head_G {P : Program} {w : World} {K : PySem.W.Frag} {mg mb : Str → Option Value} {k : Nat} {fa a : Addr} {fd : FuncData} {x : Str} {sp : Sp} {s1 : Shared} {vs : List Value} {ns : List Int}
    (inK : K.In s1.heap) (top : s1.heap.Ns mainGlobals mg) (blt : s1.heap.Ns builtinsNs mb) (boot : ∀ y : Str, y ≠ "__name__" → mb y = bootBuiltins y) (free : s1.heap.NoLimit) (quiet : s1.gens = #[])
    (obj : s1.heap.get? a = some { cls := .type "list", data := .seq vs.toArray }) (isI : IntsAre vs ns) (size : ns.length ≤ sizeLine) (room : Room k callerA)
    (F : ∀ base : Heap, K.In base → base.Ns mainGlobals mg → FnG P w K mg base k fa fd [x] sp) (bind : ∀ (s : Shared) (u : Value), BindsTo s fd ⟨[u], []⟩ [(x, u)])
    (want : ∀ M : Hp, Only M → SqL K M a (ns.map V.int) → sp [.ref a] M (fun v _ => v = .bl true) fun _ _ _ => False) (none_raised : ∀ M e s', CX0 [] M s1 (fun _ _ _ => False) e s' → False) :
    codeAny (model P w) callerA (.call (.ref fa) ⟨[.ref a], []⟩) (fun r s' => r = .ok (.ret (.bool true)) ∧ OldK s1.heap s'.heap ∧ s'.os = s1.os ∧ AllBare s'.gens) s1 := by
  have rel := ints_vals isI
  have go : ∀ M : Hp, Only M → SqL K M a (ns.map V.int) → HOk P w M s1.heap → (∀ b, M b ≠ none → b = a ∧ K.lookup a = none) →
      codeAny (model P w) callerA (.call (.ref fa) ⟨[.ref a], []⟩) (fun r s' => r = .ok (.ret (.bool true)) ∧ OldK s1.heap s'.heap ∧ s'.os = s1.os ∧ AllBare s'.gens) s1 := by
    intro M only seq ok just
    have is_a : ∀ {b : Addr} {o : Obj}, s1.heap.get? b = some o → (o = { cls := .type "list", data := .seq vs.toArray } → K.lookup a = none → False) → M b = none := fun {b o} e no => by
      rcases hb : M b with _ | y
      · rfl
      · obtain ⟨rfl, z⟩ := just b (by rw [hb]; exact fun z => nomatch z)
        rw [obj] at e
        exact (no (Option.some.inj e).symm z).elim
    have spaces : ∀ {b : Addr} {m : Str → Option Value}, s1.heap.Ns b m → (hidT s1.heap M).Ns b m := by
      rintro b m ⟨o, es, n, e, d, rest⟩
      refine ⟨o, es, n, hidT_get e (is_a e fun eo _ => ?_), d, rest⟩
      rw [eo] at d
      cases d
    have inB : K.In (hidT s1.heap M) := fun b o e => hidT_get (inK b o e) (by
      rcases hb : M b with _ | y
      · rfl
      · obtain ⟨rfl, z⟩ := just b (by rw [hb]; exact fun z => nomatch z)
        rw [z] at e
        cases e)
    have lim : ∃ mc, (hidT s1.heap M).Ns _ mc ∧ _ := free.elim fun mc z => ⟨mc, spaces z.1, z.2⟩
    have en : Env0 P w K mg (hidT s1.heap M) callerA [] s1 M :=
      ⟨rfl, ⟨inB, spaces top, ⟨mb, spaces blt, boot⟩, lim⟩, fun _ _ e => of_hidT e, Nat.le_of_eq (hidT_size _ _), trivial, fun b z => absurd (show b ∈ ([] : List Addr) from z) List.not_mem_nil, ok, .of_eq quiet⟩
    have ran := (F _ inB (spaces top)).run callerA [] s1 M ⟨[.ref a], []⟩ [.ref a] [.ref a] _ _ rfl room en (bind s1 (.ref a)) (.cons rfl .nil) (want M only seq)
    refine codeAny_mono ran fun r s' z => ?_
    rcases r with e | fl
    · exact (none_raised M e s' z).elim
    · rcases fl with _ | _ | _ | u
      · exact z.elim
      · exact z.elim
      · exact z.elim
      · obtain ⟨v, M', os, bare, un, ok', rv, hv⟩ := z
        have hv : v = .bl true := hv
        subst hv
        have hu : u = Value.bool true := rv
        subst hu
        refine ⟨rfl, OldK.of_keep fun b o e => ?_, os, bare⟩
        rcases hb : M b with _ | y
        · exact un.keep b o e hb (fun z => absurd (show b ∈ ([] : List Addr) from z) List.not_mem_nil) List.not_mem_nil
        · rcases only b with z | ⟨ob, xs, z⟩
          · rw [hb] at z
            cases z
          · have still := (ok' b _ (un.frzs b _ _ z)).1
            have old := (ok b _ z).1
            rw [e] at old
            cases old
            exact still
  rcases known : K.lookup a with _ | o
  · let M : Hp := fun b => if b = a then some (.frz { cls := .type "list", data := .seq vs.toArray } (.lst (ns.map V.int))) else none
    have at_a : M a = some (.frz { cls := .type "list", data := .seq vs.toArray } (.lst (ns.map V.int))) := if_pos rfl
    have off : ∀ b, b ≠ a → M b = none := fun b h => if_neg h
    refine go M (fun b => ?_) (.inl (.inr ⟨_, at_a⟩)) (fun b u z => ?_) (fun b z => ⟨?_, known⟩)
    · by_cases h : b = a
      · exact .inr ⟨_, _, by rw [h]; exact at_a⟩
      · exact .inl (off b h)
    · by_cases h : b = a
      · subst h
        have z' := at_a.symm.trans z
        cases z'
        exact ⟨obj, by rw [List.length_map]; exact size, vs, _, rel, obj⟩
      · rw [off b h] at z
        cases z
    · exact Classical.byContradiction fun h => z (off b h)
  · have e := inK a o known
    rw [obj] at e
    cases e
    exact go (fun _ => none) (fun _ => .inl rfl) (.inr ⟨_, vs.toArray, _, known, rfl, rfl, rfl, by rw [List.size_toArray, isI.length]; exact size, by simpa using rel⟩) (fun _ _ z => nomatch (show (none : Option HO) = some _ from z)) fun b z => absurd rfl z
theorem walk_G {l : PySem.W.OpenLaw} {n k : Nat} {q : Program} {loose : List Str} {XP : (Str → Option Value) → Heap → Prop} {YP : World → Heap → Prop} {d : DefRec} {K : Params → PySem.W.Frag} {sp : World → Sp} {x : Str}
    (most : l.most = some n) (most2 : n ≤ sizeLine) (plain : d.params.defaults = []) (room : Room k callerA) (part : ∀ (w : World) (h : Heap), YP w h → (K w.params).In h)
    (F : ∀ (w : World) (mg : Str → Option Value) (fa : Addr) (h : Heap), (K w.params).In h → h.Ns mainGlobals mg → mg d.name = some (.ref fa) → ∃ fd : FuncData,
      (∀ (s : Shared) (u : Value), BindsTo s fd ⟨[u], []⟩ [(x, u)]) ∧ ∀ base : Heap, (K w.params).In base → base.Ns mainGlobals mg → FnG l.prog w (K w.params) mg base k fa fd [x] (sp w))
    (want : ∀ (w : World) (M : Hp) (a : Addr) (ns : List Int), ns.length ≤ n → Only M → SqL (K w.params) M a (ns.map V.int) → sp w [.ref a] M (fun v _ => v = .bl true) fun _ _ _ => False) :
    PySem.W.WalkO q loose XP YP l.row.toRowW d [] (fun f vs => PySem.call f vs) := by
  refine Att.attach_call most plain fun w s₀ s₁ mg mb fa o pm cd doc a vs ns G Y ho hd hcd hmg hobj hints hlen hg => ?_
  have inK := part w _ Y
  obtain ⟨fd, bind, run⟩ := F w mg fa _ inK G.T.g hmg
  exact head_G inK G.T.g G.T.b G.T.builtins G.T.nolimit hg hobj hints (Nat.le_trans hlen most2) room run bind (fun M only seq => want w M a ns hlen only seq) fun _ _ _ z => z
end My

namespace My
open PySem PySem.Spec PyProof.Rows L2
section
variable {P : Program} {w : World} {K : PySem.W.Frag} {mg : Str → Option Value} {base : Heap}
theorem ok_lawG {kR : Nat} {f fS fR : Addr} {fd fdS fdR : FuncData} (F : Fun K "law" "law" sLaw f fd) (FS : Fun K "_law_spring" "_law_spring" sSpring fS fdS) (bS : Binds K fdS ["_law_script", "_law_k"] []) (gS : mg "_law_spring" = some (.ref fS))
    (kpR : PySem.W.keepIn K (.ref fR) = true) (GR : FnG P w K mg base (kR + 2) fR fdR ["_law_spring_here"] spRight) (bR : Binds K fdR ["_law_spring_here"] []) (gR : mg "_law_right" = some (.ref fR)) (B : Bt mg) :
    FnG P w K mg base (kR + 3) f fd ["_law_script"] (spLaw K) := by
  have GS : FnOk P w K mg base CX0 2 fS fdS ["_law_script", "_law_k"] (spSpring K) := ok_spring FS B
  refine Fun_okG F scLaw (fun vs H Q E h => ?_) (fun cdv A outer s H vs Q E gd hr h => ?_)
  · obtain ⟨a, xs, rfl, _⟩ := h
    rfl
  · obtain ⟨a, ns, rfl, hs, hlen, q⟩ := h
    have hr1 : Room 2 _ := hr.mono (by omega)
    refine ⟨_, pss_one (ps_ret (pe_callB (cr_all rfl) (by rfl) B.all (by decide +kernel) (pa_cons
      (pe_lc (own := [("_law_k", 1)]) (g := gName 1) (tt := tYes) rfl scLaw.nd
        (pi_range1 (by rfl) B.range (pa_cons (pe_callB (call_max2 rfl) (by rfl) B.max (by decide +kernel) (pa_cons pe_int (pa_cons (pe_callB (call_min2 rfl) (by rfl) B.min (by decide +kernel) (pa_cons (pe_callB call_len_seq (by rfl) B.len PySem.boot_len (pa_cons (pv 0) pa_nil)) (pa_cons pe_int pa_nil))) pa_nil))) pa_nil))
        (blkOk_by (own := [("_law_k", 1)]) (N := ["_law_script", "_law_k"]) (sc := defScope sLaw) (by decide +kernel)) (fun _ _ _ _ _ => pg_name (i := 1) scLaw.nd rfl (Or.inl rfl)) (fun _ _ _ _ _ => pts_nil)
        (fun _ _ _ _ _ => pe_callG GR gd hr (by rfl) gR kpR bR pass0 (pa_cons (pe_call GS hr1 (by rfl) gS FS.kp bS .nil pass0 (pa_cons (pv 0) (pa_cons (pv 1) pa_nil))) pa_nil)))
      pa_nil))), ?_⟩
    refine ⟨.ref a, rfl, a, _, rfl, .inl hs, _, 4, rfl, 2, _, rfl, _, rfl, ?_, ?_, ?_⟩
    · split <;> (try split) <;> rw [List.length_map] at * <;> omega
    · split <;> (try split) <;> rw [List.length_map] at * <;> omega
    · intro D nD
      refine lc_range (n := _) (fun i H2 => Same H H2 ∧ H2 D = some (.lst (List.replicate i (V.bl true)))) ⟨same_upd nD, upd_same⟩ ?_ ?_
      · rintro i H2 hi ⟨sm, hD⟩
        refine ⟨rfl, .ref a, rfl, .int (0 + (i : Int)), rfl, a, _, ns, rfl, sm.seq hs, by omega, hlen, fun p H3 sm3 np hp => ?_⟩
        have nDp : D ≠ p := ne_of_none hD np
        refine ⟨p, rfl, hp, fun H4 b4 => ?_⟩
        have hD4 : H4 D = some (.lst (List.replicate i (V.bl true))) := b4 _ _ (sm3 _ _ hD) nDp
        refine ⟨_, hD4, ?_, fun b o e => ?_, ?_⟩
        · rw [List.length_replicate]
          have hi2 : i < 6 := by
            revert hi
            split <;> (try split) <;> omega
          exact Nat.lt_of_lt_of_le hi2 (by decide)
        · have nbD : b ≠ D := ne_of_none e nD
          rw [upd_ne nbD]
          exact b4 _ _ (sm3 _ _ (sm _ _ e)) (ne_of_none (sm _ _ e) np)
        · rw [upd_same, List.replicate_succ']
      · rintro H2 ⟨sm, hD⟩
        obtain ⟨n, hD⟩ : ∃ n, H2 D = some (.lst (List.replicate n (V.bl true))) := ⟨_, hD⟩
        refine ⟨D, List.replicate n true, rfl, ?_, ?_⟩
        · rw [List.map_replicate]
          exact SqL.of hD
        · have e : (List.replicate n true).all id = true := by simp
          rw [e]
          exact q _
end
/-! ### how long the text of data is -/
mutual
def lenB : PyData → Nat
  | .none => 4
  | .bool _ => 5
  | .int _ => 41
  | .str x => 10 * x.length + 2
  | .list xs => lenBs xs + 3
  | .tuple xs => lenBs xs + 5
  | .dict _ => 0
def lenBs : List PyData → Nat
  | [] => 0
  | x :: r => lenB x + 2 + lenBs r
end
mutual
def plainD : PyData → Bool
  | .none => true
  | .bool _ => true
  | .int i => decide (i.natAbs < 10 ^ 40)
  | .str x => x.cps.toList.all fun c => decide (c < 0x110000)
  | .list xs => plainDs xs
  | .tuple xs => plainDs xs
  | .dict _ => false
def plainDs : List PyData → Bool
  | [] => true
  | x :: r => plainD x && plainDs r
end
mutual
theorem shown_le : ∀ d : PyData, plainD d = true → d.shown.length ≤ lenB d
  | .none, _ => by simp only [PyData.shown, lenB]; decide
  | .bool true, _ => by simp only [PyData.shown, lenB]; decide
  | .bool false, _ => by simp only [PyData.shown, lenB]; decide
  | .int i, h => by
    simp only [plainD] at h
    simp only [PyData.shown, lenB]
    have := int_text_length_le10 (a := i) (k := 40) (by decide) (of_decide_eq_true h)
    rw [PySem.ofString_length]
    exact this
  | .str x, h => by
    simp only [plainD, List.all_eq_true] at h
    simp only [PyData.shown, lenB]
    exact PySem.StrLaws.reprText_len x fun c hc => Nat.lt_of_lt_of_le (of_decide_eq_true (h c hc)) (by decide)
  | .list xs, h => by
    simp only [plainD] at h
    simp only [PyData.shown, lenB]
    have h1 := listText_len_le (PyData.shownAll xs)
    have h2 := showns_le xs h
    omega
  | .tuple xs, h => by
    simp only [plainD] at h
    simp only [PyData.shown, lenB]
    have h1 := tupleText_len_le (PyData.shownAll xs)
    have h2 := showns_le xs h
    omega
  | .dict _, h => by simp [plainD] at h
theorem showns_le : ∀ xs : List PyData, plainDs xs = true → ((PyData.shownAll xs).map (·.length)).sum + 2 * (PyData.shownAll xs).length ≤ lenBs xs
  | [], _ => by simp [PyData.shownAll, lenBs]
  | x :: r, h => by
    simp only [plainDs, Bool.and_eq_true] at h
    have h1 := shown_le x h.1
    have h2 := showns_le r h.2
    simp only [PyData.shownAll, lenBs, List.map_cons, List.sum_cons, List.length_cons]
    omega
end
mutual
theorem plain_show : ∀ d : PyData, plainD d = true → d.showable = true
  | .none, _ => by simp [PyData.showable]
  | .bool _, _ => by simp [PyData.showable]
  | .int i, h => by
    simp only [plainD] at h
    have h1 := of_decide_eq_true h
    simp only [PyData.showable]
    refine decide_eq_true ?_
    by_cases h0 : i.natAbs = 0
    · rw [h0]
      decide
    · exact (Nat.log2_lt h0).mpr (Nat.lt_trans h1 (by decide))
  | .str _, _ => by simp [PyData.showable]
  | .list xs, h => by
    simp only [plainD] at h
    simp only [PyData.showable]
    exact plain_shows xs h
  | .tuple xs, h => by
    simp only [plainD] at h
    simp only [PyData.showable]
    exact plain_shows xs h
  | .dict _, h => by simp [plainD] at h
theorem plain_shows : ∀ xs : List PyData, plainDs xs = true → PyData.showableAll xs = true
  | [], _ => by simp [PyData.showableAll]
  | x :: r, h => by
    simp only [plainDs, Bool.and_eq_true] at h
    simp only [PyData.showableAll, Bool.and_eq_true]
    exact ⟨plain_show x h.1, plain_shows r h.2⟩
end
mutual
theorem plain_flat : ∀ d : PyData, plainD d = true → d.hasDict = false
  | .none, _ => by simp [PyData.hasDict]
  | .bool _, _ => by simp [PyData.hasDict]
  | .int _, _ => by simp [PyData.hasDict]
  | .str _, _ => by simp [PyData.hasDict]
  | .list xs, h => by
    simp only [plainD] at h
    simp only [PyData.hasDict]
    exact plain_flats xs h
  | .tuple xs, h => by
    simp only [plainD] at h
    simp only [PyData.hasDict]
    exact plain_flats xs h
  | .dict _, h => by simp [plainD] at h
theorem plain_flats : ∀ xs : List PyData, plainDs xs = true → PyData.hasDictAll xs = false
  | [], _ => by simp [PyData.hasDictAll]
  | x :: r, h => by
    simp only [plainDs, Bool.and_eq_true] at h
    simp only [PyData.hasDictAll, plain_flat x h.1, plain_flats r h.2, Bool.or_self]
end
/-- repr of data, made plain -/
theorem call_reprP {X : Cx} (gd : X.A.guards = some []) (hu : X.A.units + 66 < cLine) : CallR X (.builtin "repr") (fun xs M Q => ∃ (a : Addr) (d : PyData), xs = [.ref a] ∧ Dp X.K M (.ref a) d ∧ plainD d = true ∧ d.depth ≤ 64 ∧ lenB d ≤ sizeLine ∧ Q (.str d.shown) M) := by
  intro pins s σ M xs us Q I r h
  obtain ⟨a, d, e, hd, h1, h2, h3, q⟩ := h
  exact call_reprD gd hu pins s σ M xs us Q I r ⟨a, d, e, hd, plain_show d h1, plain_flat d h1, h2, Nat.le_trans (shown_le d h1) h3, q⟩
/-- repr of a value that is plain data -/
theorem call_reprA {X : Cx} (gd : X.A.guards = some []) (hu : X.A.units + 66 < cLine) : CallR X (.builtin "repr") (fun xs M Q => ∃ (v : V) (d : PyData), xs = [v] ∧ Dp X.K M v d ∧ plainD d = true ∧ d.depth ≤ 64 ∧ lenB d ≤ sizeLine ∧ Q (.str d.shown) M) := by
  intro pins s σ M xs us Q I r h
  obtain ⟨v, d, rfl, hd, h1, h2, h3, q⟩ := h
  have hl := Nat.le_trans (shown_le d h1) h3
  have hs := plain_show d h1
  cases hd with
  | non =>
    obtain ⟨u, rfl, hu⟩ := vals1 r
    cases hu
    have e : PyData.none.shown = "None" := by simp only [PyData.shown]
    rw [e] at q
    exact PySem.P.repr_of_none ⟨.str _, M, I.tok _, ⟨_, rfl⟩, q⟩
  | bl b =>
    obtain ⟨u, rfl, hu⟩ := vals1 r
    cases hu
    have e : (PyData.bool b).shown = (if b = true then Str.ofString "True" else Str.ofString "False") := by cases b <;> simp only [PyData.shown] <;> rfl
    rw [e] at q
    exact PySem.P.repr_of_bool ⟨.str _, M, I.tok _, ⟨_, rfl⟩, q⟩
  | int i =>
    obtain ⟨u, rfl, tk, rfl⟩ := vals1 r
    have e : (PyData.int i).shown = Str.ofString (toString i) := by simp only [PyData.shown]
    rw [e] at q
    simp only [PyData.showable] at hs
    exact PySem.P.repr_of_int (of_decide_eq_true hs) ⟨.str _, M, I.tok _, ⟨_, rfl⟩, q⟩
  | str x =>
    obtain ⟨u, rfl, tk, rfl⟩ := vals1 r
    have e : (PyData.str x).shown = reprText x := by simp only [PyData.shown]
    rw [e] at q hl
    exact PySem.P.repr_of_str ⟨.str _, M, I.tok _, ⟨_, rfl⟩, q⟩ hl
  | lst a b => exact call_reprP gd hu pins s σ M _ us Q I r ⟨_, _, rfl, .lst a b, h1, h2, h3, q⟩
  | tup a b => exact call_reprP gd hu pins s σ M _ us Q I r ⟨_, _, rfl, .tup a b, h1, h2, h3, q⟩
end My

namespace My
open PySem PySem.Spec PyProof.Rows L2
theorem iteE {c : Bool} {P Q : Prop} (h : c = false) (q : Q) : if c = true then P else Q := by
  subst h
  exact iteF q
theorem ne_same {x y : Int} (h : x = y) : (!decide (V.int x = V.int y)) = false := by
  rw [h, decide_eq_true rfl]
  rfl
theorem LadAt.but {K : PySem.W.Frag} {C : Addr} {H H' : Hp} {a p : Addr} {us : List (Str × Int)} {d : Nat} {s : Str} {c : Bool} {l : Int} (hp : Spr H a) (k : But a H H') (h : LadAt K C H p us d s c l) : LadAt K C H' p us d s c l := by
  obtain ⟨dx, ua, t, st, th, h1, h2, h3, h4, h5⟩ := h
  have npa : p ≠ a := by
    obtain ⟨x, y, z, e⟩ := hp
    exact ne_of h1 e (by intro z; cases z)
  exact ⟨dx, ua, t, st, th, k _ _ h1 npa, UA.butS hp k h2, k.sqtS hp h3, k.sqtS hp h4, k.sqtS hp h5⟩
theorem ToldAt.updL {K : PySem.W.Frag} {H : Hp} {D r : Addr} {xs ys : List V} {us : List (Str × Int)} {d : Nat} {s : Str} {c : Bool} {l : Int} (hD : H D = some (.lst xs)) (h : ToldAt K H r us d s c l) : ToldAt K (upd H D (.lst ys)) r us d s c l := by
  obtain ⟨ua, h1, h2⟩ := h
  exact ⟨ua, (But.upd D _ _).sqt hD rfl h1, UA.but hD rfl (But.upd D _ _) h2⟩
theorem LadAt.updL {K : PySem.W.Frag} {C : Addr} {H : Hp} {D p : Addr} {xs ys : List V} {us : List (Str × Int)} {d : Nat} {s : Str} {c : Bool} {l : Int} (hD : H D = some (.lst xs)) (h : LadAt K C H p us d s c l) : LadAt K C (upd H D (.lst ys)) p us d s c l := by
  obtain ⟨dx, ua, t, st, th, h1, h2, h3, h4, h5⟩ := h
  have npa : p ≠ D := ne_of h1 hD (by intro z; cases z)
  exact ⟨dx, ua, t, st, th, by rw [upd_ne npa]; exact h1, UA.but hD rfl (But.upd D _ _) h2, (But.upd D _ _).sqt hD rfl h3, (But.upd D _ _).sqt hD rfl h4, (But.upd D _ _).sqt hD rfl h5⟩
theorem Spr.updL {H : Hp} {D a : Addr} {o : HO} (n : a ≠ D) (h : Spr H a) : Spr (upd H D o) a := by
  obtain ⟨x, y, z, e⟩ := h
  exact ⟨x, y, z, by rw [upd_ne n]; exact e⟩
theorem shown_same {us : List (Str × Int)} {d : Nat} {s : Str} {c : Bool} {l x y : Int} (g : Good us d s l) (x0 : 0 ≤ x) (y0 : 0 ≤ y) (x1 : x ≤ 1000000000000000000000000000000) (y1 : y ≤ 1000000000000000000000000000000) : shown us d s c l x = shown us d s c l y ↔ placedM us d s c l x = placedM us d s c l y := by
  constructor
  · intro e
    obtain ⟨k1, k2, k3⟩ := placedM_ok (c := c) g x0
    obtain ⟨j1, j2, j3⟩ := placedM_ok (c := c) g y0
    obtain ⟨e1, e2⟩ := writ_inj g.u g.d3 k1 j1 k2 j2 (by omega) (by omega) e
    exact Prod.ext e1 e2
  · intro e
    unfold shown
    rw [e]
theorem eq_otherS {x y : Str} (h : x ≠ y) : decide (V.str x = V.str y) = false := decide_eq_false fun e => h (V.str.inj e)
theorem ne_sameS {x y : Str} (h : x = y) : (!decide (V.str x = V.str y)) = false := by
  rw [h, decide_eq_true rfl]
  rfl
theorem ne_sameV {x y : V} (h : x = y) : (!decide (x = y)) = false := by
  rw [h, decide_eq_true rfl]
  rfl
theorem kb_rev {K : PySem.W.Frag} {mg : Str → Option Value} {x a b : Str} {st : Stmt} (d : Dd K mg x st [a, b]) (h : ∀ (kV doc pm : Value) (an : Option Addr) (cdv ct : Value) (u v : Value), bindArgs (PySem.W.fnOf x x (defArgs st) (defBody st) (defScope st) .none kV doc pm an cdv ct) ⟨[], [(b, u), (a, v)]⟩ = pure [(a, v), (b, u)]) : KBn K d.fd [a, b] 0 [b, a] (fun _ ws => ws.reverse) (fun _ ws => ws.reverse) := by
  obtain ⟨oc, od, kV, doc, pm, an, cdv, ct, osl, e, _⟩ := d.F.ex
  rw [e]
  refine ⟨fun s us ws _ h1 h2 => ?_, fun _ h2 => ?_⟩
  · match us, ws, h1, h2 with
    | [], [u, v], _, _ => exact .of_eq (h ..)
  · rename_i vs us zs ws h1
    clear h1 vs us
    have rev : ∀ {a : List V} {b : List Value}, Vals a b → Vals a.reverse b.reverse := fun {a b} h => by
      induction h with
      | nil => exact .nil
      | cons r t ih => rw [List.reverse_cons, List.reverse_cons]; exact ih.append (.cons r .nil)
    exact rev h2
/-- repr of an int or None -/
def dataO : Option Int → PyData
  | none => .none
  | some i => .int i
theorem call_reprO {X : Cx} : CallR X (.builtin "repr") (fun xs M Q => ∃ (v : V) (o : Option Int), xs = [v] ∧ ((o = none ∧ v = .non) ∨ ∃ i, o = some i ∧ v = .int i ∧ i.natAbs < 10 ^ 40) ∧ Q (.str (dataO o).shown) M) := by
  intro pins s σ M xs us Q I r h
  obtain ⟨v, o, rfl, h, q⟩ := h
  rcases h with ⟨rfl, rfl⟩ | ⟨i, rfl, rfl, hz⟩
  · obtain ⟨u, rfl, hu⟩ := vals1 r
    cases hu
    have e : (dataO none).shown = "None" := by simp only [dataO, PyData.shown]
    rw [e] at q
    exact PySem.P.repr_of_none ⟨.str _, M, I.tok _, ⟨_, rfl⟩, q⟩
  · obtain ⟨u, rfl, t, rfl⟩ := vals1 r
    have e : (dataO (some i)).shown = Str.ofString (toString i) := by simp only [dataO, PyData.shown]
    rw [e] at q
    have p := plain_show (.int i) (by simp only [plainD]; exact decide_eq_true hz)
    simp only [PyData.showable] at p
    exact PySem.P.repr_of_int (of_decide_eq_true p) ⟨.str _, M, I.tok _, ⟨_, rfl⟩, q⟩
theorem data_eqv_self : ∀ (d : PyData), d = d := fun _ => rfl
/-- len(xs) within a comprehension -/
def rLenQ (K : PySem.W.Frag) : List V → Hp → VK → Prop := fun vs M Q => ∃ (t : Addr) (items : List V), vs = [.ref t] ∧ (SqL K M t items ∨ SqT K M t items) ∧ Q (.int items.length) M
theorem call_lenQ {X : Cx} : CallR X (.builtin "len") (rLenQ X.K) := call_len_seq
end My

namespace My
open PySem PySem.Spec PyProof.Rows L2
/-! ### the texts of figures as data -/
theorem strOk_ofX {x : Str} (h : ∀ c ∈ x.cps.toList, c < 0x110000) : PyData.strOk x = true := by
  unfold PyData.strOk
  rw [← Array.all_toList, List.all_eq_true]
  exact fun c hc => decide_eq_true (h c hc)
theorem of_strOkX {x : Str} (h : PyData.strOk x = true) : ∀ c ∈ x.cps.toList, c < 0x110000 := by
  unfold PyData.strOk at h
  rw [← Array.all_toList, List.all_eq_true] at h
  exact fun c hc => of_decide_eq_true (h c hc)
theorem writ_okX {us : List (Str × Int)} {d : Nat} (g : GoodUs us) {p : Nat} {m : Int} (hm : 0 ≤ m) (hp : p < us.length) : PyData.strOk (writ us d p m) = true := by
  refine strOk_ofX fun c hc => ?_
  have hu : us[p]? = some us[p] := List.getElem?_eq_getElem hp
  have hn := of_strOkX (g.each p _ hu).1.2.2.1
  rw [writ_codes, name_at hp] at hc
  rcases List.mem_append.mp hc with z | z
  · have dd : ∀ c ∈ dg m, c < 0x110000 := fun c hc => by have := dg_digits hm c hc; omega
    unfold ahead at z
    split at z
    · exact dd c z
    · have zf' : ∀ c ∈ zf d m, c < 0x110000 := fun c hc => by
        unfold zf at hc
        rcases List.mem_append.mp hc with y | y
        · rw [(List.mem_replicate.mp y).2]
          decide
        · exact dd c y
      unfold body at z
      rcases List.mem_append.mp z with y | y
      · exact zf' c (List.mem_of_mem_take y)
      · rcases List.mem_cons.mp y with e | e
        · rw [e]
          decide
        · exact zf' c (List.mem_of_mem_drop e)
  · exact hn c z
theorem writ_len {us : List (Str × Int)} {d : Nat} (g : GoodUs us) (hd : d ≤ 3) {p : Nat} {m : Int} (hp : p < us.length) (hm : m.natAbs < 10 ^ 40) : (writ us d p m).length ≤ 60 := by
  rw [str_len, writ_codes, name_at hp, List.length_append]
  have hu : us[p]? = some us[p] := List.getElem?_eq_getElem hp
  have hn := (g.each p _ hu).1.1
  rw [str_len] at hn
  have h1 := dg_small hm
  have h2 : (ahead d p m).length ≤ 50 := by
    unfold ahead
    split
    · omega
    · unfold body
      rw [List.length_append, List.length_cons, List.length_take, List.length_drop, zf_len]
      omega
  omega
theorem writ_plain {us : List (Str × Int)} {d : Nat} (g : GoodUs us) {p : Nat} {m : Int} (hm : 0 ≤ m) (hp : p < us.length) : plainD (.str (writ us d p m)) = true := by
  have h := writ_okX (d := d) g hm hp
  simp only [plainD]
  rw [List.all_eq_true]
  exact fun c hc => decide_eq_true (of_strOkX h c hc)
theorem shown_key {us : List (Str × Int)} {d : Nat} {s : Str} {c : Bool} {l n : Int} (g : Good us d s l) (n0 : 0 ≤ n) (n1 : n ≤ 1000000000000000000000000000000) :
    plainD (.str (shown us d s c l n)) = true ∧ (shown us d s c l n).length ≤ 60 := by
  obtain ⟨k1, k2, k3⟩ := placedM_ok (c := c) g n0
  unfold shown
  exact ⟨writ_plain g.u k2 k1, writ_len g.u g.d3 k1 (by omega)⟩
end My

namespace MyZ
open PySem PySem.Spec PyProof.Rows L2 RZ
/-- [.. for x, y in zip(a, b)], b not longer than a -/
theorem lc_zipU {K : PySem.W.Frag} {a b : Addr} {xs ys : List V} {g : TG} {tt : TT} {te : TE} {vs : List Nat} {σ : L2.St} {H1 : Hp} {D : Addr} {Qd : Hp → Prop} (hy : ys.length ≤ xs.length) (Pv : Nat → Hp → Prop) (h0 : Pv 0 (upd H1 D (.lst [])))
    (hl : ∀ i H, Pv i H → SqL K H a xs ∧ SqL K H b ys)
    (ht : ∀ (i : Nat) (x y : V) (H : Hp) (T : Addr), xs[i]? = some x → ys[i]? = some y → Pv i H → H T = none → g (.ref T) (wipe σ vs) (upd H T (.tup [x, y])) fun σ2 H2 => wipe σ2 vs = wipe σ vs ∧ tt σ2 H2 fun b H3 =>
      if b = true then te σ2 H3 fun y H4 => ∃ acc, H4 D = some (.lst acc) ∧ acc.length < sizeLine ∧ Pv (i + 1) (upd H4 D (.lst (acc ++ [y]))) else Pv (i + 1) H3)
    (he : ∀ H, Pv ys.length H → Qd H) :
    ∃ W : Nat → Nat → Hp → Prop, (∃ m, W 0 m (upd H1 D (.lst []))) ∧ ∀ i m H, W i m H → ((Itz K a b).stop i H ∧ Qd H) ∨
      ((Itz K a b).go i H ∧ ∃ Nx : Hp → Prop, (∀ H', Nx H' → ∃ m', m' < m ∧ W (i + 1) m' H') ∧
        ∀ x H', (Itz K a b).yld i H x H' → g x (wipe σ vs) H' fun σ2 H2 => wipe σ2 vs = wipe σ vs ∧ tt σ2 H2 fun b H3 =>
          if b = true then te σ2 H3 fun y H4 => ∃ acc, H4 D = some (.lst acc) ∧ acc.length < sizeLine ∧ Nx (upd H4 D (.lst (acc ++ [y]))) else Nx H3) := by
  refine ⟨fun i m H => Pv i H ∧ i + m = ys.length, ⟨ys.length, h0, by omega⟩, fun i m H hW => ?_⟩
  obtain ⟨hp, hm⟩ := hW
  obtain ⟨q1, q2⟩ := hl i H hp
  by_cases hi : i < ys.length
  · refine .inr ⟨⟨xs, ys, xs[i], ys[i], q1, q2, List.getElem?_eq_getElem (by omega), List.getElem?_eq_getElem hi⟩, Pv (i + 1), fun H' hN => ⟨m - 1, by omega, hN, by omega⟩, ?_⟩
    rintro v H' ⟨T, x, y, rfl, hT, rfl, f1, f2⟩
    exact ht i x y H T (f1 xs q1) (f2 ys q2) hp hT
  · have e : i = ys.length := by omega
    subst e
    exact .inl ⟨⟨xs, ys, q1, q2, .inr (Nat.le_refl _)⟩, he H hp⟩
theorem lc_zipT {K : PySem.W.Frag} {a b : Addr} {xs ys : List V} {g : TG} {tt : TT} {te : TE} {vs : List Nat} {σ : L2.St} {H1 : Hp} {D : Addr} {Qd : Hp → Prop} (hy : ys.length ≤ xs.length) (Pv : Nat → Hp → Prop) (h0 : Pv 0 (upd H1 D (.lst [])))
    (hl : ∀ i H, Pv i H → SqT K H a xs ∧ SqT K H b ys)
    (ht : ∀ (i : Nat) (x y : V) (H : Hp) (T : Addr), xs[i]? = some x → ys[i]? = some y → Pv i H → H T = none → g (.ref T) (wipe σ vs) (upd H T (.tup [x, y])) fun σ2 H2 => wipe σ2 vs = wipe σ vs ∧ tt σ2 H2 fun b H3 =>
      if b = true then te σ2 H3 fun y H4 => ∃ acc, H4 D = some (.lst acc) ∧ acc.length < sizeLine ∧ Pv (i + 1) (upd H4 D (.lst (acc ++ [y]))) else Pv (i + 1) H3)
    (he : ∀ H, Pv ys.length H → Qd H) :
    ∃ W : Nat → Nat → Hp → Prop, (∃ m, W 0 m (upd H1 D (.lst []))) ∧ ∀ i m H, W i m H → ((ItzT K a b).stop i H ∧ Qd H) ∨
      ((ItzT K a b).go i H ∧ ∃ Nx : Hp → Prop, (∀ H', Nx H' → ∃ m', m' < m ∧ W (i + 1) m' H') ∧
        ∀ x H', (ItzT K a b).yld i H x H' → g x (wipe σ vs) H' fun σ2 H2 => wipe σ2 vs = wipe σ vs ∧ tt σ2 H2 fun b H3 =>
          if b = true then te σ2 H3 fun y H4 => ∃ acc, H4 D = some (.lst acc) ∧ acc.length < sizeLine ∧ Nx (upd H4 D (.lst (acc ++ [y]))) else Nx H3) := by
  refine ⟨fun i m H => Pv i H ∧ i + m = ys.length, ⟨ys.length, h0, by omega⟩, fun i m H hW => ?_⟩
  obtain ⟨hp, hm⟩ := hW
  obtain ⟨q1, q2⟩ := hl i H hp
  by_cases hi : i < ys.length
  · refine .inr ⟨⟨xs, ys, xs[i], ys[i], q1, q2, List.getElem?_eq_getElem (by omega), List.getElem?_eq_getElem hi⟩, Pv (i + 1), fun H' hN => ⟨m - 1, by omega, hN, by omega⟩, ?_⟩
    rintro v H' ⟨T, x, y, rfl, hT, rfl, f1, f2⟩
    exact ht i x y H T (f1 xs q1) (f2 ys q2) hp hT
  · have e : i = ys.length := by omega
    subst e
    exact .inl ⟨⟨xs, ys, q1, q2, .inr (Nat.le_refl _)⟩, he H hp⟩
end MyZ

namespace My
open PySem PySem.Spec PyProof.Rows L2
abbrev Lad.Told (A : Lad) (K : PySem.W.Frag) (H : Hp) (r : Addr) : Prop := ToldAt K H r A.us A.d A.s A.c A.l
theorem shown_zero {us : List (Str × Int)} {d : Nat} {s : Str} {c : Bool} {l : Int} (g : Good us d s l) : shown us d s c l 0 = Str.ofString (toString (0 : Int)) ++ (us.getD 0 ("", 0)).1 := by
  have hp : placeOf us l 0 = 0 := by
    refine small_place g (Int.le_refl 0) ?_
    rcases Nat.lt_or_ge 1 us.length with y | y
    · right
      have h1 := (last_sz_pos g.u y).1
      have h2 := g.l1
      exact Int.mul_pos (by omega) (by omega)
    · left
      have := g.u.lo
      omega
  unfold shown
  rw [placed_zero g (Int.le_refl 0) hp]
  unfold writ
  rw [if_pos (.inl rfl)]
theorem unlike_self {A : Lad} {r : Option Int} (h : Unlike A A r) : r = none := by
  cases r with
  | none => rfl
  | some n => exact absurd rfl h.2.2.1
theorem unlike_same {A B C : Lad} {r r' : Option Int} (h : Unlike A B none) (h1 : Unlike A C r) (h2 : Unlike B C r') : r = r' := by
  cases r with
  | none =>
    cases r' with
    | none => rfl
    | some m =>
      obtain ⟨m0, m1, hne, _⟩ := h2
      exact absurd ((h m m0 (by omega)).symm.trans (h1 m m0 (by omega))) hne
  | some n =>
    obtain ⟨n0, n1, hne, hmin⟩ := h1
    cases r' with
    | none => exact absurd ((h n n0 (by omega)).trans (h2 n n0 (by omega))) hne
    | some m =>
      obtain ⟨m0, m1, hne2, hmin2⟩ := h2
      rcases Int.lt_trichotomy n m with y | y | y
      · exact absurd ((h n n0 (by omega)).trans (hmin2 n n0 y)) hne
      · rw [y]
      · exact absurd ((h m m0 (by omega)).symm.trans (hmin m m0 y)) hne2
theorem unlike_symm {A B : Lad} {r : Option Int} (h : Unlike A B r) : Unlike B A r := by
  cases r with
  | none => exact fun x h0 h1 => (h x h0 h1).symm
  | some n =>
    obtain ⟨n0, n1, hne, hmin⟩ := h
    exact ⟨n0, n1, fun e => hne e.symm, fun x h0 h1 => (hmin x h0 h1).symm⟩
theorem unlike_one {A B : Lad} {r r' : Option Int} (h : Unlike A B r) (h' : Unlike A B r') : r = r' := unlike_same (A := A) (B := A) (C := B) (fun _ _ _ => rfl) h h'
end My

namespace L2
open PySem PySem.Spec PyProof.Rows
/-- a op1 b op2 c op3 e -/
def tChain3 (r1 r2 r3 : R2) (ta tb tc te : TE) : TE := fun σ H Q => ta σ H fun x H1 => tb σ H1 fun y H2 => r1 x y H2 fun z H3 => ∃ k, z = .bl k ∧
  (if k = true then tc σ H3 fun w' H4 => r2 y w' H4 fun z2 H5 => ∃ k2, z2 = .bl k2 ∧ (if k2 = true then te σ H5 fun v' H6 => r3 w' v' H6 Q else Q (.bl false) H5) else Q (.bl false) H3)
section
variable {X : Cx} {a b c e : Expr} {ta tb tc te : TE} {pos : Pos}
theorem pt_chain3 {op op' op2 : CmpOp} {r r' r2 : R2} (ho : OpR X (compareOp op) r) (ho' : OpR X (compareOp op') r') (ho2 : OpR X (compareOp op2) r2) (ha : PE X a ta) (hb : PE X b tb) (hc : PE X c tc) (he : PE X e te)
    (hm : lastMarks [op, op', op2] [b, c, e] = false := by with_unfolding_all rfl) : PT X (.Compare a [op, op', op2] [b, c, e] pos) (tTest (tChain3 r r' r2 ta tb tc te)) := by
  refine ⟨fun pins s σ H Q I h => ?_⟩
  refine isTrue_chain (thn (ha.run pins s σ H _ I h) fun v s1 ⟨x, H1, I1, r1, q1⟩ => test_link (thn (hb.run pins s1 σ H1 _ I1 q1) fun u s2 ⟨y, H2, I2, r2, q2⟩ =>
    thn (ho pins s2 σ H2 x y v u _ I2 r1 r2 q2) fun d s3 ⟨z, H3, I3, r3, k, e, q3⟩ => ?_)) hm
  subst e
  cases r3
  refine wpAny_truthy_bool ?_
  cases k with
  | false =>
    obtain ⟨k', e', q'⟩ := q3
    cases e'
    exact ite_ff ⟨H3, I3, q'⟩
  | true =>
    refine ite_tt (test_link (thn (hc.run pins s3 σ H3 _ I3 q3) fun w' s4 ⟨z', H4, I4, r4, q4⟩ => thn (ho' pins s4 σ H4 y z' u w' _ I4 r2 r4 q4) fun d' s5 ⟨z2, H5, I5, r5, k2, e2, q5⟩ => ?_))
    subst e2
    cases r5
    refine wpAny_truthy_bool ?_
    cases k2 with
    | false =>
      obtain ⟨k', e', q'⟩ := q5
      cases e'
      exact ite_ff ⟨H5, I5, q'⟩
    | true =>
      refine ite_tt (test_last (thn (he.run pins s5 σ H5 _ I5 q5) fun w2 s6 ⟨z3, H6, I6, r6, q6⟩ => thn (ho2 pins s6 σ H6 z' z3 w' w2 _ I6 r4 r6 q6) fun d2 s7 ⟨z4, H7, I7, r7, k3, e3, q7⟩ => ?_))
      subst e3
      cases r7
      exact wpAny_truthy_bool ⟨H7, I7, q7⟩
end
end L2

namespace MyRV
open PySem PySem.Spec PyProof.Rows L2
/-! ### a tuple turned round: t[::-1] -/
theorem back_places (m : Nat) : Builtin.Slice.slicePlaces ((m : Int) - 1) (-1) (-1) = m := by
  unfold Builtin.Slice.slicePlaces
  rw [if_neg (by decide)]
  split
  · rw [show -(-1 : Int) = 1 by decide, Int.ediv_one]
    omega
  · rename_i h
    have : m = 0 := by omega
    subst this
    rfl
theorem fm_congr {α : Type} {f g : Nat → Option α} : ∀ {l : List Nat}, (∀ x ∈ l, f x = g x) → l.filterMap f = l.filterMap g
  | [], _ => rfl
  | x :: l, h => by
    rw [List.filterMap_cons, List.filterMap_cons, h x (List.mem_cons_self ..), fm_congr fun y hy => h y (List.mem_cons_of_mem _ hy)]
theorem fm_take {α : Type} (k : List α) : ∀ n, n ≤ k.length → ((List.range n).filterMap fun m : Nat => k[m]?) = k.take n
  | 0, _ => by simp
  | n + 1, h => by
    rw [List.range_succ, List.filterMap_append, fm_take k n (by omega), List.take_add_one]
    congr 1
theorem back_pick (xs : Array Value) : ((List.range xs.size).filterMap fun (m : Nat) => xs[(((xs.size : Int) - 1) + (m : Int) * (-1)).toNat]?).toArray = xs.toList.reverse.toArray := by
  congr 1
  have h := fm_take xs.toList.reverse xs.toList.reverse.length (Nat.le_refl _)
  rw [List.take_length, List.length_reverse, Array.length_toList] at h
  rw [← h]
  refine fm_congr fun m hm => ?_
  have hml := List.mem_range.mp hm
  rw [List.getElem?_reverse (by rw [Array.length_toList]; exact hml), Array.length_toList, Array.getElem?_toList, show (((xs.size : Int) - 1) + (m : Int) * (-1)).toNat = xs.size - 1 - m by omega]
section
variable {prog : Program} {w : World} {A : Around} {E : Value → Shared → Prop} {s : Shared}
theorem tuple_back {tu sc : Addr} {vals : Array Value} {pst : Value} {Q : Value → Shared → Prop} (ht : IsTup s.heap tu vals) (hs : s.heap.IsSliceOf sc .none .none pst) (pp : IsPart pst (some (-1)))
    (h : Q (.ref s.heap.objs.size) { s with heap := s.heap.push { cls := .type "tuple", data := .seq vals.toList.reverse.toArray } }) (hsz : vals.size ≤ sizeLine) : wpAny (model prog w) A (getItem (.ref tu) (.ref sc)) Q E s := by
  have hok : sizeOk (.seq vals.toList.reverse.toArray) := by
    show vals.toList.reverse.toArray.size ≤ sizeLine
    rw [List.size_toArray, List.length_reverse, Array.length_toList]
    exact hsz
  obtain ⟨ob, hob, hcl, hfl⟩ := id hs
  have hty : s.TypeIs (.ref sc) "slice" := ⟨ob, hob, hcl⟩
  unfold getItem
  (try with_reducible refine wpAny_holding ?_)
  (first | (refine wpAny_bind (wpAny_pure ?_)) | skip)
  refine wpAny_bind (wpAny_sequenceKey ht.typeIs (by decide) ?_)
  refine wpAny_bind (wpAny_callSpecial?_slot (name := Str.ofString "__getitem__") ht.typeIs PyProof.Rows.slot_tuple_getitem (wpAny_call_entry PyProof.Rows.slot_tuple_getitem ht.typeIs entry_tuple_getitem ?_ (args_tuple_getitem _ _)))
  show wpAny _ _ (Builtin.Tuple.tupleItemsOf (.ref tu) >>= _) _ _ s
  refine wpAny_bind (tupleItemsOf_ ht (wpAny_bind (wpAny_typeOf hty ?_)))
  rw [if_pos (by decide)]
  refine wpAny_bind ?_
  unfold Builtin.Slice.sliceApplied Builtin.Slice.sliceFields
  refine wpAny_bind (wpAny_bind (wpAny_field hob hfl (x := Value.none) rfl (wpAny_bind (wpAny_field hob hfl (x := Value.none) rfl (wpAny_bind (wpAny_field hob hfl (x := pst) rfl (wpAny_pure ?_)))))))
  refine wpAny_bind (HT.slicePart_ pp ?_)
  show wpAny _ _ (if ((-1 : Int) == 0) = true then _ else _) _ _ s
  rw [if_neg (by decide)]
  refine wpAny_bind (slicePart_none (wpAny_bind (slicePart_none (wpAny_bind (wpAny_pure ?_)))))
  show wpAny _ _ (pure (((vals.size : Nat) : Int) - 1, (-1 : Int), Builtin.Slice.slicePlaces (((vals.size : Nat) : Int) - 1) (-1) (-1))) _ _ s
  rw [back_places]
  refine wpAny_pure ?_
  have hno : ¬ (((((vals.size : Nat) : Int) - 1) == 0 && (-1 : Int) == 1 && vals.size == vals.size) = true) := by
    intro q
    rw [Bool.and_eq_true, Bool.and_eq_true] at q
    exact absurd (eq_of_beq q.1.2) (by decide)
  show wpAny _ _ (if ((((vals.size : Nat) : Int) - 1) == 0 && (-1 : Int) == 1 && vals.size == vals.size) = true then _ else _) _ _ s
  rw [if_neg hno, back_pick]
  first
    | exact (wpAny_bind (m := Builtin.Tuple.tupleExact _) (wpAny_newObj_type (wpAny_pure ⟨_, rfl, wpAny_pure h⟩) hok))
    | exact (wpAny_bind (m := Builtin.Tuple.tupleExact _) (wpAny_newObj_type (wpAny_bind (wpAny_pure (wpAny_pure ⟨_, rfl, wpAny_pure h⟩))) hok))
    | exact (wpAny_bind (wpAny_bind (m := Builtin.Tuple.tupleExact _) (wpAny_newObj_type (wpAny_pure (wpAny_pure ⟨_, rfl, wpAny_pure h⟩)) hok)))
    | exact (wpAny_bind (wpAny_bind (m := Builtin.Tuple.tupleExact _) (wpAny_newObj_type (wpAny_pure ⟨_, rfl, wpAny_pure h⟩) hok)))
end
/-- what t[::-1] gives -/
def tRevT (K : PySem.W.Frag) (te : TE) : TE := fun σ H Q => te σ H fun x H1 => ∃ a xs, x = .ref a ∧ SqT K H1 a xs ∧ ∀ p, H1 p = none → Q (.ref p) (upd H1 p (.tup xs.reverse))
theorem pe_revT {X : Cx} {ex : Expr} {te : TE} {kd : Nat} {q1 q2 q3 pos : Pos} (he : PE X ex te) : PE X (.Subscript ex (.Slice none none (some (.UnaryOp .USub (.Constant (.int 1) kd q1) q2)) q3) pos) (tRevT X.K te) := by
  refine ⟨fun pins s σ H Q I h => Subscript_ (thn (he.run pins s σ H _ I h) fun v s1 ⟨x, H1, I1, r1, a, xs, ex', hx, q⟩ => ?_)⟩
  subst ex'
  cases r1
  have hstep : PO X (some (.UnaryOp .USub (.Constant (.int 1) kd q1) q2)) (tPart (tUn (rU fun i => .int (-i)) (tC (.int 1)))) := po_some (pe_un un_neg pe_int)
  refine wpAny_Slice (thn (po_none.run pins s1 σ H1 (fun o Ha => o = none ∧ Ha = H1) I1 ⟨rfl, rfl⟩) fun vl s2 ⟨l, H2, I2, pl, el, e2⟩ => ?_)
  subst el e2
  refine thn (po_none.run pins s2 σ H2 (fun o Ha => o = none ∧ Ha = H2) I2 ⟨rfl, rfl⟩) fun vu s3 ⟨u, H3, I3, pu, eu, e3⟩ => ?_
  subst eu e3
  refine thn (hstep.run pins s3 σ H3 (fun o Ha => o = some (-1) ∧ Ha = H3) I3 ⟨1, rfl, -1, rfl, rfl, rfl⟩) fun vs s4 ⟨o, H4, I4, ps, eo, e4⟩ => ?_
  subst eo e4
  cases pl
  cases pu
  have I5 : Inv X pins σ H4 { s4 with heap := s4.heap.push { cls := .type "slice", data := .fields #[Value.none, Value.none, vs] } } := I4.kept (t' := s4.toks) fun b ob q => Heap.get?_push_of_some _ q
  obtain ⟨its, rv, ht, hz⟩ := I5.tuple hx
  show wpAny (model X.prog X.w) X.A (subscriptTail ex (.Slice none none (some (.UnaryOp .USub (.Constant (.int 1) kd q1) q2)) q3) (.ref a) (.ref s4.heap.objs.size)) (EP X pins σ Q) X.xe { s4 with heap := s4.heap.push { cls := .type "slice", data := .fields #[Value.none, Value.none, vs] } }
  refine tail_any (ops := [.ref a, .ref s4.heap.objs.size]) ht.typeIs PyProof.Rows.slot_tuple_getitem.lookup ?_ (by with_unfolding_all rfl)
  have hlen : its.toArray.size = xs.length := by rw [List.size_toArray]; exact rv.length.symm
  refine tuple_back ht (Heap.IsSliceOf.new _ Value.none Value.none vs) ps ?_ (by rw [hlen]; exact hz)
  refine ⟨.ref _, _, I5.laid (t' := s4.toks) (o := .tup xs.reverse) (fun b ob q => Heap.get?_push_of_some _ q) (Nat.le_refl _) ?_, rfl, q _ (I5.hok.fresh (Nat.le_refl _))⟩
  exact ⟨by rw [List.length_reverse]; exact hz, _, rv.reverse, IsTup.new _ _⟩
end MyRV

namespace My
open PySem PySem.Spec PyProof.Rows L2
abbrev sNear : Stmt := top 108
abbrev nNear : List Str := ["_law_spring_here", "_law_told_here", "_law_a", "_law_b", "_law_c", "_law_d", "_law_e", "_law_way"]
theorem scNear : FnScope nNear ["_law_spring_here", "_law_told_here"] (defScope sNear) := ⟨rfl, rfl, rfl, by decide +kernel, rfl, by decide +kernel, by decide +kernel⟩
/-- how two ladders that are near stand to one another -/
def NearR (us : List (Str × Int)) (d : Nat) (us' : List (Str × Int)) (d' : Nat) : Prop := us' = us ∧ (d' = d ∨ d' = 0) ∨ (2 ≤ us.length ∧ d' = d ∧ (us' = us.take (us.length - 1) ∨ us' = us.take (us.length - 1) ++ [((us.getD (us.length - 1) ("", 0)).1, 2 * (us.getD (us.length - 1) ("", 0)).2)]))
def spNear (K : PySem.W.Frag) : Sp := fun vs H Q _ => ∃ (a r : Addr) (us : List (Str × Int)) (d : Nat) (s : Str) (c : Bool) (l Bd : Int), vs = [.ref a, .ref r] ∧ Spr H a ∧ ToldAt K H r us d s c l ∧ Good us d s l ∧ l ≤ 100 ∧ (∀ u ∈ us, u.2 ≤ Bd) ∧ 2 * Bd ≤ 1000000000000000000 ∧
  ∀ (r' : Addr) (us' : List (Str × Int)) (d' : Nat) (s' : Str) (c' : Bool) (l' : Int) (H' : Hp), But a H H' → Spr H' a → ToldAt K H' r' us' d' s' c' l' → Good us' d' s' l' → l' ≤ 100 → (∀ u ∈ us', u.2 ≤ 2 * Bd) → (us'.getD 0 ("", 0)).1 = (us.getD 0 ("", 0)).1 → NearR us d us' d' → (s' = s ∧ c' = c ∧ l' = l ∨ us' = us ∧ d' = d) → Q (.ref r') H'
theorem cut_last {xs : List V} (h : 1 ≤ xs.length) : cutV xs none (some (-1)) = xs.take (xs.length - 1) := by
  have e : HT.sIx xs.length xs.length (some (-1)) = xs.length - 1 := by
    show (if (-1 : Int) < 0 then ((-1 : Int) + (xs.length : Int)).toNat else min (-1 : Int).toNat xs.length) = _
    rw [if_pos (by decide)]
    omega
  unfold cutV
  rw [HT.sIx_none, e, List.drop_zero, Nat.sub_zero]
theorem GoodUs.gu {us : List (Str × Int)} (g : GoodUs us) : GU us := ⟨g.hi, g.each⟩
/-- t[:-1] -/
theorem most_of {K : PySem.W.Frag} {H : Hp} {a : Addr} {xs : List V} {te : TE} {σ : L2.St} {Q : VK} {tn : TE} (ha : SqT K H a xs) (h1 : 2 ≤ xs.length) (hte : ∀ Qt : VK, Qt (.ref a) H → te σ H Qt) (hn : ∀ (H : Hp) (Qt : VK), Qt (.int (-1)) H → tn σ H Qt) (hq : ∀ c H1, Same H H1 → H c = none → SqT K H1 c (xs.take (xs.length - 1)) → Q (.ref c) H1) :
    tSl (rSlA K) te tNoPart (tPart tn) σ H Q := by
  refine hte _ (hn _ _ ⟨_, rfl, a, xs, rfl, ha, fun z => ?_, fun _ c nc => ?_⟩)
  · obtain ⟨_, z⟩ := z
    exfalso
    have : (if (-1 : Int) < 0 then ((-1 : Int) + (xs.length : Int)).toNat else min (-1 : Int).toNat xs.length) = xs.length := z
    rw [if_pos (by decide)] at this
    omega
  · refine hq c _ (same_upd nc) nc ?_
    rw [← cut_last (by omega)]
    exact SqT.of upd_same
section
variable {P : Program} {w : World} {K : PySem.W.Frag} {mg : Str → Option Value} {base : Heap}
theorem ok_near (d : Dd K mg "_law_near" sNear ["_law_spring_here", "_law_told_here"]) (dS : Dd K mg "_law_some_of" sSome ["_law_spring_here", "_law_things"]) (dG : Dd K mg "_law_gulp" sGulp ["_law_spring_here", "_law_many"]) (B : Bt mg) :
    FnOk P w K mg base CX0 4 d.f d.fd ["_law_spring_here", "_law_told_here"] (spNear K) := by
  have G : FnOk P w K mg base CX0 2 dG.f dG.fd ["_law_spring_here", "_law_many"] spGulp := ok_gulp dG.F B
  have GS : FnOk P w K mg base CX0 3 dS.f dS.fd ["_law_spring_here", "_law_things"] (spSome K) := ok_some dS.F dG.F dG.b dG.g B
  refine d.F.ok scNear (fun vs H Q E h => ?_) (fun cdv A outer s H vs Q E hr h => ?_)
  · obtain ⟨_, _, _, _, _, _, _, _, rfl, _⟩ := h
    rfl
  · obtain ⟨a, r, us, dn, z, c, l, Bd, rfl, hS, ⟨ua, hr0, hU⟩, g, hl, hBd, hBd2, q⟩ := h
    have hr1 : Room 2 _ := hr.mono (by decide)
    have nd := scNear.nd
    refine ⟨_, pss_cons (ps_asg (pv 1) (pg_tup rfl (pgs_cons (pg_name (i := 2) nd rfl (.inl rfl)) (pgs_cons (pg_name (i := 3) nd rfl (.inl rfl)) (pgs_cons (pg_name (i := 4) nd rfl (.inl rfl)) (pgs_cons (pg_name (i := 5) nd rfl (.inl rfl)) (pgs_cons (pg_name (i := 6) nd rfl (.inl rfl)) pgs_nil)))))))
      (Evl.pss_cut (ps_set (i := 7) nd rfl (.inl rfl) (pe_call G hr1 (by rfl) dG.g dG.F.kp dG.b .nil pass0 (pa_cons (pv 0) (pa_cons pe_int pa_nil))))
      (pss_cons (ps_if (pt_cmpR op_lt (pv 7) pe_int (nomark _)) (pss_one (ps_ret (pe_tup (pa_cons (pv 2) (pa_cons (pv 3) (pa_cons (pe_call GS hr (by rfl) dS.g dS.F.kp dS.b .nil pass0 (pa_cons (pv 0) (pa_cons (pe_lst (pa_cons pe_str (pa_cons pe_str (pa_cons pe_str (pa_cons pe_str pa_nil))))) pa_nil))) (pa_cons (pv 5) (pa_cons (pv 6) pa_nil)))))))) pss_nil)
      (pss_cons (ps_if (pt_cmpR op_eq (pv 7) pe_int (nomark _)) (pss_one (ps_ret (pe_tup (pa_cons (pv 2) (pa_cons (pv 3) (pa_cons (pv 4) (pa_cons (pe_not (pv 5)) (pa_cons (pv 6) pa_nil)))))))) pss_nil)
      (pss_cons (ps_if (pt_cmpR op_eq (pv 7) pe_int (nomark _)) (pss_one (ps_ret (pe_tup (pa_cons (pv 2) (pa_cons (pv 3) (pa_cons (pv 4) (pa_cons (pv 5) (pa_cons (pe_call GS hr (by rfl) dS.g dS.F.kp dS.b .nil pass0 (pa_cons (pv 0) (pa_cons (pe_lst (pa_cons pe_int (pa_cons pe_int (pa_cons (pv 6) (pa_cons pe_int pa_nil))))) pa_nil))) pa_nil)))))))) pss_nil)
      (Evl.pss_cut (ps_if (PW.pt (pw_and (pt_cmpR op_eq (pv 7) pe_int (nomark _)) (pw_and1 (pt_cmpR op_gt (pe_callB call_len_seq (by rfl) B.len PySem.boot_len (pa_cons (pv 2) pa_nil)) pe_int (nomark _))))) (pss_one (ps_ret (pe_tup (pa_cons (pe_slice sl_tupA (pv 2) po_none (po_some (pe_un un_neg pe_int))) (pa_cons (pv 3) (pa_cons (pv 4) (pa_cons (pv 5) (pa_cons (pv 6) pa_nil)))))))) pss_nil)
      (pss_cons (ps_if (pt_cmpR op_eq (pv 7) pe_int (nomark _)) (pss_one (ps_ret (pe_tup (pa_cons (pv 2) (pa_cons pe_int (pa_cons (pv 4) (pa_cons (pv 5) (pa_cons (pv 6) pa_nil)))))))) pss_nil)
      (Evl.pss_cut (ps_if (PW.pt (pw_and (pt_cmpR op_eq (pv 7) pe_int (nomark _)) (pw_and1 (pt_cmpR op_gt (pe_callB call_len_seq (by rfl) B.len PySem.boot_len (pa_cons (pv 2) pa_nil)) pe_int (nomark _))))) (pss_one (ps_ret (pe_tup (pa_cons
          (pe_op op_catA (pe_slice sl_tupA (pv 2) po_none (po_some (pe_un un_neg pe_int))) (pe_tup (pa_cons (pe_tup (pa_cons (pe_ix ix_tup (pe_ix ix_tup (pv 2) (pe_un un_neg pe_int) (fun _ _ => rfl)) pe_int (fun _ _ => rfl)) (pa_cons (pe_op op_mul pe_int (pe_ix ix_tup (pe_ix ix_tup (pv 2) (pe_un un_neg pe_int) (fun _ _ => rfl)) pe_int (fun _ _ => rfl))) pa_nil))) pa_nil)))
          (pa_cons (pv 3) (pa_cons (pv 4) (pa_cons (pv 5) (pa_cons (pv 6) pa_nil)))))))) pss_nil)
      (pss_one (ps_ret (pv 1)))))))))), ?_⟩
    refine ⟨_, rfl, r, _, rfl, hr0, rfl, _, _, rfl, _, _, rfl, _, _, rfl, _, _, rfl, _, _, rfl, rfl, ?_⟩
    have big2 : ∀ u ∈ us, u.2 ≤ 2 * Bd := fun u hu => by
      have h1 := hBd u hu
      obtain ⟨i, hi⟩ := List.getElem?_of_mem hu
      have := (g.u.each i u hi).2.1
      omega
    refine ⟨fun σ' H' => ∃ way : Int, σ' = [some (.ref a), some (.ref r), some (.ref ua), some (.int (dn : Int)), some (.str z), some (.bl c), some (.int l), some (.int way)] ∧ But a H H' ∧ Spr H' a ∧ SqT K H' r [.ref ua, .int (dn : Int), .str z, .bl c, .int l] ∧ UA K H' ua us, ?_, ?_⟩
    · refine ⟨_, rfl, a, 8, rfl, hS, by decide, by decide, fun way H1 w0 w1 s1 b1 => ?_⟩
      exact ⟨way, rfl, b1, s1, b1.sqtS hS hr0, UA.butS hS b1 hU⟩
    rintro σ' H1 ⟨way, rfl, b1, s1, hr1', hU1⟩
    have nal : ∀ {H1 : Hp} {p : Addr}, Spr H1 a → H1 p = none → p ≠ a := fun ⟨_, _, _, e⟩ n => (ne_of_none e n).symm
    have fin : ∀ {H' : Hp} {t ua' : Addr} {us' : List (Str × Int)} {d' : Nat} {s' : Str} {c' : Bool} {l' : Int}, But a H H' → Spr H' a → SqT K H' t [.ref ua', .int (d' : Int), .str s', .bl c', .int l'] → UA K H' ua' us' → Good us' d' s' l' → l' ≤ 100 → (∀ u ∈ us', u.2 ≤ 2 * Bd) → (us'.getD 0 ("", 0)).1 = (us.getD 0 ("", 0)).1 → NearR us dn us' d' → (s' = z ∧ c' = c ∧ l' = l ∨ us' = us ∧ d' = dn) → Q (.ref t) H' :=
      fun hb hs ht hu hg h1 h2 h3 h4 h5 => q _ _ _ _ _ _ _ hb hs ⟨_, ht, hu⟩ hg h1 h2 h3 h4 h5
    have hl1 := g.l1
    obtain ⟨ps, hua, hup⟩ := id hU1
    have el := UP.len hup
    -- another rounding
    refine ⟨_, rfl, _, _, rfl, rfl, _, rfl, ite2 (fun _ => ?_) (fun _ => ?_)⟩
    · refine ⟨_, rfl, _, rfl, _, rfl, (by show 4 ≤ sizeLine; decide), fun p2 np2 => ⟨a, p2, _, rfl, s1.same (same_upd np2), .inl (SqL.of upd_same), nal s1 np2, by simp, (by show 4 < 1000; decide), fun v H4 hv s4 b4 => ?_⟩⟩
      obtain ⟨z', hz, rfl⟩ : ∃ z', z' ∈ sorts ∧ v = .str z' := by
        have hv' : v = .str "down" ∨ v = .str "up" ∨ v = .str "near" ∨ v = .str "even" := by simpa using hv
        unfold sorts
        rcases hv' with rfl | rfl | rfl | rfl <;> exact ⟨_, by simp, rfl⟩
      have sp2 := same_upd np2 (o := .lst [.str "down", .str "up", .str "near", .str "even"])
      refine ⟨_, rfl, _, rfl, (by show 5 ≤ sizeLine; decide), fun t nt => ?_⟩
      have st := same_upd nt (o := .tup [.ref ua, .int (dn : Int), .str z', .bl c, .int l])
      exact fin (((b1.trans (Same.but sp2)).trans b4).trans (Same.but st)) (s4.same st) (SqT.of upd_same) ((UA.butS (s1.same sp2) b4 (hU1.same sp2)).same st) ⟨g.u, g.d3, g.div, hz, g.l1, g.l2⟩ hl big2 rfl (.inl ⟨rfl, .inl rfl⟩) (.inr ⟨rfl, rfl⟩)
    -- another carry
    refine ⟨_, rfl, rfl, _, rfl, ite2 (fun _ => ?_) (fun _ => ?_)⟩
    · refine ⟨_, rfl, _, rfl, _, rfl, _, rfl, c, rfl, _, rfl, (by show 5 ≤ sizeLine; decide), fun t nt => ?_⟩
      have st := same_upd nt (o := .tup [.ref ua, .int (dn : Int), .str z, .bl (!c), .int l])
      exact fin (b1.trans (Same.but st)) (s1.same st) (SqT.of upd_same) (hU1.same st) g hl big2 rfl (.inl ⟨rfl, .inl rfl⟩) (.inr ⟨rfl, rfl⟩)
    -- another least
    refine ⟨_, rfl, rfl, _, rfl, ite2 (fun _ => ?_) (fun _ => ?_)⟩
    · refine ⟨_, rfl, _, rfl, _, rfl, _, rfl, _, rfl, _, rfl, (by show 4 ≤ sizeLine; decide), fun p2 np2 => ⟨a, p2, _, rfl, s1.same (same_upd np2), .inl (SqL.of upd_same), nal s1 np2, by simp, (by show 4 < 1000; decide), fun v H4 hv s4 b4 => ?_⟩⟩
      obtain ⟨l', h1, h2, rfl⟩ : ∃ l' : Int, 1 ≤ l' ∧ l' ≤ 100 ∧ v = .int l' := by
        have hv' : v = .int 1 ∨ v = .int 2 ∨ v = .int l ∨ v = .int 7 := by simpa using hv
        rcases hv' with rfl | rfl | rfl | rfl
        · exact ⟨1, by decide, by decide, rfl⟩
        · exact ⟨2, by decide, by decide, rfl⟩
        · exact ⟨l, hl1, hl, rfl⟩
        · exact ⟨7, by decide, by decide, rfl⟩
      have sp2 := same_upd np2 (o := .lst [.int 1, .int 2, .int l, .int 7])
      refine ⟨(by show 5 ≤ sizeLine; decide), fun t nt => ?_⟩
      have st := same_upd nt (o := .tup [.ref ua, .int (dn : Int), .str z, .bl c, .int l'])
      exact fin (((b1.trans (Same.but sp2)).trans b4).trans (Same.but st)) (s4.same st) (SqT.of upd_same) ((UA.butS (s1.same sp2) b4 (hU1.same sp2)).same st) ⟨g.u, g.d3, g.div, g.srt, h1, by omega⟩ h2 big2 rfl (.inl ⟨rfl, .inl rfl⟩) (.inr ⟨rfl, rfl⟩)
    -- one unit less
    have less : 2 ≤ us.length → Good (us.take (us.length - 1)) dn z l := fun h2 => ⟨(g.u.gu.take _).good (by rw [List.length_take]; omega), g.d3, fun u hu => g.div u (by
      rw [List.drop_take] at hu
      exact List.mem_of_mem_take hu), g.srt, g.l1, g.l2⟩
    refine ⟨fun σ' H' => σ' = [some (.ref a), some (.ref r), some (.ref ua), some (.int (dn : Int)), some (.str z), some (.bl c), some (.int l), some (.int way)] ∧ H' = H1, ?_, ?_⟩
    · refine ⟨_, rfl, rfl, _, rfl, ite2 (fun _ => ?_) (fun _ => ⟨rfl, rfl⟩)⟩
      refine ⟨_, rfl, ua, _, rfl, .inr hua, _, 1, rfl, rfl, _, rfl, ite2 (fun e => ?_) (fun _ => ⟨rfl, rfl⟩)⟩
      have e2 : (1 : Int) < ((ps.map V.ref).length : Int) := of_decide_eq_true e
      rw [List.length_map, el] at e2
      refine most_of (te := tVar 2) hua (by rw [List.length_map]; omega) (fun Qt h => ⟨_, rfl, h⟩) (fun H Qt h => ⟨1, rfl, h⟩) fun cc H2 s2 nc hc => ?_
      rw [List.length_map, el, ← List.map_take] at hc
      refine ⟨_, rfl, _, rfl, _, rfl, _, rfl, (by show 5 ≤ sizeLine; decide), fun t nt => ?_⟩
      have st := same_upd nt (o := .tup [.ref cc, .int (dn : Int), .str z, .bl c, .int l])
      have s12 := s2.trans st
      exact fin (b1.trans (Same.but s12)) (s1.same s12) (SqT.of upd_same) ⟨_, same_sqt st hc, paired_take _ (paired_imp (fun _ _ => same_sqt s12) hup)⟩ (less (by omega)) hl (fun u hu => big2 u (List.mem_of_mem_take hu)) (by rw [List.getD_eq_getElem?_getD, List.getD_eq_getElem?_getD, List.getElem?_take, if_pos (by omega)]) (.inr ⟨by omega, rfl, .inl rfl⟩) (.inl ⟨rfl, rfl, rfl⟩)
    rintro σ' H1' ⟨rfl, rfl⟩
    -- no decimals
    refine ⟨_, rfl, rfl, _, rfl, ite2 (fun _ => ?_) (fun _ => ?_)⟩
    · refine ⟨_, rfl, _, rfl, _, rfl, _, rfl, (by show 5 ≤ sizeLine; decide), fun t nt => ?_⟩
      have st := same_upd nt (o := .tup [.ref ua, .int 0, .str z, .bl c, .int l])
      refine fin (d' := 0) (b1.trans (Same.but st)) (s1.same st) (SqT.of upd_same) (hU1.same st) ⟨g.u, by decide, fun u hu => ?_, g.srt, g.l1, g.l2⟩ hl big2 rfl (.inl ⟨rfl, .inr rfl⟩) (.inl ⟨rfl, rfl, rfl⟩)
      have h1 := g.div u hu
      show u.2 % (2 * 1) = 0
      have h2 : (2 : Int) ∣ u.2 := Int.dvd_trans ⟨10 ^ dn, rfl⟩ (Int.dvd_of_emod_eq_zero h1)
      exact Int.emod_eq_zero_of_dvd h2
    -- a greater last unit
    refine ⟨fun σ' H' => σ' = [some (.ref a), some (.ref r), some (.ref ua), some (.int (dn : Int)), some (.str z), some (.bl c), some (.int l), some (.int way)] ∧ H' = H1', ?_, ?_⟩
    · refine ⟨_, rfl, rfl, _, rfl, ite2 (fun _ => ?_) (fun _ => ⟨rfl, rfl⟩)⟩
      refine ⟨_, rfl, ua, _, rfl, .inr hua, _, 1, rfl, rfl, _, rfl, ite2 (fun e => ?_) (fun _ => ⟨rfl, rfl⟩)⟩
      have e2 : (1 : Int) < ((ps.map V.ref).length : Int) := of_decide_eq_true e
      rw [List.length_map, el] at e2
      have hlt : us.length - 1 < us.length := by omega
      have hul : us[us.length - 1]? = some us[us.length - 1] := List.getElem?_eq_getElem hlt
      obtain ⟨pl, hpl, hsl⟩ := paired_at hup hul
      obtain ⟨n1, n2, n3, n4⟩ := g.u.each _ _ hul
      have hBl := hBd _ (List.mem_of_getElem? hul)
      refine most_of (te := tVar 2) hua (by rw [List.length_map]; omega) (fun Qt h => ⟨_, rfl, h⟩) (fun H Qt h => ⟨1, rfl, h⟩) fun cc H2 s2 nc hc => ?_
      rw [List.length_map, el, ← List.map_take] at hc
      have hat : ∀ {Hx : Hp}, SqT K Hx ua (ps.map V.ref) → True := fun _ => trivial
      refine ⟨_, rfl, 1, rfl, ua, _, -1, .ref pl, rfl, rfl, same_sqt s2 hua, atI_end (by rw [List.length_map]; omega) (by rw [List.length_map, el]; exact get_ref hpl), pl, _, 0, .str us[us.length - 1].1, rfl, rfl, same_sqt s2 hsl, rfl, ?_⟩
      refine ⟨_, rfl, 1, rfl, ua, _, -1, .ref pl, rfl, rfl, same_sqt s2 hua, atI_end (by rw [List.length_map]; omega) (by rw [List.length_map, el]; exact get_ref hpl), pl, _, 1, .int us[us.length - 1].2, rfl, rfl, same_sqt s2 hsl, rfl, 2, _, rfl, rfl, .inl ⟨by decide, by decide⟩, (by show 2 ≤ sizeLine; decide), fun t1 nt1 => ⟨(by show 1 ≤ sizeLine; decide), fun t2 nt2 => ?_⟩⟩
      have st1 := same_upd nt1 (o := .tup [.str us[us.length - 1].1, .int (2 * us[us.length - 1].2)])
      have st2 := same_upd nt2 (o := .tup [.ref t1])
      have st12 := st1.trans st2
      refine ⟨cc, t2, (ps.take (us.length - 1)).map V.ref, [.ref t1], rfl, rfl, same_sqt st12 hc, SqT.of upd_same, ?_, fun ee => ?_, (fun _ (ee : [V.ref t1] = []) => nomatch ee), fun _ _ x nx => ?_⟩
      · rw [List.length_map, List.length_take]
        have := g.u.hi
        exact Nat.le_trans (show min (us.length - 1) ps.length + 1 ≤ 7 by omega) (by decide)
      · exfalso
        have hz : ((ps.take (us.length - 1)).map V.ref).length = 0 := by rw [ee]; rfl
        rw [List.length_map, List.length_take] at hz
        omega
      have sx := same_upd nx (o := .tup ((ps.take (us.length - 1)).map V.ref ++ [.ref t1]))
      refine ⟨_, rfl, _, rfl, _, rfl, _, rfl, (by show 5 ≤ sizeLine; decide), fun t nt => ?_⟩
      have st := same_upd nt (o := .tup [.ref x, .int (dn : Int), .str z, .bl c, .int l])
      have sall := ((s2.trans st12).trans sx).trans st
      have hnew : UA K _ x (us.take (us.length - 1) ++ [(us[us.length - 1].1, 2 * us[us.length - 1].2)]) := ⟨ps.take (us.length - 1) ++ [t1], by
        rw [List.map_append]
        exact SqT.of (st _ _ upd_same), PySem.Paired.snoc (paired_take _ (paired_imp (fun _ _ => same_sqt sall) hup)) (SqT.of (st _ _ (sx _ _ (st2 _ _ upd_same))))⟩
      have gl := less (by omega)
      have lastget : us[us.length - 1] = us.getD (us.length - 1) ("", 0) := by rw [List.getD_eq_getElem?_getD, List.getElem?_eq_getElem (show us.length - 1 < us.length by omega)]; rfl
      have el2 : (us.take (us.length - 1)).length = us.length - 1 := by rw [List.length_take]; omega
      have hgood : GoodUs (us.take (us.length - 1) ++ [(us[us.length - 1].1, 2 * us[us.length - 1].2)]) := by
        refine (gl.u.gu.snoc (u := (us[us.length - 1].1, 2 * us[us.length - 1].2)) (by rw [el2]; have := g.u.hi; omega) n1 (by show 1 ≤ 2 * us[us.length - 1].2; omega) (by show 2 * us[us.length - 1].2 ≤ _; omega) ?_).good (by rw [List.length_append]; show 1 ≤ _ + 1; omega)
        rcases n4 with ⟨e0, _⟩ | ⟨lu, m1, m2, m3, m4, m5, m6⟩
        · exfalso
          rw [e0] at el2
          simp at el2
          omega
        · refine .inr ⟨lu, m1, m2, m3, by show lu.2 < 2 * us[us.length - 1].2; omega, ?_, m6⟩
          show (2 * us[us.length - 1].2) % lu.2 = 0
          rw [Int.mul_emod, m5, Int.mul_zero]
          rfl
      refine fin (b1.trans (Same.but sall)) (s1.same sall) (SqT.of upd_same) hnew ⟨hgood, g.d3, fun u hu => ?_, g.srt, g.l1, g.l2⟩ hl (fun u hu => ?_) (by rw [List.getD_eq_getElem?_getD, List.getD_eq_getElem?_getD, List.getElem?_append_left (by rw [el2]; omega), List.getElem?_take, if_pos (by omega)]) (.inr ⟨by omega, rfl, .inr (by rw [lastget])⟩) (.inl ⟨rfl, rfl, rfl⟩)
      · have hm : u ∈ (us.take (us.length - 1)).drop 1 ∨ u = (us[us.length - 1].1, 2 * us[us.length - 1].2) := by
          rw [List.drop_append_of_le_length (by rw [el2]; omega)] at hu
          rcases List.mem_append.mp hu with k | k
          · exact .inl k
          · exact .inr (List.mem_singleton.mp k)
        rcases hm with k | k
        · exact gl.div u k
        · subst k
          have hd : us[us.length - 1] ∈ us.drop 1 := by
            refine List.mem_of_getElem? (i := us.length - 2) ?_
            rw [List.getElem?_drop, show 1 + (us.length - 2) = us.length - 1 by omega]
            exact hul
          have h1 := g.div _ hd
          show (2 * us[us.length - 1].2) % (2 * 10 ^ dn) = 0
          rw [Int.mul_emod, h1, Int.mul_zero]
          rfl
      · rcases List.mem_append.mp hu with k | k
        · exact big2 u (List.mem_of_mem_take k)
        · have k2 := List.mem_singleton.mp k
          subst k2
          show 2 * us[us.length - 1].2 ≤ 2 * Bd
          omega
    rintro σ' H1'' ⟨rfl, rfl⟩
    exact ⟨_, rfl, fin b1 s1 hr1' hU1 g hl big2 rfl (.inl ⟨rfl, .inl rfl⟩) (.inr ⟨rfl, rfl⟩)⟩
end
end My

namespace My
open PySem PySem.Spec PyProof.Rows L2
/-! ### rows of figures and their ranges -/
/-- a figure of a ladder, by its unit and mark -/
abbrev FKey := Nat × Int
def KeyOk (us : List (Str × Int)) (k : FKey) : Prop := k.1 < us.length ∧ 0 ≤ k.2 ∧ k.2 < 10 ^ 24
abbrev lowK (us : List (Str × Int)) (d : Nat) (s : Str) (c : Bool) (l : Int) (k : FKey) : Int := lowM us d s c l k.1 k.2
abbrev highK (us : List (Str × Int)) (d : Nat) (s : Str) (c : Bool) (l : Int) (k : FKey) : Int := highM us d s c l k.1 k.2
abbrev textK (us : List (Str × Int)) (d : Nat) (k : FKey) : Str := writ us d k.1 k.2
/-- what stands for a row: a range, or none -/
def RowV (K : PySem.W.Frag) (H : Hp) (v : V) (lo hi : Int) : Prop := (hi < lo ∧ v = .non) ∨ (lo ≤ hi ∧ ∃ p : Addr, v = .ref p ∧ SqT K H p [.int lo, .int hi])
theorem RowV.same {K : PySem.W.Frag} {H H' : Hp} {v : V} {lo hi : Int} (k : Same H H') (h : RowV K H v lo hi) : RowV K H' v lo hi := by
  rcases h with h | ⟨h, p, e, q⟩
  · exact .inl h
  · exact .inr ⟨h, p, e, same_sqt k q⟩
theorem RowV.updL {K : PySem.W.Frag} {H : Hp} {L : Addr} {xs ys : List V} {v : V} {lo hi : Int} (hL : H L = some (.lst xs)) (h : RowV K H v lo hi) : RowV K (upd H L (.lst ys)) v lo hi := by
  rcases h with h | ⟨h, p, e, q⟩
  · exact .inl h
  · exact .inr ⟨h, p, e, (But.upd L _ _).sqt hL rfl q⟩
def dataR (lo hi : Int) : PyData := if hi < lo then .none else .tuple [.int lo, .int hi]
theorem dpR {K : PySem.W.Frag} {H : Hp} {v : V} {lo hi : Int} (h : RowV K H v lo hi) : Dp K H v (dataR lo hi) := by
  rcases h with ⟨h, rfl⟩ | ⟨h, p, rfl, q⟩
  · rw [dataR, if_pos h]
    exact .non
  · rw [dataR, if_neg (Int.not_lt.mpr h)]
    exact .tup q (.cons (.int _) (.cons (.int _) .nil))
theorem dpRs {K : PySem.W.Frag} {H : Hp} {α : Type} {f g : α → Int} : ∀ {vs : List V} {ks : List α}, PySem.Paired (fun v k => RowV K H v (f k) (g k)) vs ks → DpAll K H vs (ks.map fun k => dataR (f k) (g k))
  | _, _, .nil => .nil
  | _, _, .cons r t => .cons (dpR r) (dpRs t)
theorem dataR_lay (lo hi : Int) : (dataR lo hi).canLay0 = true := by
  unfold dataR
  split <;> simp [PyData.canLay0, PyData.canLayAll0]
theorem dataR_depth (lo hi : Int) : (dataR lo hi).depth ≤ 2 := by
  unfold dataR
  split <;> simp [PyData.depth, PyData.depthAll]
theorem dataRs_lay {α : Type} (f g : α → Int) : ∀ ks : List α, PyData.canLayAll0 (ks.map fun k => dataR (f k) (g k)) = true
  | [] => by simp [PyData.canLayAll0]
  | k :: r => by
    have h := dataRs_lay f g r
    simp only [List.map_cons, PyData.canLayAll0, Bool.and_eq_true]
    exact ⟨dataR_lay _ _, h⟩
theorem dataRs_depth {α : Type} (f g : α → Int) : ∀ ks : List α, PyData.depthAll (ks.map fun k => dataR (f k) (g k)) ≤ 3
  | [] => by simp [PyData.depthAll]
  | k :: r => by
    have h := dataRs_depth f g r
    have h1 := dataR_depth (f k) (g k)
    simp only [List.map_cons, PyData.depthAll]
    omega
theorem dataRs_shaped {α : Type} (f g : α → Int) (ks : List α) : SeqAt.shaped (.list (ks.map fun k => dataR (f k) (g k))) = true := by
  have h1 := dataRs_lay f g ks
  have h2 := dataRs_depth f g ks
  show ((PyData.list _).canLay0 && decide ((PyData.list _).depth ≤ 64)) = true
  rw [Bool.and_eq_true]
  refine ⟨by simp only [PyData.canLay0]; exact h1, decide_eq_true ?_⟩
  simp only [PyData.depth]
  omega
theorem non_shaped : SeqAt.shaped .none = true := by
  simp [SeqAt.shaped, PyData.canLay0, PyData.depth]
theorem dataR_eqv (lo hi : Int) : PyData.eqv (dataR lo hi) .none = decide (hi < lo) := by
  unfold dataR
  split
  · rename_i h
    rw [decide_eq_true h]
    simp [PyData.eqv]
  · rename_i h
    rw [decide_eq_false h]
    simp [PyData.eqv]
theorem dataRs_any {α : Type} (f g : α → Int) (ks : List α) : ((ks.map fun k => dataR (f k) (g k)).any fun z => PyData.eqv z .none) = ks.any fun k => decide (g k < f k) := by
  rw [List.any_map]
  congr 1
  funext k
  exact dataR_eqv _ _
/-- the pairs of the ranges stand -/
theorem rows_refs {K : PySem.W.Frag} {H : Hp} {α : Type} {f g : α → Int} : ∀ {vs : List V} {ks : List α}, PySem.Paired (fun v k => RowV K H v (f k) (g k)) vs ks → (∀ k ∈ ks, f k ≤ g k) →
    ∃ ps : List Addr, vs = ps.map V.ref ∧ PySem.Paired (fun p k => SqT K H p [.int (f k), .int (g k)]) ps ks
  | _, _, .nil, _ => ⟨[], rfl, .nil⟩
  | _, _, .cons r t, h => by
    obtain ⟨ps, rfl, hp⟩ := rows_refs t fun k hk => h k (List.mem_cons_of_mem _ hk)
    rcases r with ⟨hlt, _⟩ | ⟨_, p, rfl, hq⟩
    · exact absurd (h _ (List.mem_cons_self ..)) (by omega)
    · exact ⟨p :: ps, rfl, .cons hq hp⟩
abbrev sRangesOf : Stmt := top 61
abbrev nRangesOf : List Str := ["ladder", "texts", "ranges", "text", "unit", "mark"]
theorem scRangesOf : FnScope nRangesOf ["ladder", "texts"] (defScope sRangesOf) := ⟨rfl, rfl, rfl, by decide +kernel, rfl, by decide +kernel, by decide +kernel⟩
def spRangesOf (K : PySem.W.Frag) (C : Addr) : Sp := fun vs H Q _ => ∃ (a t : Addr) (us : List (Str × Int)) (d : Nat) (s : Str) (c : Bool) (l : Int) (ks : List FKey), vs = [.ref a, .ref t] ∧ LadAt K C H a us d s c l ∧ Good us d s l ∧ SqT K H t (ks.map fun k => V.str (textK us d k)) ∧
  ks.length ≤ 1000 ∧ (∀ k ∈ ks, KeyOk us k) ∧ ((∃ k ∈ ks, highK us d s c l k < lowK us d s c l k) → ∀ H', Same H H' → Q .non H') ∧
  ((∀ k ∈ ks, lowK us d s c l k ≤ highK us d s c l k) → ∀ (r : Addr) (ps : List Addr) (H' : Hp), Same H H' → H r = none → H' r = some (.lst (ps.map V.ref)) → PySem.Paired (fun p k => SqT K H' p [.int (lowK us d s c l k), .int (highK us d s c l k)]) ps ks → Q (.ref r) H')
section
variable {P : Program} {w : World} {K : PySem.W.Frag} {mg : Str → Option Value} {base : Heap}
theorem ok_rangesof {C : Addr} (d : Dd K mg "ranges_of" sRangesOf ["ladder", "texts"]) (dF : Dd K mg "parts_of" sPartsOf ["ladder", "text"]) (dM : Dd K mg "numbers_shown" sNums ["ladder", "place", "mark"])
    (GF : FnOk P w K mg base CX0 3 dF.f dF.fd ["ladder", "text"] (spPartsOf K C)) (GM : FnOk P w K mg base CX0 4 dM.f dM.fd ["ladder", "place", "mark"] (spNums K C)) :
    FnOk P w K mg base CX0 5 d.f d.fd ["ladder", "texts"] (spRangesOf K C) := by
  refine d.F.ok scRangesOf (fun vs H Q E h => ?_) (fun cdv A outer s H vs Q E hr h => ?_)
  · obtain ⟨_, _, _, _, _, _, _, _, rfl, _⟩ := h
    rfl
  · obtain ⟨a, t, us, dn, z, c, l, ks, rfl, hL, g, hT, hlen, hk, q0, q1⟩ := h
    have hr2 : Room 3 _ := hr.mono (by decide)
    have nd := scRangesOf.nd
    have hu : (A.deeper (envOfC "ranges_of" (defScope sRangesOf) s.heap.objs.size d.f cdv)).units + 65 < cLine := by have := hr.un; omega
    refine ⟨_, pss_cons (ps_set (i := 2) nd rfl (.inl rfl) (pe_lst pa_nil))
      (pss_cons (ps_for PassesOwn.never rfl (pi_tup (pv 1)) (pg_name (i := 3) nd rfl (.inl rfl))
        (pss_cons (ps_asg (pe_call GF hr2 (by rfl) dF.g dF.F.kp dF.b .nil pass0 (pa_cons (pv 0) (pa_cons (pv 3) pa_nil))) (pg_tup rfl (pgs_cons (pg_name (i := 4) nd rfl (.inl rfl)) (pgs_cons (pg_name (i := 5) nd rfl (.inl rfl)) pgs_nil))))
        (pss_one (ps_expr (pe_bm PySem.F.plainAttrs_list PySem.F.slot_list_append PySem.F.type_list_append mt_append (pv 2) (pa_cons (pe_call GM hr (by rfl) dM.g dM.F.kp dM.b .nil pass0 (pa_cons (pv 0) (pa_cons (pv 4) (pa_cons (pv 5) pa_nil)))) pa_nil))))))
      (pss_cons (ps_if (pt_cmpR (op_inD hu) pe_non (pv 2) (by rfl)) (pss_one (ps_ret pe_non)) pss_nil)
      (pss_one (ps_ret (pv 2))))), ?_⟩
    refine ⟨Nat.zero_le _, fun L nL => ?_⟩
    have sL := same_upd nL (o := .lst [])
    refine ⟨.ref t, rfl, t, rfl, ⟨_, same_sqt sL hT⟩, for_tup (K := K) (a := t) (xs := ks.map fun k => V.str (textK us dn k)) (fun i σ H2 => (∃ v3 v4 v5, σ = [some (.ref a), some (.ref t), some (.ref L), v3, v4, v5]) ∧ Same H H2 ∧
      ∃ vs, H2 L = some (.lst vs) ∧ PySem.Paired (fun v k => RowV K H2 v (lowK us dn z c l k) (highK us dn z c l k)) vs (ks.take i)) ⟨⟨_, _, _, rfl⟩, sL, [], upd_same, .nil⟩ (fun i σ H2 _ h => same_sqt h.2.1 hT) ?_ ?_⟩
    · rintro i x σ H2 hi ⟨⟨v3, v4, v5, rfl⟩, sm, vs, hL2, hp⟩
      rw [List.getElem?_map] at hi
      obtain ⟨k, hk2, rfl⟩ := Option.map_eq_some_iff.mp hi
      obtain ⟨k1, k2, k3⟩ := hk k (List.mem_of_getElem? hk2)
      have hi2 : i < ks.length := (List.getElem?_eq_some_iff.mp hk2).1
      refine ⟨_, rfl, _, rfl, a, us, dn, z, c, l, k.1, k.2, rfl, hL.same sm, g, k1, k2, k3, fun r H3 s3 hr3 => ?_⟩
      refine ⟨r, _, rfl, hr3, rfl, _, _, rfl, _, _, rfl, rfl, ?_⟩
      have hL3 := s3 _ _ hL2
      have hlv : vs.length = i := by
        rw [hp.length, List.length_take]
        omega
      have fin : ∀ (x : V) (H4 : Hp), Same H3 H4 → RowV K H4 x (lowK us dn z c l k) (highK us dn z c l k) → Same H (upd H4 L (.lst (vs ++ [x]))) ∧ ∃ vs', (upd H4 L (.lst (vs ++ [x]))) L = some (.lst vs') ∧ PySem.Paired (fun v k => RowV K (upd H4 L (.lst (vs ++ [x]))) v (lowK us dn z c l k) (highK us dn z c l k)) vs' (ks.take (i + 1)) := by
        intro x H4 s4 hx
        have hL4 := s4 _ _ hL3
        refine ⟨fun b o e => ?_, _, upd_same, ?_⟩
        · rw [upd_ne (ne_of_none e nL)]
          exact s4 _ _ (s3 _ _ (sm _ _ e))
        · rw [List.take_add_one, hk2]
          refine PySem.Paired.snoc (paired_imp (fun _ _ h => ((h.same s3).same s4).updL hL4) hp) (hx.updL hL4)
      have hsz : vs.length < sizeLine := by
        rw [hlv]
        exact Nat.lt_of_lt_of_le (Nat.lt_of_lt_of_le hi2 hlen) (by decide)
      refine ⟨_, rfl, .inl ⟨rfl, _, SqL.of hL3⟩, _, rfl, _, rfl, _, rfl, a, us, dn, z, c, l, k.1, k.2, rfl, (hL.same sm).same s3, g, k1, fun y => ?_, fun y rr H4 s4 hrr => ?_⟩
      · refine ⟨L, _, _, rfl, rfl, hL3, hsz, ?_⟩
        obtain ⟨f1, f2⟩ := fin .non H3 (Same.refl _) (.inl ⟨y, rfl⟩)
        exact ⟨⟨_, _, _, rfl⟩, f1, f2⟩
      · refine ⟨L, _, _, rfl, rfl, s4 _ _ hL3, hsz, ?_⟩
        obtain ⟨f1, f2⟩ := fin (.ref rr) H4 s4 (.inr ⟨y, rr, rfl, hrr⟩)
        exact ⟨⟨_, _, _, rfl⟩, f1, f2⟩
    · rintro σ H2 ⟨⟨v3, v4, v5, rfl⟩, sm, vs, hL2, hp⟩
      rw [List.length_map, List.take_length] at hp
      refine ⟨.ref L, rfl, .none, _, .non, .lst (SqL.of hL2) (dpRs hp), non_shaped, dataRs_shaped _ _ ks, _, rfl, ?_⟩
      rw [dataRs_any]
      refine ite2 (fun e => ?_) (fun e => ?_)
      · rw [List.any_eq_true] at e
        obtain ⟨k, h1, h2⟩ := e
        exact q0 ⟨k, h1, of_decide_eq_true h2⟩ H2 sm
      · have hall : ∀ k ∈ ks, lowK us dn z c l k ≤ highK us dn z c l k := fun k hk => by
          refine Int.not_lt.mp fun y => e ?_
          rw [List.any_eq_true]
          exact ⟨k, hk, decide_eq_true y⟩
        obtain ⟨ps, rfl, hps⟩ := rows_refs hp hall
        exact ⟨_, rfl, q1 hall L ps H2 sm nL hL2 hps⟩
end
end My

namespace My
open PySem PySem.Spec PyProof.Rows L2
/-! ### check_texts, checked_ranges -/
abbrev sCTexts : Stmt := top 60
abbrev nCTexts : List Str := ["ladder", "texts", "place", "text"]
theorem scCTexts : FnScope nCTexts ["ladder", "texts"] (defScope sCTexts) := ⟨rfl, rfl, rfl, by decide +kernel, rfl, by decide +kernel, by decide +kernel⟩
def spCTexts (K : PySem.W.Frag) (C : Addr) : Sp := fun vs H Q _ => ∃ (a t : Addr) (us : List (Str × Int)) (d : Nat) (s : Str) (c : Bool) (l : Int) (ks : List FKey), vs = [.ref a, .ref t] ∧ LadAt K C H a us d s c l ∧ Good us d s l ∧ SqT K H t (ks.map fun k => V.str (textK us d k)) ∧
  ks.length ≤ 12 ∧ (∀ k ∈ ks, KeyOk us k) ∧ ∀ H', Same H H' → Q .non H'
def spCRanges (K : PySem.W.Frag) (C : Addr) : Sp := fun vs H Q _ => ∃ (a t : Addr) (us : List (Str × Int)) (d : Nat) (s : Str) (c : Bool) (l : Int) (ks : List FKey), vs = [.ref a, .ref t] ∧ LadAt K C H a us d s c l ∧ Good us d s l ∧ SqT K H t (ks.map fun k => V.str (textK us d k)) ∧
  ks.length ≤ 12 ∧ (∀ k ∈ ks, KeyOk us k) ∧ ((∃ k ∈ ks, highK us d s c l k < lowK us d s c l k) → ∀ H', Same H H' → Q .non H') ∧
  ((∀ k ∈ ks, lowK us d s c l k ≤ highK us d s c l k) → ∀ (r : Addr) (ps : List Addr) (H' : Hp), Same H H' → H r = none → H' r = some (.lst (ps.map V.ref)) → PySem.Paired (fun p k => SqT K H' p [.int (lowK us d s c l k), .int (highK us d s c l k)]) ps ks → Q (.ref r) H')
section
variable {P : Program} {w : World} {K : PySem.W.Frag} {mg : Str → Option Value} {base : Heap}
theorem ok_ctexts {C : Addr} (d : Dd K mg "check_texts" sCTexts ["ladder", "texts"]) (dF : Dd K mg "parts_of" sPartsOf ["ladder", "text"]) (B : Bt mg) (gR : ∃ t, mg "MOST_ROWS" = some (.int 12 t))
    (GF : FnOk P w K mg base CX0 3 dF.f dF.fd ["ladder", "text"] (spPartsOf K C)) : FnOk P w K mg base CX0 4 d.f d.fd ["ladder", "texts"] (spCTexts K C) := by
  obtain ⟨t1, g1⟩ := gR
  refine d.F.ok scCTexts (fun vs H Q E h => ?_) (fun cdv A outer s H vs Q E hr h => ?_)
  · obtain ⟨_, _, _, _, _, _, _, _, rfl, _⟩ := h
    rfl
  · obtain ⟨a, t, us, dn, z, c, l, ks, rfl, hL, g, hT, hlen, hk, q⟩ := h
    have nd := scCTexts.nd
    refine ⟨_, pss_cons (ps_if (PW.pt (pw_or (pt_not (pt_val (pe_callB call_isi (by rfl) B.isinstance (by decide +kernel) (pa_cons (pv 1) (pa_cons (pe_bltn (v := .ty "tuple") (by rfl) B.tuple (by decide +kernel) rfl) pa_nil)))))
        (pw_or1 (pt_cmpR op_gt (pe_callB call_len_seq (by rfl) B.len PySem.boot_len (pa_cons (pv 1) pa_nil)) (pe_glob (v := .int 12) (by rfl) g1 ⟨_, rfl⟩) (nomark _))))) (pss_one ps_never) pss_nil)
      (pss_one (ps_for PassesOwn.never rfl (pi_enT (by rfl) B.enumerate (pa_cons (pv 1) pa_nil)) (pg_tup rfl (pgs_cons (pg_name (i := 2) nd rfl (.inl rfl)) (pgs_cons (pg_name (i := 3) nd rfl (.inl rfl)) pgs_nil)))
        (pss_one (ps_if (pt_cmp (pc_isN (pe_call GF hr (by rfl) dF.g dF.F.kp dF.b .nil pass0 (pa_cons (pv 0) (pa_cons (pv 3) pa_nil))))) (pss_one ps_never) pss_nil)))), ?_⟩
    refine ⟨_, rfl, _, _, _, _, true, rfl, .ty "tuple", tyx_tup hT, kit_ty (by decide +kernel), _, rfl, iteF ?_⟩
    refine ⟨_, rfl, t, _, rfl, .inr hT, _, _, rfl, rfl, _, rfl, ?_⟩
    rw [decide_eq_false (show ¬ ((((ks.map fun k => V.str (textK us dn k)).length : Nat) : Int) > 12) by rw [List.length_map]; omega)]
    refine iteF ?_
    refine ⟨_, rfl, t, _, rfl, hT, for_enT (K := K) (a := t) (xs := ks.map fun k => V.str (textK us dn k)) (fun i σ H2 => Same H H2 ∧ ∃ v1 v2, σ = [some (.ref a), some (.ref t), v1, v2]) ⟨Same.refl _, none, none, rfl⟩ (fun i σ H2 _ h => same_sqt h.1 hT) ?_ (fun σ H2 h => q H2 h.1)⟩
    rintro i x σ H2 T hi ⟨sm, v1, v2, rfl⟩ nT
    rw [List.getElem?_map] at hi
    obtain ⟨k, hk2, rfl⟩ := Option.map_eq_some_iff.mp hi
    obtain ⟨k1, k2, k3⟩ := hk k (List.mem_of_getElem? hk2)
    have smT : Same H (upd H2 T (.tup [.int (i : Nat), .str (textK us dn k)])) := sm.trans (same_upd nT)
    refine ⟨T, _, rfl, .inl (.inl upd_same), rfl, .int (i : Nat), _, rfl, _, _, rfl, rfl, ?_⟩
    refine ⟨_, rfl, _, rfl, a, us, dn, z, c, l, k.1, k.2, rfl, hL.same smT, g, k1, k2, k3, fun r H3 s3 hr3 => ?_⟩
    exact ⟨_, rfl, iteF ⟨smT.trans s3, _, _, rfl⟩⟩
end
end My

namespace My
open PySem PySem.Spec PyProof.Rows L2
/-! ### risen -/
abbrev nRisen : List Str := ["ranges", "ends", "place", "low", "_", "high"]
/-- the names of the outer comprehension -/
def scPl : Scope := { kind := .function, names := [(".0", .local), ("place", .local), ("max", .globalImplicit), ("min", .globalImplicit), ("ranges", .cell)], isGenerator := false, isCoroutine := false }
/-- a list of pairs stands at F -/
def PrAt (K : PySem.W.Frag) (H : Hp) (F : Addr) (rs : List (Int × Int)) : Prop := ∃ ps : List Addr, H F = some (.lst (ps.map V.ref)) ∧ PySem.Paired (fun p r => SqT K H p [.int r.1, .int r.2]) ps rs
theorem PrAt.same {K : PySem.W.Frag} {H H' : Hp} {F : Addr} {rs : List (Int × Int)} (k : Same H H') (h : PrAt K H F rs) : PrAt K H' F rs := by
  obtain ⟨ps, h1, h2⟩ := h
  exact ⟨ps, k _ _ h1, paired_imp (fun _ _ => same_sqt k) h2⟩
def MaxOf (ns : List Int) (m : Int) : Prop := m ∈ ns ∧ ∀ x ∈ ns, x ≤ m
def MinOf (ns : List Int) (m : Int) : Prop := m ∈ ns ∧ ∀ x ∈ ns, m ≤ x
/-- the ends that are left if the numbers rise -/
def Risen (rs es : List (Int × Int)) : Prop := es.length = rs.length ∧ ∀ i e, es[i]? = some e → MaxOf ((rs.take (i + 1)).map (·.1)) e.1 ∧ MinOf ((rs.drop i).map (·.2)) e.2
def spRisen (K : PySem.W.Frag) : Sp := fun vs H Q _ => ∃ (F : Addr) (rs : List (Int × Int)), vs = [.ref F] ∧ PrAt K H F rs ∧ rs.length ≤ 12 ∧
  ∀ es, Risen rs es → ((∃ e ∈ es, e.2 < e.1) → ∀ H', Same H H' → Q .non H') ∧ ((∀ e ∈ es, e.1 ≤ e.2) → ∀ (r : Addr) (ps : List Addr) (H' : Hp), Same H H' → SqT K H' r (ps.map V.ref) → PySem.Paired (fun p e => SqT K H' p [.int e.1, .int e.2]) ps es → Q (.ref r) H')
theorem take_snoc {α β : Type} (f : α → β) {xs : List α} {j : Nat} {y : α} (h : xs[j]? = some y) : (xs.take (j + 1)).map f = (xs.take j).map f ++ [f y] := by
  rw [List.take_add_one, h, List.map_append]
  rfl
theorem cut_dropN {xs : List V} (i : Nat) (hi : i ≤ xs.length) : cutV xs (some (i : Int)) none = xs.drop i := by
  unfold cutV
  rw [HT.sIx_none, HT.sIx_nat, Nat.min_eq_left hi]
  exact List.take_of_length_le (by rw [List.length_drop]; exact Nat.le_refl _)
section
variable {P : Program} {w : World} {K : PySem.W.Frag} {mg : Str → Option Value} {base : Heap}
end
end My

namespace My
open PySem PySem.Spec PyProof.Rows L2
/-! ### rising, least_rising, always_rise, first_fall -/
/-- the ranges of some figures -/
def prsOf (us : List (Str × Int)) (d : Nat) (s : Str) (c : Bool) (l : Int) (ks : List FKey) : List (Int × Int) := ks.map fun k => (lowK us d s c l k, highK us d s c l k)
theorem prs_paired {K : PySem.W.Frag} {H : Hp} {us : List (Str × Int)} {d : Nat} {s : Str} {c : Bool} {l : Int} : ∀ {ps : List Addr} {ks : List FKey}, PySem.Paired (fun p k => SqT K H p [.int (lowK us d s c l k), .int (highK us d s c l k)]) ps ks → PySem.Paired (fun p (r : Int × Int) => SqT K H p [.int r.1, .int r.2]) ps (prsOf us d s c l ks)
  | _, _, .nil => .nil
  | _, _, .cons r t => .cons r (prs_paired t)
def spRising (K : PySem.W.Frag) (C : Addr) : Sp := fun vs H Q _ => ∃ (a t : Addr) (us : List (Str × Int)) (d : Nat) (s : Str) (c : Bool) (l : Int) (ks : List FKey), vs = [.ref a, .ref t] ∧ LadAt K C H a us d s c l ∧ Good us d s l ∧ SqT K H t (ks.map fun k => V.str (textK us d k)) ∧
  ks.length ≤ 12 ∧ (∀ k ∈ ks, KeyOk us k) ∧ ((∃ k ∈ ks, highK us d s c l k < lowK us d s c l k) → ∀ H', Same H H' → Q .non H') ∧
  ((∀ k ∈ ks, lowK us d s c l k ≤ highK us d s c l k) → ∀ es, Risen (prsOf us d s c l ks) es → ((∃ e ∈ es, e.2 < e.1) → ∀ H', Same H H' → Q .non H') ∧
    ((∀ e ∈ es, e.1 ≤ e.2) → ∀ (r : Addr) (ps : List Addr) (H' : Hp), Same H H' → SqT K H' r (ps.map V.ref) → PySem.Paired (fun p e => SqT K H' p [.int e.1, .int e.2]) ps es → Q (.ref r) H'))
def spLeastR (K : PySem.W.Frag) (C : Addr) : Sp := fun vs H Q _ => ∃ (a t : Addr) (us : List (Str × Int)) (d : Nat) (s : Str) (c : Bool) (l : Int) (ks : List FKey), vs = [.ref a, .ref t] ∧ LadAt K C H a us d s c l ∧ Good us d s l ∧ SqT K H t (ks.map fun k => V.str (textK us d k)) ∧
  ks.length ≤ 12 ∧ (∀ k ∈ ks, KeyOk us k) ∧ ((∃ k ∈ ks, highK us d s c l k < lowK us d s c l k) → ∀ H', Same H H' → Q .non H') ∧
  ((∀ k ∈ ks, lowK us d s c l k ≤ highK us d s c l k) → ∀ es, Risen (prsOf us d s c l ks) es → ((∃ e ∈ es, e.2 < e.1) → ∀ H', Same H H' → Q .non H') ∧
    ((∀ e ∈ es, e.1 ≤ e.2) → ∀ (r : Addr) (H' : Hp), Same H H' → SqT K H' r ((es.map (·.1)).map V.int) → Q (.ref r) H'))
section
variable {P : Program} {w : World} {K : PySem.W.Frag} {mg : Str → Option Value} {base : Heap}
end
end My

namespace My
open PySem PySem.Spec PyProof.Rows L2
/-! ### sums of rows -/
abbrev sAddedUp : Stmt := top 68
abbrev nAddedUp : List Str := ["ranges", "low", "_", "high"]
theorem scAddedUp : FnScope nAddedUp ["ranges"] (defScope sAddedUp) := ⟨rfl, rfl, rfl, by decide +kernel, rfl, by decide +kernel, by decide +kernel⟩
def sumL (rs : List (Int × Int)) : Int := (rs.map (·.1)).sum
def sumH (rs : List (Int × Int)) : Int := (rs.map (·.2)).sum
def spAddedUp (K : PySem.W.Frag) : Sp := fun vs H Q _ => ∃ (F : Addr) (rs : List (Int × Int)), vs = [.ref F] ∧ PrAt K H F rs ∧ rs.length ≤ 12 ∧ ∀ (p : Addr) (H' : Hp), Same H H' → SqT K H' p [.int (sumL rs), .int (sumH rs)] → Q (.ref p) H'
def spSumRange (K : PySem.W.Frag) (C : Addr) : Sp := fun vs H Q _ => ∃ (a t : Addr) (us : List (Str × Int)) (d : Nat) (s : Str) (c : Bool) (l : Int) (ks : List FKey), vs = [.ref a, .ref t] ∧ LadAt K C H a us d s c l ∧ Good us d s l ∧ SqT K H t (ks.map fun k => V.str (textK us d k)) ∧
  ks.length ≤ 12 ∧ (∀ k ∈ ks, KeyOk us k) ∧ ((∃ k ∈ ks, highK us d s c l k < lowK us d s c l k) → ∀ H', Same H H' → Q .non H') ∧
  ((∀ k ∈ ks, lowK us d s c l k ≤ highK us d s c l k) → ∀ (p : Addr) (H' : Hp), Same H H' → SqT K H' p [.int (sumL (prsOf us d s c l ks)), .int (sumH (prsOf us d s c l ks))] → Q (.ref p) H')
section
variable {P : Program} {w : World} {K : PySem.W.Frag} {mg : Str → Option Value} {base : Heap}
theorem ok_addedup (d : Dd K mg "added_up" sAddedUp ["ranges"]) (bSum : mg "sum" = none) : FnOk P w K mg base CX0 1 d.f d.fd ["ranges"] (spAddedUp K) := by
  refine d.F.ok scAddedUp (fun vs H Q E h => ?_) (fun cdv A outer s H vs Q E hr h => ?_)
  · obtain ⟨_, _, rfl, _⟩ := h
    rfl
  · obtain ⟨F, rs, rfl, ⟨ps, hF, hps⟩, hlen, q⟩ := h
    have nd := scAddedUp.nd
    refine ⟨_, pss_one (ps_ret (pe_tup (pa_cons (pe_callB (cr_sum rfl) (by rfl) bSum (by decide +kernel) (pa_cons (pe_lc (own := [("low", 1), ("_", 2)]) (g := gTup K 2 (gCons (gName 1) (gCons (gName 2) gNil))) (tt := tYes) rfl nd (pi_list (pv 0))
          (blkOk_by (own := [("low", 1), ("_", 2)]) (N := nAddedUp) (sc := defScope sAddedUp) (by decide +kernel)) (fun _ _ _ _ _ => pg_tup rfl (pgs_cons (pg_name (i := 1) nd rfl (Or.inl rfl)) (pgs_cons (pg_name (i := 2) nd rfl (Or.inl rfl)) pgs_nil))) (fun _ _ _ _ _ => pts_nil) (fun _ _ _ _ _ => pv 1)) pa_nil))
        (pa_cons (pe_callB (cr_sum rfl) (by rfl) bSum (by decide +kernel) (pa_cons (pe_lc (own := [("_", 2), ("high", 3)]) (g := gTup K 2 (gCons (gName 2) (gCons (gName 3) gNil))) (tt := tYes) rfl nd (pi_list (pv 0))
          (blkOk_by (own := [("_", 2), ("high", 3)]) (N := nAddedUp) (sc := defScope sAddedUp) (by decide +kernel)) (fun _ _ _ _ _ => pg_tup rfl (pgs_cons (pg_name (i := 2) nd rfl (Or.inl rfl)) (pgs_cons (pg_name (i := 3) nd rfl (Or.inl rfl)) pgs_nil))) (fun _ _ _ _ _ => pts_nil) (fun _ _ _ _ _ => pv 3)) pa_nil)) pa_nil)))), ?_⟩
    have hpl : ps.length = rs.length := hps.length
    refine ⟨_, rfl, F, rfl, ⟨_, SqL.of hF⟩, fun D1 nD1 => ?_⟩
    refine lc_list (K := K) (a := F) (xs := ps.map V.ref) (fun j H' => Same H H' ∧ H' D1 = some (.lst (((rs.take j).map (·.1)).map V.int))) ⟨same_upd nD1, upd_same⟩ (fun j H' _ h => SqL.of (h.1 _ _ hF)) ?_ ?_
    · rintro j x H5 hj ⟨sm, hD⟩
      obtain ⟨pj, hpj, rfl⟩ := of_get_ref hj
      obtain ⟨y, hy, hr3⟩ := paired_fst hps hpj
      have hjl := (List.getElem?_eq_some_iff.mp hy).1
      refine ⟨pj, _, rfl, same_sqt sm hr3, rfl, _, _, rfl, _, _, rfl, rfl, ?_⟩
      refine ⟨rfl, _, rfl, _, hD, ?_, fun b o e => ?_, ?_⟩
      · rw [List.length_map, List.length_map, List.length_take]
        exact Nat.lt_of_le_of_lt (Nat.min_le_left _ _) (Nat.lt_of_lt_of_le (show j < 13 by omega) (by decide))
      · rw [upd_ne (ne_of_none e nD1)]
        exact sm _ _ e
      · rw [upd_same, take_snoc (fun r : Int × Int => r.1) hy, List.map_append]
        rfl
    rintro H1 ⟨s1, hD1⟩
    rw [List.length_map, hpl, List.take_length] at hD1
    refine ⟨D1, _, rfl, SqL.of hD1, ?_⟩
    refine ⟨_, rfl, F, rfl, ⟨_, SqL.of (s1 _ _ hF)⟩, fun D2 nD2 => ?_⟩
    refine lc_list (K := K) (a := F) (xs := ps.map V.ref) (fun j H' => Same H1 H' ∧ H' D2 = some (.lst (((rs.take j).map (·.2)).map V.int))) ⟨same_upd nD2, upd_same⟩ (fun j H' _ h => SqL.of (h.1 _ _ (s1 _ _ hF))) ?_ ?_
    · rintro j x H5 hj ⟨sm, hD⟩
      obtain ⟨pj, hpj, rfl⟩ := of_get_ref hj
      obtain ⟨y, hy, hr3⟩ := paired_fst hps hpj
      have hjl := (List.getElem?_eq_some_iff.mp hy).1
      refine ⟨pj, _, rfl, same_sqt (s1.trans sm) hr3, rfl, _, _, rfl, _, _, rfl, rfl, ?_⟩
      refine ⟨rfl, _, rfl, _, hD, ?_, fun b o e => ?_, ?_⟩
      · rw [List.length_map, List.length_map, List.length_take]
        exact Nat.lt_of_le_of_lt (Nat.min_le_left _ _) (Nat.lt_of_lt_of_le (show j < 13 by omega) (by decide))
      · rw [upd_ne (ne_of_none e nD2)]
        exact sm _ _ e
      · rw [upd_same, take_snoc (fun r : Int × Int => r.2) hy, List.map_append]
        rfl
    rintro H2 ⟨s2, hD2⟩
    rw [List.length_map, hpl, List.take_length] at hD2
    refine ⟨D2, _, rfl, SqL.of hD2, ?_⟩
    refine ⟨(by show 2 ≤ sizeLine; decide), fun t nt => ?_⟩
    exact q t _ ((s1.trans s2).trans (same_upd nt)) (SqT.of upd_same)
end
end My

namespace My
open PySem PySem.Spec PyProof.Rows L2
/-! ### the figures of the sums -/
abbrev nTotals : List Str := ["ladder", "texts", "sums", "low", "high", "many"]
abbrev sumLK (us : List (Str × Int)) (d : Nat) (s : Str) (c : Bool) (l : Int) (ks : List FKey) : Int := sumL (prsOf us d s c l ks)
abbrev sumHK (us : List (Str × Int)) (d : Nat) (s : Str) (c : Bool) (l : Int) (ks : List FKey) : Int := sumH (prsOf us d s c l ks)
/-- how many figures are shown from x to y -/
def manyM (us : List (Str × Int)) (d : Nat) (s : Str) (c : Bool) (l x y : Int) : Int := fbM us d s c l y - fbM us d s c l x + 1
/-- rows that may be asked about, whose sums are not too great -/
def RowsIn (us : List (Str × Int)) (d : Nat) (s : Str) (c : Bool) (l : Int) (ks : List FKey) : Prop := ks.length ≤ 12 ∧ (∀ k ∈ ks, KeyOk us k) ∧ ((∀ k ∈ ks, lowK us d s c l k ≤ highK us d s c l k) → sumHK us d s c l ks ≤ 1000000000000000000000000000000)
theorem sums_nn {us : List (Str × Int)} {d : Nat} {s : Str} {c : Bool} {l : Int} (g : Good us d s l) : ∀ {ks : List FKey}, (∀ k ∈ ks, KeyOk us k) → (∀ k ∈ ks, lowK us d s c l k ≤ highK us d s c l k) → 0 ≤ sumLK us d s c l ks ∧ sumLK us d s c l ks ≤ sumHK us d s c l ks
  | [], _, _ => by
    show (0 : Int) ≤ 0 ∧ (0 : Int) ≤ 0
    omega
  | k :: r, h1, h2 => by
    obtain ⟨a1, a2⟩ := sums_nn g (ks := r) (fun x hx => h1 x (List.mem_cons_of_mem _ hx)) fun x hx => h2 x (List.mem_cons_of_mem _ hx)
    have a3 := low_nn (c := c) g (h1 k (List.mem_cons_self ..)).1 k.2
    have a4 := h2 k (List.mem_cons_self ..)
    have e1 : sumLK us d s c l (k :: r) = lowK us d s c l k + sumLK us d s c l r := rfl
    have e2 : sumHK us d s c l (k :: r) = highK us d s c l k + sumHK us d s c l r := rfl
    rw [e1, e2]
    have a5 : 0 ≤ lowK us d s c l k := a3
    omega
def spTotals (K : PySem.W.Frag) (C : Addr) : Sp := fun vs H Q _ => ∃ (a t : Addr) (us : List (Str × Int)) (d : Nat) (s : Str) (c : Bool) (l : Int) (ks : List FKey), vs = [.ref a, .ref t] ∧ LadAt K C H a us d s c l ∧ Good us d s l ∧ SqT K H t (ks.map fun k => V.str (textK us d k)) ∧
  RowsIn us d s c l ks ∧ ((∃ k ∈ ks, highK us d s c l k < lowK us d s c l k) → ∀ H', Same H H' → Q .non H') ∧
  ((∀ k ∈ ks, lowK us d s c l k ≤ highK us d s c l k) → ∀ (p : Addr) (H' : Hp), Same H H' → SqT K H' p [.str (shown us d s c l (sumLK us d s c l ks)), .str (shown us d s c l (sumHK us d s c l ks)), .int (manyM us d s c l (sumLK us d s c l ks) (sumHK us d s c l ks))] → Q (.ref p) H')
def spSureT (K : PySem.W.Frag) (C : Addr) : Sp := fun vs H Q _ => ∃ (a t : Addr) (us : List (Str × Int)) (d : Nat) (s : Str) (c : Bool) (l : Int) (ks : List FKey), vs = [.ref a, .ref t] ∧ LadAt K C H a us d s c l ∧ Good us d s l ∧ SqT K H t (ks.map fun k => V.str (textK us d k)) ∧
  RowsIn us d s c l ks ∧ ((∃ k ∈ ks, highK us d s c l k < lowK us d s c l k) → ∀ H', Same H H' → Q .non H') ∧
  ((∀ k ∈ ks, lowK us d s c l k ≤ highK us d s c l k) → ∀ H', Same H H' → Q (if 1 < manyM us d s c l (sumLK us d s c l ks) (sumHK us d s c l ks) then .non else .str (shown us d s c l (sumLK us d s c l ks))) H')
section
variable {P : Program} {w : World} {K : PySem.W.Frag} {mg : Str → Option Value} {base : Heap}
end
end My

namespace My
open PySem PySem.Spec PyProof.Rows L2
/-! ### parts of tuples, and tuples put together -/
theorem slT {K : PySem.W.Frag} {a : Addr} {xs : List V} {H : Hp} {lo hi : Option Int} {Q : VK} (h : SqT K H a xs) (q : ∀ p H', Same H H' → SqT K H' p (cutV xs lo hi) → Q (.ref p) H') : rSlA K (.ref a) lo hi H Q := by
  refine ⟨a, xs, rfl, h, fun w => q a H (Same.refl _) ?_, fun _ p np => q p _ (same_upd np) (SqT.of upd_same)⟩
  have e : cutV xs lo hi = xs := by
    unfold cutV
    rw [w.1, w.2]
    simp
  rw [e]
  exact h
theorem catT {K : PySem.W.Frag} {a b : Addr} {xs ys : List V} {H : Hp} {Q : VK} (ha : SqT K H a xs) (hb : SqT K H b ys) (hz : xs.length + ys.length ≤ sizeLine) (q : ∀ p H', Same H H' → SqT K H' p (xs ++ ys) → Q (.ref p) H') : rCatA K (.ref a) (.ref b) H Q := by
  refine ⟨a, b, xs, ys, rfl, rfl, ha, hb, hz, fun e => q b H (Same.refl _) ?_, fun _ e => q a H (Same.refl _) ?_, fun _ _ p np => q p _ (same_upd np) (SqT.of upd_same)⟩
  · rw [e]; exact hb
  · rw [e, List.append_nil]; exact ha
theorem pairApp {α β : Type} {R : α → β → Prop} : ∀ {xs : List α} {ys : List β} {xs' : List α} {ys' : List β}, PySem.Paired R xs ys → PySem.Paired R xs' ys' → PySem.Paired R (xs ++ xs') (ys ++ ys')
  | _, _, _, _, .nil, h => h
  | _, _, _, _, .cons a r, h => .cons a (pairApp r h)
theorem cutTo (xs : List V) (i : Nat) : cutV xs none (some (i : Int)) = xs.take i := by
  unfold cutV
  rw [HT.sIx_none, HT.sIx_nat, List.drop_zero, Nat.sub_zero]
  rcases Nat.le_total i xs.length with h | h
  · rw [Nat.min_eq_left h]
  · rw [Nat.min_eq_right h, List.take_length, List.take_of_length_le h]
theorem cutFrom (xs : List V) (i : Nat) : cutV xs (some (i : Int)) none = xs.drop i := by
  unfold cutV
  rw [HT.sIx_none, HT.sIx_nat]
  rcases Nat.le_total i xs.length with h | h
  · rw [Nat.min_eq_left h]
    exact List.take_of_length_le (by rw [List.length_drop]; exact Nat.le_refl _)
  · rw [Nat.min_eq_right h, List.drop_length, List.drop_of_length_le h, List.take_nil]
end My

namespace My
open PySem PySem.Spec PyProof.Rows L2
/-- two arguments by keyword, in order -/
theorem kb_two {K : PySem.W.Frag} {mg : Str → Option Value} {x a b : Str} {st : Stmt} (d : Dd K mg x st [a, b]) (h : ∀ (kV doc pm : Value) (an : Option Addr) (cdv ct : Value) (u v : Value), bindArgs (PySem.W.fnOf x x (defArgs st) (defBody st) (defScope st) .none kV doc pm an cdv ct) ⟨[], [(a, u), (b, v)]⟩ = pure [(a, u), (b, v)]) : KBn K d.fd [a, b] 0 [a, b] (fun _ ws => ws) (fun _ ws => ws) := by
  obtain ⟨oc, od, kV, doc, pm, an, cdv, ct, osl, e, _⟩ := d.F.ex
  rw [e]
  refine ⟨fun s us ws _ h1 h2 => ?_, fun _ h2 => h2⟩
  match us, ws, h1, h2 with
  | [], [u, v], _, _ => exact .of_eq (h ..)
/-- three arguments by keyword, in order -/
theorem kb_three {K : PySem.W.Frag} {mg : Str → Option Value} {x a b c : Str} {st : Stmt} (d : Dd K mg x st [a, b, c]) (h : ∀ (kV doc pm : Value) (an : Option Addr) (cdv ct : Value) (u v w : Value), bindArgs (PySem.W.fnOf x x (defArgs st) (defBody st) (defScope st) .none kV doc pm an cdv ct) ⟨[], [(a, u), (b, v), (c, w)]⟩ = pure [(a, u), (b, v), (c, w)]) : KBn K d.fd [a, b, c] 0 [a, b, c] (fun _ ws => ws) (fun _ ws => ws) := by
  obtain ⟨oc, od, kV, doc, pm, an, cdv, ct, osl, e, _⟩ := d.F.ex
  rw [e]
  refine ⟨fun s us ws _ h1 h2 => ?_, fun _ h2 => h2⟩
  match us, ws, h1, h2 with
  | [], [u, v, w], _, _ => exact .of_eq (h ..)
end My

namespace My
open PySem PySem.Spec PyProof.Rows L2
/-! ### data stands as what was tracked stands -/
theorem same_sql {K : PySem.W.Frag} {a : Addr} {xs : List V} {H H' : Hp} (b : Same H H') (h : SqL K H a xs) : SqL K H' a xs := by
  rcases h with (h | ⟨o, h⟩) | h
  · exact .inl (.inl (b _ _ h))
  · exact .inl (.inr ⟨o, b _ _ h⟩)
  · exact .inr h
mutual
theorem dp_same {K : PySem.W.Frag} {H H' : Hp} (b : Same H H') : ∀ (d : PyData) (v : V), Dp K H v d → Dp K H' v d
  | .none, _, h => by
    cases h
    exact .non
  | .bool _, _, h => by
    cases h
    exact .bl _
  | .int _, _, h => by
    cases h
    exact .int _
  | .str _, _, h => by
    cases h
    exact .str _
  | .list ds, _, h => by
    cases h with
    | lst hs ha => exact .lst (same_sql b hs) (dpAll_same b ds _ ha)
  | .tuple ds, _, h => by
    cases h with
    | tup hs ha => exact .tup (same_sqt b hs) (dpAll_same b ds _ ha)
  | .dict _, _, h => by cases h
theorem dpAll_same {K : PySem.W.Frag} {H H' : Hp} (b : Same H H') : ∀ (ds : List PyData) (vs : List V), DpAll K H vs ds → DpAll K H' vs ds
  | [], _, h => by
    cases h
    exact .nil
  | d :: ds, _, h => by
    cases h with
    | cons h1 h2 => exact .cons (dp_same b d _ h1) (dpAll_same b ds _ h2)
end
theorem dpAll_app {K : PySem.W.Frag} {H : Hp} : ∀ {ds es : List PyData} {vs ws : List V}, DpAll K H vs ds → DpAll K H ws es → DpAll K H (vs ++ ws) (ds ++ es)
  | [], _, _, _, h, k => by
    cases h
    exact k
  | _ :: _, _, _, _, h, k => by
    cases h with
    | cons h1 h2 => exact .cons h1 (dpAll_app h2 k)
end My

namespace My
open PySem PySem.Spec PyProof.Rows L2
/-! ### sum of a tuple of ints -/
section
variable {prog : Program} {w : World} {A : Around} {E : Value → Shared → Prop} {s : Shared} {l : Addr} {its : List Value} {ns : List Int} {Q : Value → Shared → Prop}
theorem sum_rawT (hh : A.handled = none) (hl : s.heap.IsTuple l its.toArray) (hi : IntsAre its ns)
    (h : ∀ h' tk t', (∀ b o, s.heap.get? b = some o → h'.get? b = some o) → Q (.int ns.sum t') { s with heap := h', toks := tk }) : wpAny (model prog w) A (call (.builtin "sum") [.ref l]) Q E s := by
  obtain ⟨xs, e⟩ := hi.allInts.items
  have hn : numsOf (intItems xs).toList = ns := by rw [← e]; exact hi.numsOf
  rw [nums_intItems] at hn
  rw [e] at hl
  refine PySem.W.ktm_sumG hh hl fun h' tk t' hk => ?_
  have := h h' tk t' hk
  rw [preSum_eq, List.take_of_length_le (by simp), hn]; exact this
end
def rSumT (K : PySem.W.Frag) : List V → Hp → VK → Prop := fun vs H Q => ∃ (a : Addr) (ns : List Int), vs = [V.ref a] ∧ SqT K H a (ns.map V.int) ∧ Q (.int ns.sum) H
theorem cr_sumT {X : Cx} (hc : X.calm = true) : CallR X (.builtin "sum") (rSumT X.K) := by
  intro pins s σ H vs us Q I r h
  obtain ⟨a, ns, rfl, hs, q⟩ := h
  obtain ⟨its, rv, hl, _⟩ := I.tuple hs
  rw [Vals.ref1 r]
  exact sum_rawT (I.ok.hd hc) hl (intsAre_of rv) fun h' tk t' hk => ⟨.int _, H, I.kept hk, ⟨_, rfl⟩, q⟩
end My

namespace My
open PySem PySem.Spec PyProof.Rows L2
/-! ### columns with a total -/
abbrev sNarrowed : Stmt := top 67
abbrev sToldC : Stmt := top 66
abbrev sCheckC : Stmt := top 65
abbrev sColumn : Stmt := top 63
abbrev sNumF : Stmt := top 64
abbrev nNarrowed : List Str := ["ranges", "wanted", "low", "high", "sum_low", "sum_high", "left", "own_low", "own_high"]
theorem scNarrowed : FnScope nNarrowed ["ranges", "wanted"] (defScope sNarrowed) := ⟨rfl, rfl, rfl, by decide +kernel, rfl, by decide +kernel, by decide +kernel⟩
theorem scToldC : FnScope ["ladder", "texts", "total", "ranges", "wanted"] ["ladder", "texts", "total"] (defScope sToldC) := ⟨rfl, rfl, rfl, by decide +kernel, rfl, by decide +kernel, by decide +kernel⟩
theorem scCheckC : FnScope ["ladder", "texts", "total"] ["ladder", "texts", "total"] (defScope sCheckC) := ⟨rfl, rfl, rfl, by decide +kernel, rfl, by decide +kernel, by decide +kernel⟩
theorem scColumn : FnScope ["ladder", "texts", "total"] ["ladder", "texts", "total"] (defScope sColumn) := ⟨rfl, rfl, rfl, by decide +kernel, rfl, by decide +kernel, by decide +kernel⟩
theorem scNumF : FnScope ["ladder", "texts", "total", "found", "ranges", "sums", "missing", "numbers", "low", "high", "more"] ["ladder", "texts", "total"] (defScope sNumF) := ⟨rfl, rfl, rfl, by decide +kernel, rfl, by decide +kernel, by decide +kernel⟩
/-- pairs stand in a tuple -/
def PrT (K : PySem.W.Frag) (H : Hp) (t : Addr) (rs : List (Int × Int)) : Prop := ∃ ps : List Addr, SqT K H t (ps.map V.ref) ∧ PySem.Paired (fun p r => SqT K H p [.int r.1, .int r.2]) ps rs
theorem PrT.same {K : PySem.W.Frag} {H H' : Hp} {t : Addr} {rs : List (Int × Int)} (k : Same H H') (h : PrT K H t rs) : PrT K H' t rs := by
  obtain ⟨ps, h1, h2⟩ := h
  exact ⟨ps, same_sqt k h1, paired_imp (fun _ _ => same_sqt k) h2⟩
theorem PrAt.sameP {K : PySem.W.Frag} {H H' : Hp} {t : Addr} {rs : List (Int × Int)} (k : Same H H') (h : PrAt K H t rs) : PrAt K H' t rs := by
  obtain ⟨ps, h1, h2⟩ := h
  exact ⟨ps, k _ _ h1, paired_imp (fun _ _ => same_sqt k) h2⟩
/-- what is left of ranges if the sums go from x to y -/
def narR (rs : List (Int × Int)) (x y : Int) : List (Int × Int) := rs.map fun r => (max2 r.1 (x - (sumH rs - r.2)), min2 r.2 (y - (sumL rs - r.1)))
/-- a pair: ranges in a tuple, and a range -/
def PairT (K : PySem.W.Frag) (H : Hp) (v : V) (rs : List (Int × Int)) (x y : Int) : Prop := ∃ p t u, v = .ref p ∧ SqT K H p [.ref t, .ref u] ∧ PrT K H t rs ∧ SqT K H u [.int x, .int y]
theorem PairT.same {K : PySem.W.Frag} {H H' : Hp} {v : V} {rs : List (Int × Int)} {x y : Int} (k : Same H H') (h : PairT K H v rs x y) : PairT K H' v rs x y := by
  obtain ⟨p, t, u, e, h1, h2, h3⟩ := h
  exact ⟨p, t, u, e, same_sqt k h1, h2.same k, same_sqt k h3⟩
/-- the sums that a total leaves -/
def selL (us : List (Str × Int)) (d : Nat) (s : Str) (c : Bool) (l : Int) (ks : List FKey) : Option FKey → Int
  | none => sumLK us d s c l ks
  | some k => max2 (sumLK us d s c l ks) (lowK us d s c l k)
def selH (us : List (Str × Int)) (d : Nat) (s : Str) (c : Bool) (l : Int) (ks : List FKey) : Option FKey → Int
  | none => sumHK us d s c l ks
  | some k => min2 (sumHK us d s c l ks) (highK us d s c l k)
def colR (us : List (Str × Int)) (d : Nat) (s : Str) (c : Bool) (l : Int) (ks : List FKey) : Option FKey → List (Int × Int)
  | none => prsOf us d s c l ks
  | some k => narR (prsOf us d s c l ks) (selL us d s c l ks (some k)) (selH us d s c l ks (some k))
def ColOk (us : List (Str × Int)) (d : Nat) (s : Str) (c : Bool) (l : Int) (ks : List FKey) (o : Option FKey) : Prop := (∀ k ∈ ks, lowK us d s c l k ≤ highK us d s c l k) ∧ (∀ k, o = some k → lowK us d s c l k ≤ highK us d s c l k) ∧ (∀ k, o = some k → selL us d s c l ks o ≤ selH us d s c l ks o)
def ColV (K : PySem.W.Frag) (H : Hp) (v : V) (us : List (Str × Int)) (d : Nat) (s : Str) (c : Bool) (l : Int) (ks : List FKey) (o : Option FKey) : Prop :=
  (v = .non ∧ ¬ ColOk us d s c l ks o) ∨ (ColOk us d s c l ks o ∧ PairT K H v (colR us d s c l ks o) (selL us d s c l ks o) (selH us d s c l ks o))
theorem ColV.same {K : PySem.W.Frag} {H H' : Hp} {v : V} {us : List (Str × Int)} {d : Nat} {s : Str} {c : Bool} {l : Int} {ks : List FKey} {o : Option FKey} (k : Same H H') (h : ColV K H v us d s c l ks o) : ColV K H' v us d s c l ks o := by
  rcases h with h | ⟨h1, h2⟩
  · exact .inl h
  · exact .inr ⟨h1, h2.same k⟩
/-- numbers from ranges, from the least ones on -/
def fillN : List (Int × Int) → Int → List Int
  | [], _ => []
  | r :: rs, m => (r.1 + min2 m (r.2 - r.1)) :: fillN rs (m - min2 m (r.2 - r.1))
theorem fillN_len : ∀ (rs : List (Int × Int)) (m : Int), (fillN rs m).length = rs.length
  | [], _ => rfl
  | r :: rs, m => by
    show (fillN rs _).length + 1 = rs.length + 1
    rw [fillN_len rs]
def spAddedT (K : PySem.W.Frag) : Sp := fun vs H Q _ => ∃ (F : Addr) (rs : List (Int × Int)), vs = [.ref F] ∧ PrT K H F rs ∧ rs.length ≤ 12 ∧ ∀ (p : Addr) (H' : Hp), Same H H' → SqT K H' p [.int (sumL rs), .int (sumH rs)] → Q (.ref p) H'
def spNarrowed (K : PySem.W.Frag) : Sp := fun vs H Q _ => ∃ (F w : Addr) (rs : List (Int × Int)) (x y : Int), vs = [.ref F, .ref w] ∧ PrAt K H F rs ∧ rs.length ≤ 12 ∧ SqT K H w [.int x, .int y] ∧
  ∀ (v : V) (H' : Hp), Same H H' → (v = .non ∧ min2 (sumH rs) y < max2 (sumL rs) x) ∨ (max2 (sumL rs) x ≤ min2 (sumH rs) y ∧ PairT K H' v (narR rs (max2 (sumL rs) x) (min2 (sumH rs) y)) (max2 (sumL rs) x) (min2 (sumH rs) y)) → Q v H'
def totV (us : List (Str × Int)) (d : Nat) : Option FKey → V
  | none => .non
  | some k => .str (textK us d k)
def spToldC (K : PySem.W.Frag) (C : Addr) : Sp := fun vs H Q _ => ∃ (a t : Addr) (us : List (Str × Int)) (d : Nat) (s : Str) (c : Bool) (l : Int) (ks : List FKey) (o : Option FKey), vs = [.ref a, .ref t, totV us d o] ∧ LadAt K C H a us d s c l ∧ Good us d s l ∧ SqT K H t (ks.map fun k => V.str (textK us d k)) ∧
  ks.length ≤ 12 ∧ (∀ k ∈ ks, KeyOk us k) ∧ (∀ k, o = some k → KeyOk us k) ∧ ∀ (v : V) (H' : Hp), Same H H' → ColV K H' v us d s c l ks o → Q v H'
def spCheckC (K : PySem.W.Frag) (C : Addr) : Sp := fun vs H Q _ => ∃ (a t : Addr) (us : List (Str × Int)) (d : Nat) (s : Str) (c : Bool) (l : Int) (ks : List FKey) (k : FKey), vs = [.ref a, .ref t, .str (textK us d k)] ∧ LadAt K C H a us d s c l ∧ Good us d s l ∧ SqT K H t (ks.map fun k => V.str (textK us d k)) ∧
  ks.length ≤ 12 ∧ (∀ k ∈ ks, KeyOk us k) ∧ KeyOk us k ∧ ∀ (H' : Hp), Same H H' → Q .non H'
def spColumn (K : PySem.W.Frag) (C : Addr) : Sp := fun vs H Q _ => ∃ (a t : Addr) (us : List (Str × Int)) (d : Nat) (s : Str) (c : Bool) (l : Int) (ks : List FKey) (k : FKey), vs = [.ref a, .ref t, .str (textK us d k)] ∧ LadAt K C H a us d s c l ∧ Good us d s l ∧ SqT K H t (ks.map fun k => V.str (textK us d k)) ∧
  ks.length ≤ 12 ∧ (∀ k ∈ ks, KeyOk us k) ∧ KeyOk us k ∧ ∀ (v : V) (H' : Hp), Same H H' → ColV K H' v us d s c l ks (some k) → Q v H'
/-- the numbers that numbers_for tells -/
def numsK (us : List (Str × Int)) (d : Nat) (s : Str) (c : Bool) (l : Int) (ks : List FKey) (k : FKey) : List Int := fillN (colR us d s c l ks (some k)) (selL us d s c l ks (some k) - sumL (colR us d s c l ks (some k)))
def NumV (K : PySem.W.Frag) (H : Hp) (v : V) (us : List (Str × Int)) (d : Nat) (s : Str) (c : Bool) (l : Int) (ks : List FKey) (k : FKey) : Prop :=
  (v = .non ∧ ¬ ColOk us d s c l ks (some k)) ∨ (ColOk us d s c l ks (some k) ∧ ∃ p, v = .ref p ∧ SqT K H p ((numsK us d s c l ks k).map V.int))
def spNumF (K : PySem.W.Frag) (C : Addr) : Sp := fun vs H Q _ => ∃ (a t : Addr) (us : List (Str × Int)) (d : Nat) (s : Str) (c : Bool) (l : Int) (ks : List FKey) (k : FKey), vs = [.ref a, .ref t, .str (textK us d k)] ∧ LadAt K C H a us d s c l ∧ Good us d s l ∧ SqT K H t (ks.map fun k => V.str (textK us d k)) ∧
  ks.length ≤ 12 ∧ (∀ k ∈ ks, KeyOk us k) ∧ KeyOk us k ∧ ∀ (v : V) (H' : Hp), Same H H' → NumV K H' v us d s c l ks k → Q v H'
/-- whether one more row can have a figure -/
def RowOk (us : List (Str × Int)) (d : Nat) (s : Str) (c : Bool) (l : Int) (ks : List FKey) (k : FKey) : Prop := (∀ k ∈ ks, lowK us d s c l k ≤ highK us d s c l k) ∧ lowK us d s c l k ≤ highK us d s c l k ∧ sumLK us d s c l ks ≤ highK us d s c l k
def MoreV (K : PySem.W.Frag) (H : Hp) (v : V) (us : List (Str × Int)) (d : Nat) (s : Str) (c : Bool) (l : Int) (ks : List FKey) (k : FKey) : Prop :=
  (v = .non ∧ ¬ RowOk us d s c l ks k) ∨ (RowOk us d s c l ks k ∧ ∃ p, v = .ref p ∧ SqT K H p [.str (shown us d s c l (max2 0 (lowK us d s c l k - sumHK us d s c l ks))), .str (shown us d s c l (highK us d s c l k - sumLK us d s c l ks))])
def spRowsF (K : PySem.W.Frag) (C : Addr) : Sp := fun vs H Q _ => ∃ (a t : Addr) (us : List (Str × Int)) (d : Nat) (s : Str) (c : Bool) (l : Int) (ks : List FKey) (k : FKey), vs = [.ref a, .ref t, .str (textK us d k)] ∧ LadAt K C H a us d s c l ∧ Good us d s l ∧ SqT K H t (ks.map fun k => V.str (textK us d k)) ∧
  ks.length ≤ 12 ∧ (∀ k ∈ ks, KeyOk us k) ∧ KeyOk us k ∧ highK us d s c l k ≤ 1000000000000000000000000000000 ∧ ∀ (v : V) (H' : Hp), Same H H' → MoreV K H' v us d s c l ks k → Q v H'
section
variable {P : Program} {w : World} {K : PySem.W.Frag} {mg : Str → Option Value} {base : Heap}
theorem ok_addedT (d : Dd K mg "added_up" sAddedUp ["ranges"]) (bSum : mg "sum" = none) : FnOk P w K mg base CX0 1 d.f d.fd ["ranges"] (spAddedT K) := by
  refine d.F.ok scAddedUp (fun vs H Q E h => ?_) (fun cdv A outer s H vs Q E hr h => ?_)
  · obtain ⟨_, _, rfl, _⟩ := h
    rfl
  · obtain ⟨F, rs, rfl, ⟨ps, hF, hps⟩, hlen, q⟩ := h
    have nd := scAddedUp.nd
    refine ⟨_, pss_one (ps_ret (pe_tup (pa_cons (pe_callB (cr_sum rfl) (by rfl) bSum (by decide +kernel) (pa_cons (pe_lc (own := [("low", 1), ("_", 2)]) (g := gTup K 2 (gCons (gName 1) (gCons (gName 2) gNil))) (tt := tYes) rfl nd (pi_tup (pv 0))
          (blkOk_by (own := [("low", 1), ("_", 2)]) (N := nAddedUp) (sc := defScope sAddedUp) (by decide +kernel)) (fun _ _ _ _ _ => pg_tup rfl (pgs_cons (pg_name (i := 1) nd rfl (Or.inl rfl)) (pgs_cons (pg_name (i := 2) nd rfl (Or.inl rfl)) pgs_nil))) (fun _ _ _ _ _ => pts_nil) (fun _ _ _ _ _ => pv 1)) pa_nil))
        (pa_cons (pe_callB (cr_sum rfl) (by rfl) bSum (by decide +kernel) (pa_cons (pe_lc (own := [("_", 2), ("high", 3)]) (g := gTup K 2 (gCons (gName 2) (gCons (gName 3) gNil))) (tt := tYes) rfl nd (pi_tup (pv 0))
          (blkOk_by (own := [("_", 2), ("high", 3)]) (N := nAddedUp) (sc := defScope sAddedUp) (by decide +kernel)) (fun _ _ _ _ _ => pg_tup rfl (pgs_cons (pg_name (i := 2) nd rfl (Or.inl rfl)) (pgs_cons (pg_name (i := 3) nd rfl (Or.inl rfl)) pgs_nil))) (fun _ _ _ _ _ => pts_nil) (fun _ _ _ _ _ => pv 3)) pa_nil)) pa_nil)))), ?_⟩
    have hpl : ps.length = rs.length := hps.length
    refine ⟨_, rfl, F, rfl, ⟨_, hF⟩, fun D1 nD1 => ?_⟩
    refine lc_tup (K := K) (a := F) (xs := ps.map V.ref) (fun j H' => Same H H' ∧ H' D1 = some (.lst (((rs.take j).map (·.1)).map V.int))) ⟨same_upd nD1, upd_same⟩ (fun j H' _ h => same_sqt h.1 hF) ?_ ?_
    · rintro j x H5 hj ⟨sm, hD⟩
      obtain ⟨pj, hpj, rfl⟩ := of_get_ref hj
      obtain ⟨y, hy, hr3⟩ := paired_fst hps hpj
      have hjl := (List.getElem?_eq_some_iff.mp hy).1
      refine ⟨pj, _, rfl, same_sqt sm hr3, rfl, _, _, rfl, _, _, rfl, rfl, ?_⟩
      refine ⟨rfl, _, rfl, _, hD, ?_, fun b o e => ?_, ?_⟩
      · rw [List.length_map, List.length_map, List.length_take]
        exact Nat.lt_of_le_of_lt (Nat.min_le_left _ _) (Nat.lt_of_lt_of_le (show j < 13 by omega) (by decide))
      · rw [upd_ne (ne_of_none e nD1)]
        exact sm _ _ e
      · rw [upd_same, take_snoc (fun r : Int × Int => r.1) hy, List.map_append]
        rfl
    rintro H1 ⟨s1, hD1⟩
    rw [List.length_map, hpl, List.take_length] at hD1
    refine ⟨D1, _, rfl, SqL.of hD1, ?_⟩
    refine ⟨_, rfl, F, rfl, ⟨_, same_sqt s1 hF⟩, fun D2 nD2 => ?_⟩
    refine lc_tup (K := K) (a := F) (xs := ps.map V.ref) (fun j H' => Same H1 H' ∧ H' D2 = some (.lst (((rs.take j).map (·.2)).map V.int))) ⟨same_upd nD2, upd_same⟩ (fun j H' _ h => same_sqt (s1.trans h.1) hF) ?_ ?_
    · rintro j x H5 hj ⟨sm, hD⟩
      obtain ⟨pj, hpj, rfl⟩ := of_get_ref hj
      obtain ⟨y, hy, hr3⟩ := paired_fst hps hpj
      have hjl := (List.getElem?_eq_some_iff.mp hy).1
      refine ⟨pj, _, rfl, same_sqt (s1.trans sm) hr3, rfl, _, _, rfl, _, _, rfl, rfl, ?_⟩
      refine ⟨rfl, _, rfl, _, hD, ?_, fun b o e => ?_, ?_⟩
      · rw [List.length_map, List.length_map, List.length_take]
        exact Nat.lt_of_le_of_lt (Nat.min_le_left _ _) (Nat.lt_of_lt_of_le (show j < 13 by omega) (by decide))
      · rw [upd_ne (ne_of_none e nD2)]
        exact sm _ _ e
      · rw [upd_same, take_snoc (fun r : Int × Int => r.2) hy, List.map_append]
        rfl
    rintro H2 ⟨s2, hD2⟩
    rw [List.length_map, hpl, List.take_length] at hD2
    refine ⟨D2, _, rfl, SqL.of hD2, ?_⟩
    refine ⟨(by show 2 ≤ sizeLine; decide), fun t nt => ?_⟩
    exact q t _ ((s1.trans s2).trans (same_upd nt)) (SqT.of upd_same)
theorem ok_narrowed (d : Dd K mg "narrowed" sNarrowed ["ranges", "wanted"]) (dA : Dd K mg "added_up" sAddedUp ["ranges"]) (B : Bt mg) (GA : FnOk P w K mg base CX0 1 dA.f dA.fd ["ranges"] (spAddedUp K)) : FnOk P w K mg base CX0 2 d.f d.fd ["ranges", "wanted"] (spNarrowed K) := by
  refine d.F.ok scNarrowed (fun vs H Q E h => ?_) (fun cdv A outer s H vs Q E hr h => ?_)
  · obtain ⟨_, _, _, _, _, rfl, _⟩ := h
    rfl
  · obtain ⟨F, W, rs, x, y, rfl, hF, hlen, hW, q⟩ := h
    have nd := scNarrowed.nd
    refine ⟨_, (Evl.pss_cut (ps_asg (pe_call GA hr (by rfl) dA.g dA.F.kp dA.b .nil pass0 (pa_cons (pv 0) pa_nil)) (pg_tup rfl (pgs_cons (pg_name (i := 2) nd rfl (Or.inr rfl)) (pgs_cons (pg_name (i := 3) nd rfl (Or.inr rfl)) pgs_nil))))
  (Evl.pss_cut (ps_asg (pe_tup (pa_cons (pe_callB (call_max2 rfl) (by rfl) B.max (by decide +kernel) (pa_cons (pv 2) (pa_cons (pe_ix (r := rIxT K) ix_tup (pv 1) pe_int (fun _ _ => rfl)) pa_nil))) (pa_cons (pe_callB (call_min2 rfl) (by rfl) B.min (by decide +kernel) (pa_cons (pv 3) (pa_cons (pe_ix (r := rIxT K) ix_tup (pv 1) pe_int (fun _ _ => rfl)) pa_nil))) pa_nil))) (pg_tup rfl (pgs_cons (pg_name (i := 4) nd rfl (Or.inr rfl)) (pgs_cons (pg_name (i := 5) nd rfl (Or.inr rfl)) pgs_nil))))
  (Evl.pss_cut (ps_if (pt_cmpR op_gt (pv 4) (pv 5) (nomark _)) (pss_one (ps_ret pe_non)) pss_nil)
  (Evl.pss_cut (ps_setLc (i := 6) (own := [("own_low", 7), ("own_high", 8)]) (g := gTup K 2 (gCons (gName 7) (gCons (gName 8) gNil))) (tt := tYes) rfl nd rfl rfl (by rfl) (pi_list (pv 0)) (blkOk_by (own := [("own_low", 7), ("own_high", 8)]) (N := nNarrowed) (sc := defScope sNarrowed) (by decide +kernel)) (fun _ _ _ _ _ => pg_tup rfl (pgs_cons (pg_name (i := 7) nd rfl (Or.inl rfl)) (pgs_cons (pg_name (i := 8) nd rfl (Or.inl rfl)) pgs_nil))) (fun _ _ _ _ _ => pts_nil) (fun _ _ _ _ _ => (pe_tup (pa_cons (pe_callB (call_max2 rfl) (by rfl) B.max (by decide +kernel) (pa_cons (pv 7) (pa_cons (pe_op op_sub (pv 4) (pe_op op_sub (pv 3) (pv 8))) pa_nil))) (pa_cons (pe_callB (call_min2 rfl) (by rfl) B.min (by decide +kernel) (pa_cons (pv 8) (pa_cons (pe_op op_sub (pv 5) (pe_op op_sub (pv 2) (pv 7))) pa_nil))) pa_nil)))))
  (pss_one (ps_ret (pe_tup (pa_cons (pe_tupleOf (by rfl) B.tuple (pv 6)) (pa_cons (pe_tup (pa_cons (pv 4) (pa_cons (pv 5) pa_nil))) pa_nil))))))))), ?_⟩
    refine ⟨fun σ' H' => σ' = [some (.ref F), some (.ref W), some (.int (sumL rs)), some (.int (sumH rs)), none, none, none, none, none] ∧ Same H H', ?_, ?_⟩
    · refine ⟨_, rfl, F, rs, rfl, hF, hlen, fun p H1 s1 hp => ?_⟩
      exact ⟨p, _, rfl, hp, rfl, _, _, rfl, _, _, rfl, rfl, rfl, s1⟩
    rintro σ' H1 ⟨rfl, s1⟩
    obtain ⟨lo, elo⟩ : ∃ lo, max2 (sumL rs) x = lo := ⟨_, rfl⟩
    obtain ⟨hi, ehi⟩ : ∃ hi, min2 (sumH rs) y = hi := ⟨_, rfl⟩
    rw [elo, ehi] at q
    refine ⟨fun σ' H' => σ' = [some (.ref F), some (.ref W), some (.int (sumL rs)), some (.int (sumH rs)), some (.int lo), some (.int hi), none, none, none] ∧ Same H H', ?_, ?_⟩
    · refine ⟨_, rfl, _, rfl, W, _, 0, _, rfl, rfl, same_sqt s1 hW, rfl, _, _, rfl, _, rfl, _, rfl, W, _, 1, _, rfl, rfl, same_sqt s1 hW, rfl, _, _, rfl, (by show 2 ≤ sizeLine; decide), fun T nT => ?_⟩
      refine ⟨T, _, rfl, SqT.of upd_same, rfl, _, _, rfl, _, _, rfl, rfl, ?_, s1.trans (same_upd nT)⟩
      rw [← elo, ← ehi]
      rfl
    clear s1
    rintro σ' H1 ⟨rfl, s1⟩
    refine ⟨fun σ' H' => lo ≤ hi ∧ H' = H1 ∧ σ' = [some (.ref F), some (.ref W), some (.int (sumL rs)), some (.int (sumH rs)), some (.int lo), some (.int hi), none, none, none], ?_, ?_⟩
    · refine ⟨_, rfl, _, rfl, _, _, rfl, rfl, _, rfl, ite2 (fun e => ?_) (fun e => ?_)⟩
      · exact q _ _ s1 (.inl ⟨rfl, of_decide_eq_true e⟩)
      · exact ⟨Int.not_lt.mp fun h => e (decide_eq_true h), rfl, rfl⟩
    rintro σ' H' ⟨hle, rfl, rfl⟩
    obtain ⟨ps, hF0, hps0⟩ := hF.sameP s1
    have hpl : ps.length = rs.length := hps0.length
    refine ⟨fun σ' H2 => ∃ (D : Addr) (qs : List Addr), σ' = [some (.ref F), some (.ref W), some (.int (sumL rs)), some (.int (sumH rs)), some (.int lo), some (.int hi), some (.ref D), none, none] ∧ Same H' H2 ∧ H2 D = some (.lst (qs.map V.ref)) ∧ PySem.Paired (fun p (r : Int × Int) => SqT K H2 p [.int r.1, .int r.2]) qs (narR rs lo hi), ?_, ?_⟩
    · refine ⟨_, rfl, F, rfl, ⟨_, SqL.of hF0⟩, fun D nD => ?_⟩
      refine lc_list (K := K) (a := F) (xs := ps.map V.ref) (fun j H2 => Same H' H2 ∧ ∃ qs : List Addr, H2 D = some (.lst (qs.map V.ref)) ∧ PySem.Paired (fun p (r : Int × Int) => SqT K H2 p [.int r.1, .int r.2]) qs ((narR rs lo hi).take j)) ⟨same_upd nD, [], upd_same, .nil⟩ (fun j H2 _ h => SqL.of (h.1 _ _ hF0)) ?_ ?_
      · rintro j z H5 hj ⟨sm, qs, hD, hqs⟩
        obtain ⟨pj, hpj, rfl⟩ := of_get_ref hj
        obtain ⟨r, hr1, hr3⟩ := paired_fst hps0 hpj
        have hjl := (List.getElem?_eq_some_iff.mp hr1).1
        have hql : qs.length = j := by
          rw [hqs.length, List.length_take]
          unfold narR
          rw [List.length_map]
          omega
        refine ⟨pj, _, rfl, same_sqt sm hr3, rfl, _, _, rfl, _, _, rfl, rfl, ?_⟩
        refine ⟨rfl, _, rfl, _, rfl, _, rfl, _, rfl, _, _, rfl, rfl, _, _, rfl, rfl, _, _, rfl, ?_⟩
        refine ⟨_, rfl, _, rfl, _, rfl, _, rfl, _, _, rfl, rfl, _, _, rfl, rfl, _, _, rfl, (by show 2 ≤ sizeLine; decide), fun t nt => ?_⟩
        have st := same_upd nt (o := .tup [.int (max2 r.1 (lo - (sumH rs - r.2))), .int (min2 r.2 (hi - (sumL rs - r.1)))])
        have hD5 := st _ _ hD
        refine ⟨_, hD5, ?_, fun b o e => ?_, qs ++ [t], ?_, ?_⟩
        · rw [List.length_map, hql]
          exact Nat.lt_of_lt_of_le (show j < 13 by omega) (by decide)
        · rw [upd_ne (ne_of_none e nD)]
          exact st _ _ (sm _ _ e)
        · rw [upd_same, List.map_append]
          rfl
        · have hnj : (narR rs lo hi)[j]? = some (max2 r.1 (lo - (sumH rs - r.2)), min2 r.2 (hi - (sumL rs - r.1))) := by
            unfold narR
            rw [List.getElem?_map, hr1]
            rfl
          rw [List.take_add_one, hnj]
          exact PySem.Paired.snoc (paired_imp (fun _ _ h => (But.upd D _ _).sqt hD5 rfl (same_sqt st h)) hqs) ((But.upd D _ _).sqt hD5 rfl (SqT.of upd_same))
      · rintro H2 ⟨sm, qs, hD, hqs⟩
        refine ⟨D, qs, rfl, sm, hD, ?_⟩
        rw [List.take_of_length_le (by unfold narR; rw [List.length_map, List.length_map, hpl]; exact Nat.le_refl _)] at hqs
        exact hqs
    rintro σ' H2 ⟨D, qs, rfl, s2, hD, hqs⟩
    refine ⟨_, rfl, .inl ⟨D, _, rfl, SqL.of hD, fun t nt => ?_⟩⟩
    have st := same_upd nt (o := .tup (qs.map V.ref))
    refine ⟨_, rfl, _, rfl, (by show 2 ≤ sizeLine; decide), fun u nu => ?_⟩
    have su := same_upd nu (o := .tup [.int lo, .int hi])
    refine ⟨(by show 2 ≤ sizeLine; decide), fun p np => ?_⟩
    have sp := same_upd np (o := .tup [.ref t, .ref u])
    have h2 := (st.trans su).trans sp
    refine q _ _ ((s1.trans s2).trans h2) (.inr ⟨hle, p, t, u, rfl, SqT.of upd_same, ⟨qs, same_sqt (su.trans sp) (SqT.of upd_same), paired_imp (fun _ _ => same_sqt h2) hqs⟩, same_sqt sp (SqT.of upd_same)⟩)
theorem ok_toldc {C : Addr} (d : Dd K mg "told_column" sToldC ["ladder", "texts", "total"]) (dR : Dd K mg "ranges_of" sRangesOf ["ladder", "texts"]) (dA : Dd K mg "added_up" sAddedUp ["ranges"]) (dN : Dd K mg "narrowed" sNarrowed ["ranges", "wanted"]) (B : Bt mg) (bSum : mg "sum" = none)
    (GR : FnOk P w K mg base CX0 5 dR.f dR.fd ["ladder", "texts"] (spRangesOf K C)) : FnOk P w K mg base CX0 6 d.f d.fd ["ladder", "texts", "total"] (spToldC K C) := by
  have GA : FnOk P w K mg base CX0 1 dA.f dA.fd ["ranges"] (spAddedUp K) := ok_addedup dA bSum
  have GN : FnOk P w K mg base CX0 2 dN.f dN.fd ["ranges", "wanted"] (spNarrowed K) := ok_narrowed dN dA B GA
  refine d.F.ok scToldC (fun vs H Q E h => ?_) (fun cdv A outer s H vs Q E hr h => ?_)
  · obtain ⟨_, _, _, _, _, _, _, _, _, rfl, _⟩ := h
    rfl
  · obtain ⟨a, t, us, dn, z, c, l, ks, o, rfl, hL, g, hT, hlen, hk, hko, q⟩ := h
    have nd := scToldC.nd
    have hr0 : Room 1 _ := hr.mono (by decide)
    have hr1 : Room 2 _ := hr.mono (by decide)
    have hr4 := hr
    refine ⟨_, (Evl.pss_cut (ps_set (i := 3) nd rfl (.inl rfl) (pe_call GR hr4 (by rfl) dR.g dR.F.kp dR.b .nil pass0 (pa_cons (pv 0) (pa_cons (pv 1) pa_nil))))
  (Evl.pss_cut (ps_if (pt_cmp (pc_isN (pv 3))) (pss_one (ps_ret pe_non)) pss_nil)
  (Evl.pss_cut (ps_if (pt_cmp (pc_isN (pv 2))) (pss_one (ps_ret (pe_tup (pa_cons (pe_tupleOf (by rfl) B.tuple (pv 3)) (pa_cons (pe_call GA hr0 (by rfl) dA.g dA.F.kp dA.b .nil pass0 (pa_cons (pv 3) pa_nil)) pa_nil))))) pss_nil)
  (Evl.pss_cut (ps_set (i := 4) nd rfl (.inl rfl) (pe_call GR hr4 (by rfl) dR.g dR.F.kp dR.b .nil pass0 (pa_cons (pv 0) (pa_cons (pe_tup (pa_cons (pv 2) pa_nil)) pa_nil))))
  (Evl.pss_cut (ps_if (pt_cmp (pc_isN (pv 4))) (pss_one (ps_ret pe_non)) pss_nil)
  (pss_one (ps_ret (pe_call GN hr1 (by rfl) dN.g dN.F.kp dN.b .nil pass0 (pa_cons (pv 3) (pa_cons (pe_ix (r := rIxL K) ix_list (pv 4) pe_int (fun _ _ => rfl)) pa_nil)))))))))), ?_⟩
    have hpl : (prsOf us dn z c l ks).length ≤ 12 := by unfold prsOf; rw [List.length_map]; exact hlen
    -- the ranges of the rows
    refine ⟨fun σ' H' => ∃ F : Addr, σ' = [some (.ref a), some (.ref t), some (totV us dn o), some (.ref F), none] ∧ Same H H' ∧ (∀ k ∈ ks, lowK us dn z c l k ≤ highK us dn z c l k) ∧ PrAt K H' F (prsOf us dn z c l ks) ∨ (σ' = [some (.ref a), some (.ref t), some (totV us dn o), some .non, none] ∧ Same H H' ∧ ¬ ColOk us dn z c l ks o), ?_, ?_⟩
    · refine ⟨_, rfl, _, rfl, a, t, us, dn, z, c, l, ks, rfl, hL, g, hT, by omega, hk, fun y H1 s1 => ?_, fun y F ps H1 s1 nF hF hps => ?_⟩
      · refine ⟨t, .inr ⟨rfl, s1, fun h => ?_⟩⟩
        obtain ⟨k, k1, k2⟩ := y
        have := h.1 k k1
        omega
      · exact ⟨F, .inl ⟨rfl, s1, y, ⟨ps, hF, prs_paired hps⟩⟩⟩
    rintro σ' H1 ⟨F, ⟨rfl, s1, hsh, hF⟩ | ⟨rfl, s1, hno⟩⟩
    case inr =>
      refine ⟨fun _ _ => False, ?_, fun _ _ h => h.elim⟩
      exact ⟨_, rfl, _, rfl, iteT (q _ _ s1 (.inl ⟨rfl, hno⟩))⟩
    refine ⟨fun σ' H' => H' = H1 ∧ σ' = [some (.ref a), some (.ref t), some (totV us dn o), some (.ref F), none], ?_, ?_⟩
    · exact ⟨_, rfl, _, rfl, iteF ⟨rfl, rfl⟩⟩
    rintro σ' H' ⟨rfl, rfl⟩
    cases o with
    | none =>
      refine ⟨fun _ _ => False, ?_, fun _ _ h => h.elim⟩
      refine ⟨_, rfl, _, rfl, iteT ?_⟩
      obtain ⟨ps, hF0, hps0⟩ := id hF
      refine ⟨_, rfl, .inl ⟨F, _, rfl, SqL.of hF0, fun u nu => ?_⟩⟩
      have su := same_upd nu (o := .tup (ps.map V.ref))
      refine ⟨_, rfl, F, prsOf us dn z c l ks, rfl, hF.sameP su, hpl, fun p H2 s2 hp => ?_⟩
      refine ⟨(by show 2 ≤ sizeLine; decide), fun x nx => ?_⟩
      have sx := same_upd nx (o := .tup [.ref u, .ref p])
      have s12 := s2.trans sx
      refine q _ _ ((s1.trans su).trans s12) (.inr ⟨⟨hsh, (fun k e => by cases e), (fun k e => by cases e)⟩, x, u, p, rfl, SqT.of upd_same, ⟨ps, same_sqt s12 (SqT.of upd_same), paired_imp (fun _ _ => same_sqt (su.trans s12)) hps0⟩, same_sqt sx hp⟩)
    | some kt =>
      have hkt := hko kt rfl
      refine ⟨fun σ' H2 => H2 = H' ∧ σ' = [some (.ref a), some (.ref t), some (.str (textK us dn kt)), some (.ref F), none], ?_, ?_⟩
      · exact ⟨_, rfl, _, rfl, iteF ⟨rfl, rfl⟩⟩
      rintro σ' H2 ⟨rfl, rfl⟩
      refine ⟨fun σ' H3 => ∃ v4 : V, σ' = [some (.ref a), some (.ref t), some (.str (textK us dn kt)), some (.ref F), some v4] ∧ Same H2 H3 ∧ ((v4 = .non ∧ highK us dn z c l kt < lowK us dn z c l kt) ∨ (lowK us dn z c l kt ≤ highK us dn z c l kt ∧ ∃ G p, v4 = .ref G ∧ H3 G = some (.lst [.ref p]) ∧ SqT K H3 p [.int (lowK us dn z c l kt), .int (highK us dn z c l kt)])), ?_, ?_⟩
      · refine ⟨_, rfl, _, rfl, (by show 1 ≤ sizeLine; decide), fun x nx => ?_⟩
        have sx := same_upd nx (o := .tup [.str (textK us dn kt)])
        refine ⟨a, x, us, dn, z, c, l, [kt], rfl, (hL.same s1).same sx, g, SqT.of upd_same, (by show 1 ≤ 1000; decide), fun k hk2 => by rw [List.mem_singleton.mp hk2]; exact hkt, fun y H3 s3 => ?_, fun y G ps H3 s3 nG hG hps => ?_⟩
        · obtain ⟨k, k1, k2⟩ := y
          rw [List.mem_singleton.mp k1] at k2
          exact ⟨_, rfl, sx.trans s3, .inl ⟨rfl, k2⟩⟩
        · match ps, hps with
          | [p], .cons hp .nil => exact ⟨_, rfl, sx.trans s3, .inr ⟨y kt (List.mem_singleton.mpr rfl), G, p, rfl, hG, hp⟩⟩
      rintro σ' H3 ⟨v4, rfl, s3, h4⟩
      have s13 := s1.trans s3
      rcases h4 with ⟨rfl, hlt⟩ | ⟨hle, G, p, rfl, hG, hp⟩
      · refine ⟨fun _ _ => False, ?_, fun _ _ h => h.elim⟩
        refine ⟨_, rfl, _, rfl, iteT (q _ _ s13 (.inl ⟨rfl, fun h => ?_⟩))⟩
        have := h.2.1 kt rfl
        omega
      refine ⟨fun σ' H4 => H4 = H3 ∧ σ' = [some (.ref a), some (.ref t), some (.str (textK us dn kt)), some (.ref F), some (.ref G)], ?_, ?_⟩
      · exact ⟨_, rfl, _, rfl, iteF ⟨rfl, rfl⟩⟩
      rintro σ' H4 ⟨rfl, rfl⟩
      refine ⟨_, rfl, _, rfl, G, _, 0, .ref p, rfl, rfl, SqL.of hG, rfl, F, p, _, _, _, rfl, hF.sameP s3, hpl, hp, fun v H5 s5 hv => ?_⟩
      refine q v H5 (s13.trans s5) ?_
      rcases hv with ⟨rfl, hlt⟩ | ⟨hle2, hP⟩
      · refine .inl ⟨rfl, fun h => ?_⟩
        have h3 : max2 (sumL (prsOf us dn z c l ks)) (lowK us dn z c l kt) ≤ min2 (sumH (prsOf us dn z c l ks)) (highK us dn z c l kt) := h.2.2 kt rfl
        omega
      · exact .inr ⟨⟨hsh, fun k e => by cases e; exact hle, fun k e => by cases e; exact hle2⟩, hP⟩
theorem ok_checkc {C : Addr} (d : Dd K mg "check_column" sCheckC ["ladder", "texts", "total"]) (dC : Dd K mg "check_ladder" sCLad ["ladder"]) (dT : Dd K mg "check_texts" sCTexts ["ladder", "texts"]) (dF : Dd K mg "parts_of_figure" sPFig ["ladder", "text"])
    (GC : FnOk P w K mg base CX0 2 dC.f dC.fd ["ladder"] (spCLad K C)) (GT : FnOk P w K mg base CX0 4 dT.f dT.fd ["ladder", "texts"] (spCTexts K C)) (GF : FnOk P w K mg base CX0 4 dF.f dF.fd ["ladder", "text"] (spPartsOf K C)) : FnOk P w K mg base CX0 5 d.f d.fd ["ladder", "texts", "total"] (spCheckC K C) := by
  refine d.F.ok scCheckC (fun vs H Q E h => ?_) (fun cdv A outer s H vs Q E hr h => ?_)
  · obtain ⟨_, _, _, _, _, _, _, _, _, rfl, _⟩ := h
    rfl
  · obtain ⟨a, t, us, dn, z, c, l, ks, k, rfl, hL, g, hT, hlen, hk, hkt, q⟩ := h
    have nd := scCheckC.nd
    have hr1 : Room 2 _ := hr.mono (by decide)
    refine ⟨_, (pss_cons (ps_expr (pe_call GC hr1 (by rfl) dC.g dC.F.kp dC.b .nil pass0 (pa_cons (pv 0) pa_nil)))
  (pss_cons (ps_expr (pe_call GT hr (by rfl) dT.g dT.F.kp dT.b .nil pass0 (pa_cons (pv 0) (pa_cons (pv 1) pa_nil))))
  (pss_one (ps_expr (pe_call GF hr (by rfl) dF.g dF.F.kp dF.b .nil pass0 (pa_cons (pv 0) (pa_cons (pv 2) pa_nil))))))), ?_⟩
    refine ⟨_, rfl, a, us, dn, z, c, l, rfl, hL, ?_⟩
    refine ⟨_, rfl, _, rfl, a, t, us, dn, z, c, l, ks, rfl, hL, g, hT, hlen, hk, fun H1 s1 => ?_⟩
    exact ⟨_, rfl, _, rfl, a, us, dn, z, c, l, k.1, k.2, rfl, hL.same s1, g, hkt.1, hkt.2.1, hkt.2.2, fun r H2 s2 _ => q _ (s1.trans s2)⟩
theorem ok_column {C : Addr} (d : Dd K mg "column" sColumn ["ladder", "texts", "total"]) (dK : Dd K mg "check_column" sCheckC ["ladder", "texts", "total"]) (dT : Dd K mg "told_column" sToldC ["ladder", "texts", "total"])
    (GK : FnOk P w K mg base CX0 5 dK.f dK.fd ["ladder", "texts", "total"] (spCheckC K C)) (GT : FnOk P w K mg base CX0 6 dT.f dT.fd ["ladder", "texts", "total"] (spToldC K C)) : FnOk P w K mg base CX0 7 d.f d.fd ["ladder", "texts", "total"] (spColumn K C) := by
  refine d.F.ok scColumn (fun vs H Q E h => ?_) (fun cdv A outer s H vs Q E hr h => ?_)
  · obtain ⟨_, _, _, _, _, _, _, _, _, rfl, _⟩ := h
    rfl
  · obtain ⟨a, t, us, dn, z, c, l, ks, k, rfl, hL, g, hT, hlen, hk, hkt, q⟩ := h
    have nd := scColumn.nd
    have hr4 : Room 5 _ := hr.mono (by decide)
    refine ⟨_, (pss_cons (ps_expr (pe_call GK hr4 (by rfl) dK.g dK.F.kp dK.b .nil pass0 (pa_cons (pv 0) (pa_cons (pv 1) (pa_cons (pv 2) pa_nil)))))
  (pss_one (ps_ret (pe_call GT hr (by rfl) dT.g dT.F.kp dT.b .nil pass0 (pa_cons (pv 0) (pa_cons (pv 1) (pa_cons (pv 2) pa_nil))))))), ?_⟩
    refine ⟨_, rfl, _, rfl, _, rfl, a, t, us, dn, z, c, l, ks, k, rfl, hL, g, hT, hlen, hk, hkt, fun H1 s1 => ?_⟩
    exact ⟨_, rfl, _, rfl, _, rfl, a, t, us, dn, z, c, l, ks, some k, rfl, hL.same s1, g, same_sqt s1 hT, hlen, hk, fun k2 e => by cases e; exact hkt, fun v H2 s2 hv => q v H2 (s1.trans s2) hv⟩
theorem ok_numf {C : Addr} (d : Dd K mg "numbers_for" sNumF ["ladder", "texts", "total"]) (dC : Dd K mg "column" sColumn ["ladder", "texts", "total"]) (dA : Dd K mg "added_up" sAddedUp ["ranges"]) (B : Bt mg) (bSum : mg "sum" = none)
    (GC : FnOk P w K mg base CX0 7 dC.f dC.fd ["ladder", "texts", "total"] (spColumn K C)) : FnOk P w K mg base CX0 8 d.f d.fd ["ladder", "texts", "total"] (spNumF K C) := by
  have GA : FnOk P w K mg base CX0 1 dA.f dA.fd ["ranges"] (spAddedT K) := ok_addedT dA bSum
  refine d.F.ok scNumF (fun vs H Q E h => ?_) (fun cdv A outer s H vs Q E hr h => ?_)
  · obtain ⟨_, _, _, _, _, _, _, _, _, rfl, _⟩ := h
    rfl
  · obtain ⟨a, t, us, dn, z, c, l, ks, k, rfl, hL, g, hT, hlen, hk, hkt, q⟩ := h
    have nd := scNumF.nd
    have hr0 : Room 1 _ := hr.mono (by decide)
    refine ⟨_, (Evl.pss_cut (ps_set (i := 3) nd rfl (.inl rfl) (pe_call GC hr (by rfl) dC.g dC.F.kp dC.b .nil pass0 (pa_cons (pv 0) (pa_cons (pv 1) (pa_cons (pv 2) pa_nil)))))
  (Evl.pss_cut (ps_if (pt_cmp (pc_isN (pv 3))) (pss_one (ps_ret pe_non)) pss_nil)
  (Evl.pss_cut (ps_asg (pv 3) (pg_tup rfl (pgs_cons (pg_name (i := 4) nd rfl (Or.inl rfl)) (pgs_cons (pg_name (i := 5) nd rfl (Or.inl rfl)) pgs_nil))))
  (Evl.pss_cut (ps_set (i := 6) nd rfl (.inl rfl) (pe_op op_sub (pe_ix (r := rIxT K) ix_tup (pv 5) pe_int (fun _ _ => rfl)) (pe_ix (r := rIxT K) ix_tup (pe_call GA hr0 (by rfl) dA.g dA.F.kp dA.b .nil pass0 (pa_cons (pv 4) pa_nil)) pe_int (fun _ _ => rfl))))
  (Evl.pss_cut (ps_set (i := 7) nd rfl (.inl rfl) (pe_lst pa_nil))
  (Evl.pss_cut (ps_for PassesOwn.never rfl (pi_tup (pv 4)) (pg_tup rfl (pgs_cons (pg_name (i := 8) nd rfl (Or.inl rfl)) (pgs_cons (pg_name (i := 9) nd rfl (Or.inl rfl)) pgs_nil)))
  (Evl.pss_cut (ps_set (i := 10) nd rfl (.inl rfl) (pe_callB (call_min2 rfl) (by rfl) B.min (by decide +kernel) (pa_cons (pv 6) (pa_cons (pe_op op_sub (pv 9) (pv 8)) pa_nil))))
  (Evl.pss_cut (ps_expr (pe_bm PySem.F.plainAttrs_list PySem.F.slot_list_append PySem.F.type_list_append mt_append (pv 7) (pa_cons (pe_op op_add (pv 8) (pv 10)) pa_nil)))
  (pss_one (ps_aug (i := 6) nd rfl (.inl rfl) (pv 10) ip_sub)))))
  (pss_one (ps_ret (pe_tupleOf (by rfl) B.tuple (pv 7)))))))))), ?_⟩
    refine ⟨fun σ' H' => ∃ v3 : V, σ' = [some (.ref a), some (.ref t), some (.str (textK us dn k)), some v3, none, none, none, none, none, none, none] ∧ Same H H' ∧ ColV K H' v3 us dn z c l ks (some k), ?_, ?_⟩
    · exact ⟨_, rfl, _, rfl, _, rfl, a, t, us, dn, z, c, l, ks, k, rfl, hL, g, hT, hlen, hk, hkt, fun v H1 s1 hv => ⟨v, rfl, s1, hv⟩⟩
    rintro σ' H1 ⟨v3, rfl, s1, ⟨rfl, hno⟩ | ⟨hok, p, tt, u, rfl, hp, hR, hu⟩⟩
    · refine ⟨fun _ _ => False, ?_, fun _ _ h => h.elim⟩
      exact ⟨_, rfl, _, rfl, iteT (q _ _ s1 (.inl ⟨rfl, hno⟩))⟩
    refine ⟨fun σ' H' => H' = H1 ∧ σ' = [some (.ref a), some (.ref t), some (.str (textK us dn k)), some (.ref p), none, none, none, none, none, none, none], ?_, ?_⟩
    · exact ⟨_, rfl, _, rfl, iteF ⟨rfl, rfl⟩⟩
    rintro σ' H' ⟨rfl, rfl⟩
    refine ⟨fun σ' H2 => H2 = H' ∧ σ' = [some (.ref a), some (.ref t), some (.str (textK us dn k)), some (.ref p), some (.ref tt), some (.ref u), none, none, none, none, none], ?_, ?_⟩
    · exact ⟨_, rfl, p, _, rfl, hp, rfl, _, _, rfl, _, _, rfl, rfl, rfl, rfl⟩
    rintro σ' H2 ⟨rfl, rfl⟩
    have hq : ∀ (v : V) (H' : Hp), Same H H' → (∃ p, v = .ref p ∧ SqT K H' p ((numsK us dn z c l ks k).map V.int)) → Q v H' := fun v H' s' h => q v H' s' (.inr ⟨hok, h⟩)
    unfold numsK at hq
    have hrl : (colR us dn z c l ks (some k)).length ≤ 12 := by
      show (narR _ _ _).length ≤ 12
      unfold narR prsOf
      rw [List.length_map, List.length_map]
      exact hlen
    clear q
    generalize colR us dn z c l ks (some k) = rs at hR hrl hq
    generalize selL us dn z c l ks (some k) = lo at hu hq
    generalize selH us dn z c l ks (some k) = hi at hu
    refine ⟨fun σ' H3 => σ' = [some (.ref a), some (.ref t), some (.str (textK us dn k)), some (.ref p), some (.ref tt), some (.ref u), some (.int (lo - sumL rs)), none, none, none, none] ∧ Same H2 H3, ?_, ?_⟩
    · refine ⟨_, rfl, u, _, 0, _, rfl, rfl, hu, rfl, _, rfl, tt, rs, rfl, hR, hrl, fun x H3 s3 hx => ?_⟩
      exact ⟨x, _, 0, _, rfl, rfl, hx, rfl, _, _, rfl, rfl, rfl, s3⟩
    rintro σ' H3 ⟨rfl, s3⟩
    have s13 := s1.trans s3
    obtain ⟨ps, ht, hps⟩ := hR.same s3
    have hpl : ps.length = rs.length := hps.length
    refine ⟨fun σ' H4 => ∃ D : Addr, σ' = [some (.ref a), some (.ref t), some (.str (textK us dn k)), some (.ref p), some (.ref tt), some (.ref u), some (.int (lo - sumL rs)), some (.ref D), none, none, none] ∧ Same H3 H4 ∧ H4 D = some (.lst []) ∧ H3 D = none, ?_, ?_⟩
    · exact ⟨Nat.zero_le _, fun D nD => ⟨D, rfl, same_upd nD, upd_same, nD⟩⟩
    rintro σ' H4 ⟨D, rfl, s4, hD, nD⟩
    generalize lo - sumL rs = m0 at *
    refine ⟨fun σ' H5 => ∃ (v6 v8 v9 v10 : Option V), σ' = [some (.ref a), some (.ref t), some (.str (textK us dn k)), some (.ref p), some (.ref tt), some (.ref u), v6, some (.ref D), v8, v9, v10] ∧ Same H3 H5 ∧ H5 D = some (.lst ((fillN rs m0).map V.int)), ?_, ?_⟩
    · refine ⟨_, rfl, tt, rfl, ⟨_, same_sqt s4 ht⟩, for_tup (K := K) (a := tt) (xs := ps.map V.ref) (fun j σ H5 => ∃ (m : Int) (v8 v9 v10 : Option V) (xs : List Int), σ = [some (.ref a), some (.ref t), some (.str (textK us dn k)), some (.ref p), some (.ref tt), some (.ref u), some (.int m), some (.ref D), v8, v9, v10] ∧ Same H3 H5 ∧ H5 D = some (.lst (xs.map V.int)) ∧ xs.length = j ∧ fillN rs m0 = xs ++ fillN (rs.drop j) m) ⟨m0, none, none, none, [], rfl, s4, hD, rfl, rfl⟩ (fun j σ H5 _ ⟨_, _, _, _, _, _, h, _⟩ => same_sqt h ht) ?_ ?_⟩
      · rintro j x σ H5 hj ⟨m, v8, v9, v10, xs, rfl, s5, hD5, hxl, hfill⟩
        obtain ⟨pj, hpj, rfl⟩ := of_get_ref hj
        obtain ⟨r, hr1, hr3⟩ := paired_fst hps hpj
        have hjl := (List.getElem?_eq_some_iff.mp hr1).1
        refine ⟨pj, _, rfl, same_sqt s5 hr3, rfl, _, _, rfl, _, _, rfl, rfl, ?_⟩
        refine ⟨fun σ' H6 => H6 = H5 ∧ σ' = [some (.ref a), some (.ref t), some (.str (textK us dn k)), some (.ref p), some (.ref tt), some (.ref u), some (.int m), some (.ref D), some (.int r.1), some (.int r.2), some (.int (min2 m (r.2 - r.1)))], ?_, ?_⟩
        · exact ⟨_, rfl, _, rfl, _, rfl, _, _, rfl, rfl, _, _, rfl, rfl, rfl⟩
        rintro σ' H6 ⟨rfl, rfl⟩
        refine ⟨fun σ' H7 => σ' = [some (.ref a), some (.ref t), some (.str (textK us dn k)), some (.ref p), some (.ref tt), some (.ref u), some (.int m), some (.ref D), some (.int r.1), some (.int r.2), some (.int (min2 m (r.2 - r.1)))] ∧ Same H3 H7 ∧ H7 D = some (.lst ((xs ++ [r.1 + min2 m (r.2 - r.1)]).map V.int)), ?_, ?_⟩
        · refine ⟨_, rfl, .inl ⟨rfl, _, SqL.of hD5⟩, _, rfl, _, rfl, _, _, rfl, rfl, D, _, _, rfl, rfl, hD5, ?_, ?_⟩
          · rw [List.length_map, hxl]
            exact Nat.lt_of_lt_of_le (show j < 13 by omega) (by decide)
          · refine ⟨rfl, fun b o e => ?_, ?_⟩
            · rw [upd_ne (ne_of_none e nD)]
              exact s5 _ _ e
            · rw [upd_same, List.map_append]
              rfl
        rintro σ' H7 ⟨rfl, s7, hD7⟩
        refine ⟨_, rfl, _, rfl, _, _, rfl, rfl, ?_⟩
        refine ⟨m - min2 m (r.2 - r.1), _, _, _, xs ++ [r.1 + min2 m (r.2 - r.1)], rfl, s7, hD7, by rw [List.length_append, hxl]; rfl, ?_⟩
        rw [hfill, List.append_assoc]
        have ed : rs.drop j = r :: rs.drop (j + 1) := by
          rw [List.drop_eq_getElem_cons hjl]
          rw [List.getElem?_eq_getElem hjl] at hr1
          rw [Option.some.inj hr1]
        rw [ed]
        rfl
      · rintro σ H5 ⟨m, v8, v9, v10, xs, rfl, s5, hD5, hxl, hfill⟩
        rw [List.length_map, hpl] at hxl
        rw [List.length_map, hpl, List.drop_length] at hfill
        have e : fillN rs m0 = xs := by rw [hfill]; exact List.append_nil _
        exact ⟨_, _, _, _, rfl, s5, by rw [e]; exact hD5⟩
    rintro σ' H5 ⟨v6, v8, v9, v10, rfl, s5, hD5⟩
    refine ⟨_, rfl, .inl ⟨D, _, rfl, SqL.of hD5, fun x nx => ?_⟩⟩
    exact hq _ _ ((s13.trans s5).trans (same_upd nx)) ⟨x, rfl, SqT.of upd_same⟩
end
end My

namespace My
open PySem PySem.Spec PyProof.Rows L2
/-! ### what a total leaves of the rows -/
theorem sumL_cons (r : Int × Int) (rs : List (Int × Int)) : sumL (r :: rs) = r.1 + sumL rs := rfl
theorem sumH_cons (r : Int × Int) (rs : List (Int × Int)) : sumH (r :: rs) = r.2 + sumH rs := rfl
def Asc (rs : List (Int × Int)) : Prop := ∀ r ∈ rs, r.1 ≤ r.2
theorem Asc.tail {r : Int × Int} {rs : List (Int × Int)} (h : Asc (r :: rs)) : Asc rs := fun x hx => h x (List.mem_cons_of_mem _ hx)
theorem asc_le : ∀ {rs : List (Int × Int)}, Asc rs → sumL rs ≤ sumH rs
  | [], _ => Int.le_refl _
  | r :: rs, h => by
    have h1 := asc_le h.tail
    have h2 := h r (List.mem_cons_self ..)
    rw [sumL_cons, sumH_cons]
    omega
theorem asc_mem : ∀ {rs : List (Int × Int)}, Asc rs → ∀ {r : Int × Int}, r ∈ rs → r.2 - r.1 ≤ sumH rs - sumL rs
  | [], _, _, hm => by cases hm
  | x :: rs, h, r, hm => by
    have h1 := asc_le h.tail
    have h2 := h x (List.mem_cons_self ..)
    rw [sumL_cons, sumH_cons]
    rcases List.mem_cons.mp hm with e | e
    · subst e
      omega
    · have := asc_mem h.tail e
      omega
/-- parts of widths that are cut at s reach s, or all of it -/
theorem cut_low (s : Int) (hs : 0 ≤ s) : ∀ {rs : List (Int × Int)}, Asc rs → sumL (rs.map fun r => (max2 r.1 (r.2 - s), r.2)) ≤ sumH rs - min2 (sumH rs - sumL rs) s
  | [], _ => by
    show (0 : Int) ≤ 0 - min2 (0 - 0) s
    unfold min2
    split <;> omega
  | r :: rs, h => by
    have h1 := cut_low s hs h.tail
    have h2 := h r (List.mem_cons_self ..)
    have h3 := asc_le h.tail
    rw [List.map_cons, sumL_cons, sumL_cons, sumH_cons]
    generalize sumL (rs.map fun r => (max2 r.1 (r.2 - s), r.2)) = a at *
    generalize sumL rs = b at *
    generalize sumH rs = c at *
    unfold min2 at h1 ⊢
    show max2 r.1 (r.2 - s) + a ≤ _
    unfold max2
    split at h1 <;> split <;> split <;> omega
theorem cut_high (s : Int) (hs : 0 ≤ s) : ∀ {rs : List (Int × Int)}, Asc rs → sumL rs + min2 (sumH rs - sumL rs) s ≤ sumH (rs.map fun r => (r.1, min2 r.2 (r.1 + s)))
  | [], _ => by
    show (0 : Int) + min2 (0 - 0) s ≤ 0
    unfold min2
    split <;> omega
  | r :: rs, h => by
    have h1 := cut_high s hs h.tail
    have h2 := h r (List.mem_cons_self ..)
    have h3 := asc_le h.tail
    rw [List.map_cons, sumH_cons, sumL_cons, sumH_cons]
    generalize sumH (rs.map fun r => (r.1, min2 r.2 (r.1 + s))) = a at *
    generalize sumL rs = b at *
    generalize sumH rs = c at *
    unfold min2 at h1
    show _ ≤ min2 r.2 (r.1 + s) + a
    unfold min2
    split at h1 <;> split <;> split <;> omega
theorem sumL_map (f g : Int × Int → Int × Int) (rs : List (Int × Int)) (h : ∀ r ∈ rs, (f r).1 = (g r).1) : sumL (rs.map f) = sumL (rs.map g) := by
  unfold sumL
  rw [List.map_map, List.map_map]
  congr 1
  exact List.map_congr_left fun r hr => h r hr
theorem sumH_map (f g : Int × Int → Int × Int) (rs : List (Int × Int)) (h : ∀ r ∈ rs, (f r).2 = (g r).2) : sumH (rs.map f) = sumH (rs.map g) := by
  unfold sumH
  rw [List.map_map, List.map_map]
  congr 1
  exact List.map_congr_left fun r hr => h r hr
/-- the narrowed ranges: in order, and their sums hold the sums that are left -/
theorem nar_ok {rs : List (Int × Int)} (h : Asc rs) {x y : Int} (h1 : sumL rs ≤ x) (h2 : x ≤ y) (h3 : y ≤ sumH rs) : Asc (narR rs x y) ∧ sumL (narR rs x y) ≤ x ∧ y ≤ sumH (narR rs x y) := by
  refine ⟨fun r hr => ?_, ?_, ?_⟩
  · unfold narR at hr
    obtain ⟨q, hq, rfl⟩ := List.mem_map.mp hr
    have a1 := h q hq
    have a2 := asc_mem h hq
    show max2 q.1 (x - (sumH rs - q.2)) ≤ min2 q.2 (y - (sumL rs - q.1))
    unfold max2 min2
    split <;> split <;> omega
  · have e := cut_low (sumH rs - x) (by omega) h
    have e2 : sumL (narR rs x y) = sumL (rs.map fun r => (max2 r.1 (r.2 - (sumH rs - x)), r.2)) := sumL_map _ _ rs fun r _ => by
      show max2 r.1 (x - (sumH rs - r.2)) = max2 r.1 (r.2 - (sumH rs - x))
      congr 1
      omega
    rw [← e2] at e
    generalize sumL (narR rs x y) = a at e ⊢
    unfold min2 at e
    split at e <;> omega
  · have e := cut_high (y - sumL rs) (by omega) h
    have e2 : sumH (narR rs x y) = sumH (rs.map fun r => (r.1, min2 r.2 (r.1 + (y - sumL rs)))) := sumH_map _ _ rs fun r _ => by
      show min2 r.2 (y - (sumL rs - r.1)) = min2 r.2 (r.1 + (y - sumL rs))
      congr 1
      omega
    rw [← e2] at e
    generalize sumH (narR rs x y) = a at e ⊢
    unfold min2 at e
    split at e <;> omega
theorem paired_of_get {α β : Type} {F : α → β → Prop} : ∀ {xs : List α} {ys : List β}, xs.length = ys.length → (∀ (i : Nat) x y, xs[i]? = some x → ys[i]? = some y → F x y) → PySem.Paired F xs ys
  | [], [], _, _ => .nil
  | x :: xs, y :: ys, hl, h => .cons (h 0 x y rfl rfl) (paired_of_get (by simpa using hl) fun i a b ha hb => h (i + 1) a b ha hb)
theorem nar_in {rs : List (Int × Int)} {x y : Int} {i : Nat} {r q : Int × Int} (hr : rs[i]? = some r) (hq : (narR rs x y)[i]? = some q) : r.1 ≤ q.1 ∧ q.2 ≤ r.2 := by
  unfold narR at hq
  rw [List.getElem?_map, hr] at hq
  have := Option.some.inj hq
  subst this
  constructor
  · show r.1 ≤ max2 r.1 _
    unfold max2
    split <;> omega
  · show min2 r.2 _ ≤ r.2
    unfold min2
    split <;> omega
/-- numbers filled in: within the ranges, with this sum -/
theorem fill_ok : ∀ {rs : List (Int × Int)} {m : Int}, Asc rs → 0 ≤ m → m ≤ sumH rs - sumL rs → PySem.Paired (fun n (r : Int × Int) => r.1 ≤ n ∧ n ≤ r.2) (fillN rs m) rs ∧ (fillN rs m).sum = sumL rs + m
  | [], m, _, m0, m1 => by
    have : m = 0 := by
      have e1 : sumH [] = 0 := rfl
      have e2 : sumL [] = 0 := rfl
      omega
    subst this
    exact ⟨.nil, rfl⟩
  | r :: rs, m, h, m0, m1 => by
    have a1 := h r (List.mem_cons_self ..)
    rw [sumL_cons, sumH_cons] at m1
    have a2 := asc_le h.tail
    have b0 : 0 ≤ min2 m (r.2 - r.1) ∧ min2 m (r.2 - r.1) ≤ r.2 - r.1 ∧ 0 ≤ m - min2 m (r.2 - r.1) ∧ m - min2 m (r.2 - r.1) ≤ sumH rs - sumL rs := by
      unfold min2
      split <;> omega
    obtain ⟨c1, c2⟩ := fill_ok (rs := rs) h.tail b0.2.2.1 b0.2.2.2
    refine ⟨.cons ⟨by omega, by omega⟩ c1, ?_⟩
    show (r.1 + min2 m (r.2 - r.1)) + (fillN rs _).sum = _
    rw [c2, sumL_cons]
    omega
theorem prs_asc {us : List (Str × Int)} {d : Nat} {s : Str} {c : Bool} {l : Int} {ks : List FKey} (h : ∀ k ∈ ks, lowK us d s c l k ≤ highK us d s c l k) : Asc (prsOf us d s c l ks) := fun r hr => by
  unfold prsOf at hr
  obtain ⟨k, hk, rfl⟩ := List.mem_map.mp hr
  exact h k hk
/-- the numbers that are told fit -/
theorem nums_ok {us : List (Str × Int)} {d : Nat} {s : Str} {c : Bool} {l : Int} {ks : List FKey} {k : FKey} (h : ColOk us d s c l ks (some k)) :
    PySem.Paired (fun n k => lowK us d s c l k ≤ n ∧ n ≤ highK us d s c l k) (numsK us d s c l ks k) ks ∧ (numsK us d s c l ks k).sum = selL us d s c l ks (some k) ∧ PySem.Paired (fun n (r : Int × Int) => r.1 ≤ n ∧ n ≤ r.2) (numsK us d s c l ks k) (colR us d s c l ks (some k)) := by
  obtain ⟨h1, h2, h3⟩ := h
  have h4 := h3 k rfl
  have ha := prs_asc h1
  have x1 : sumLK us d s c l ks ≤ selL us d s c l ks (some k) := by
    show _ ≤ max2 _ _
    unfold max2
    split <;> omega
  have x2 : selH us d s c l ks (some k) ≤ sumHK us d s c l ks := by
    show min2 _ _ ≤ _
    unfold min2
    split <;> omega
  obtain ⟨n1, n2, n3⟩ := nar_ok ha x1 h4 x2
  obtain ⟨f1, f2⟩ := fill_ok (m := selL us d s c l ks (some k) - sumL (colR us d s c l ks (some k))) n1 (by show 0 ≤ selL us d s c l ks (some k) - sumL (narR _ _ _); omega) (by show selL us d s c l ks (some k) - sumL (narR _ _ _) ≤ _; omega)
  refine ⟨?_, ?_, f1⟩
  · refine paired_of_get (by unfold numsK; rw [fillN_len]; show (narR _ _ _).length = _; unfold narR prsOf; rw [List.length_map, List.length_map]) fun i n k' hn hk' => ?_
    obtain ⟨r, hr, hin⟩ := paired_fst f1 hn
    have hp : (prsOf us d s c l ks)[i]? = some (lowK us d s c l k', highK us d s c l k') := by
      unfold prsOf
      rw [List.getElem?_map, hk']
      rfl
    obtain ⟨g1, g2⟩ := nar_in hp hr
    have g1' : lowK us d s c l k' ≤ r.1 := g1
    have g2' : r.2 ≤ highK us d s c l k' := g2
    exact ⟨by omega, by omega⟩
  · show (fillN _ _).sum = _
    have e : sumL (colR us d s c l ks (some k)) = sumL (narR (prsOf us d s c l ks) (selL us d s c l ks (some k)) (selH us d s c l ks (some k))) := rfl
    refine Eq.trans f2 ?_
    omega
/-- a sum that is possible and shown by the total is among those that are left -/
theorem col_none {us : List (Str × Int)} {d : Nat} {s : Str} {c : Bool} {l : Int} {ks : List FKey} {k : FKey} (g : Good us d s l) (hk : KeyOk us k) (hks : ∀ k ∈ ks, KeyOk us k) (h1 : ∀ k ∈ ks, lowK us d s c l k ≤ highK us d s c l k) (h : ¬ ColOk us d s c l ks (some k)) :
    ∀ n, sumLK us d s c l ks ≤ n → n ≤ sumHK us d s c l ks → placedM us d s c l n ≠ k := by
  intro n n1 n2 e
  obtain ⟨b0, _⟩ := sums_nn (c := c) g hks h1
  have hr := (range_iff (c := c) g (show 0 ≤ n by omega) hk.1 hk.2.1).mp (show placedM us d s c l n = (k.1, k.2) from e)
  have r1 : lowK us d s c l k ≤ n := hr.1
  have r2 : n ≤ highK us d s c l k := hr.2
  refine h ⟨h1, fun k2 e2 => ?_, fun k2 e2 => ?_⟩
  · cases e2
    omega
  · cases e2
    show max2 _ _ ≤ min2 _ _
    unfold max2 min2
    split <;> split <;> omega
end My

namespace NH
open PySem PySem.Spec PyProof.Rows L2
/-! ### starred targets, starred arguments of local names -/
theorem vals_take : ∀ {vs : List V} {us : List Value} (n : Nat), Vals vs us → Vals (vs.take n) (us.take n)
  | _, _, 0, _ => by rw [List.take_zero, List.take_zero]; exact .nil
  | _, _, n + 1, .nil => .nil
  | _, _, n + 1, .cons r t => .cons r (vals_take n t)
theorem vals_drop : ∀ {vs : List V} {us : List Value} (n : Nat), Vals vs us → Vals (vs.drop n) (us.drop n)
  | _, _, 0, h => h
  | _, _, n + 1, .nil => .nil
  | _, _, n + 1, .cons r t => vals_drop n t
section
variable {X : Cx} {pos : Pos}
theorem star_items {pins : List (Addr × Obj)} {σ : L2.St} {H : Hp} {s : Shared} {l : Addr} {its : List Value} {vs : List V} {n i : Nat} {E : Value → Shared → Prop} {Q : List Value → Shared → Prop} (I : Inv X pins σ H s) (hl : IsTup s.heap l its.toArray) (rv : Vals vs its) (hh : X.A.handled = none) (hi : i < n) (hn : n ≤ vs.length + 1) (hz : vs.length ≤ 1000)
    (h : ∀ D s', H D = none → Inv X pins σ (upd H D (.lst ((vs.drop i).take (vs.length + 1 - n)))) s' → Q (its.take i ++ [.ref D] ++ (its.drop i).drop (vs.length + 1 - n)) s') : wpAny (model X.prog X.w) X.A (unpackItems (.ref l) n (some i)) Q E s := by
  have hlen : its.length = vs.length := rv.length.symm
  have hsz : its.toArray.size = vs.length := by rw [List.size_toArray, hlen]
  have hlt : l ≠ s.heap.objs.size := by
    obtain ⟨o, ho, _⟩ := hl
    exact Nat.ne_of_lt (Heap.lt_size ho)
  unfold unpackItems
  refine wpAny_bind ?_
  unfold notIterableAtAll
  refine wpAny_bind (wpAny_specialOf hl.typeIs slot_tuple_iter.lookup ?_)
  refine wpAny_pure ?_
  simp only [Bool.false_eq_true, if_false]
  refine wpAny_bind (wpAny_holding (iter_tuple hl ?_))
  refine wpAny_bind (wpAny_holding (draw_tuple hlt i 0 _ _ ⟨_, Heap.get?_push_size _ rfl, rfl, rfl⟩ (hl.push _) (by omega) fun h₁ hit₁ hs₁ => ?_))
  have hl₁ : IsTup h₁ l its.toArray := (hl.push _).extBut hs₁.extBut hlt
  rw [Nat.zero_add] at hit₁
  have hit₁' := hit₁
  obtain ⟨oi, hoi, _⟩ := hit₁'
  have hl₁' := hl₁
  obtain ⟨ol, hol, _⟩ := hl₁'
  rw [List.drop_zero]
  have et : its.toArray.toList = its := by simp
  rw [et]
  have hfl : (its.take i).length = i := by rw [List.length_take]; omega
  rw [if_neg (show ¬ ((its.take i).length < i) by rw [hfl]; omega)]
  refine wpAny_bind (wpAny_holding (PySem.W.kun_collect (s := { s with heap := h₁ }) (T := "tuple_iterator") (.inr (.inr (.inr rfl))) (Walks.tuple (A := X.A.in1) hh s.heap.objs.size l hlt its.toArray) (fun j u st => st.1.typeIs) (k := i) (by omega) ⟨hit₁, hl₁⟩ (Heap.lt_size hoi) (Heap.lt_size hol) (fun h₂ tk hk => ?_) (by rw [sizeLine_eq]; omega)))
  rw [et]
  have hrl : (its.drop i).length = vs.length - i := by rw [List.length_drop, hlen]
  have hmid : (its.drop i).length - (n - 1 - i) = vs.length + 1 - n := by rw [hrl]; omega
  show wpAny _ _ (if (its.drop i).length < n - 1 - i then _ else _) _ _ _
  rw [if_neg (by rw [hrl]; omega)]
  show wpAny _ _ (newList ((its.drop i).take ((its.drop i).length - (n - 1 - i))) >>= fun d => pure (its.take i ++ [d] ++ (its.drop i).drop ((its.drop i).length - (n - 1 - i)))) _ _ _
  rw [hmid]
  have he : Heap.ExtBut s.heap.objs.size s.heap h₂ := fun b o hb e => hk b o hb (hs₁.extBut b o hb (Heap.get?_push_of_some _ e))
  have I2 : Inv X pins σ H { s with heap := h₂, toks := tk } := I.kept fun b u e => he b u (Nat.ne_of_lt (Heap.lt_size e)) e
  refine wpAny_bind (wpAny_newList ?_ (by rw [List.length_take, hrl, sizeLine_eq]; omega))
  refine wpAny_pure (h _ _ (I2.hok.fresh (Nat.le_refl _)) ?_)
  refine I2.laid (t' := tk) (fun b u e => Heap.get?_push_of_some _ e) (Nat.le_refl _) ?_
  exact ⟨by rw [List.length_take, List.length_drop, sizeLine_eq]; omega, _, 0, vals_take _ (vals_drop _ rv), Heap.get?_push_size _ rfl⟩
/-- a, *b, .. = a tuple; the starred target stands at i of n -/
def gStar (K : PySem.W.Frag) (n i : Nat) (t : TGs) : TG := fun v σ H Q => ∃ a xs, v = .ref a ∧ SqT K H a xs ∧ i < n ∧ n ≤ xs.length + 1 ∧ xs.length ≤ 1000 ∧ ∀ D, H D = none → t (xs.take i ++ [.ref D] ++ (xs.drop i).drop (xs.length + 1 - n)) σ (upd H D (.lst ((xs.drop i).take (xs.length + 1 - n)))) Q
theorem pg_star {es : List Expr} {k : Nat} {t : TGs} {n i : Nat} (hc : X.calm = true) (h : PGs X es t)
    (hn : (assignEach es X.env).length = n := by rfl) (hst : (assignEach es X.env).findIdx? (·.1) = some i := by rfl) : PG X (.Tuple es k pos) (gStar X.K n i t) := by
  refine ⟨fun pins s σ H v u Q I r hw => ?_⟩
  obtain ⟨a, xs, e1, hq, hi, hl, hz, hw⟩ := hw
  subst e1
  cases r
  obtain ⟨its, rv, ht, hz'⟩ := I.tuple hq
  rw [PyProof.Rows.assign_Tuple]
  refine wpAny_bind (wpAny_standAt ?_)
  unfold unpack
  rw [hn, hst]
  refine wpAny_bind (wpAny_holding (star_items I ht rv (I.ok.hd hc) hi hl hz fun D s' nD I' => ?_))
  refine h.run pins s' σ _ (xs.take i ++ [.ref D] ++ (xs.drop i).drop (xs.length + 1 - n)) _ Q I' ?_ (hw D nD)
  exact ((vals_take _ rv).append (.cons (show RelV (.ref D) (.ref D) from rfl) .nil)).append (vals_drop _ (vals_drop _ rv))
theorem pgs_star {e : Expr} {es : List Expr} {t : TG} {u : TGs} {p : Pos} (h1 : PG X e t) (h2 : PGs X es u)
    (hs : (assignEach (.Starred e p :: es) X.env).map (·.2) = assign e X.env :: (assignEach es X.env).map (·.2) := by rfl) : PGs X (.Starred e p :: es) (gCons t u) := by
  refine ⟨fun pins s σ H vs us Q I r h => ?_⟩
  obtain ⟨v, vr, e1, h⟩ := h
  subst e1
  cases r with
  | cons r rr =>
    rw [hs]
    refine assignInOrder_cons (thn (h1.run pins s σ H _ _ _ I r h) fun _ s1 ⟨σ1, H1, I1, q1⟩ => ?_)
    exact h2.run pins s1 σ1 H1 _ _ Q I1 rr q1
end
section
variable {X : Cx} {CX : CXT} {k i : Nat} {f : Addr} {sp : Sp} {E : XK} {x : Str} {e : Expr} {es : List Expr} {te : TE} {t : TA} {p sp_ pos : Pos}
theorem one_of {X : Cx} {k : Nat} {fr f : Addr} {spR sp : Sp} {E : XK} (R : PySem.W.keepIn X.K (.ref fr) = true ∧ FnR X.prog X.w X.K X.mg X.base CX0 k fr spR) (h : (fun f => if f = fr then some (spR, (E0 : XK)) else none) f = some (sp, E)) : PySem.W.keepIn X.K (.ref f) = true ∧ FnR X.prog X.w X.K X.mg X.base CX0 k f sp ∧ Passes CX0 X E := by
  by_cases e : f = fr
  · subst e
    have h' : some (spR, (E0 : XK)) = some (sp, E) := by rw [← h]; exact (if_pos rfl).symm
    cases h'
    exact ⟨R.1, R.2, pass0⟩
  · have h' : (none : Option (Sp × XK)) = some (sp, E) := by rw [← h]; exact (if_neg e).symm
    cases h'
/-- x(*y), x a local name that holds one of several defs -/
theorem pe_callLS1 {K : PySem.W.Frag} {S : Addr → Option (Sp × XK)} (A : ∀ f sp E, S f = some (sp, E) → PySem.W.keepIn X.K (.ref f) = true ∧ FnR X.prog X.w X.K X.mg X.base CX k f sp ∧ Passes CX X E) (hr : Room k X.A) (hN : X.N[i]? = some x) (hv : Vis X.env.scope x) (he : PE X e te)
    (hdb : (x == ("__debug__" : Str)) = false := by decide) (hcd : (x == ("__classdict__" : Str)) = false := by decide)
    (hst : starEach [.Starred e sp_] X.env = [(true, eval e X.env)] := by rfl) (hK : X.K = K := by rfl) :
    PE X (.Call (.Name x p) [.Starred e sp_] [] pos) (fun σ H Q => ∃ f sp E, σ[i]? = some (some (.ref f)) ∧ S f = some (sp, E) ∧ te σ H fun y H1 => ∃ a xs, y = V.ref a ∧ (SqT K H1 a xs ∨ SqL K H1 a xs) ∧ sp xs H1 Q E) := by
  subst hK
  refine ⟨fun pins s σ H Q I h => ?_⟩
  obtain ⟨f, sp, E, hs, hS, ht⟩ := h
  obtain ⟨hk, F, hx⟩ := A f sp E hS
  refine wpAny_Call_Name_kw (thn ((pe_var (pos := p) hN hv hdb hcd).run pins s σ H (fun v H1 => v = .ref f ∧ H1 = H) I ⟨.ref f, hs, rfl, rfl⟩) fun u s1 ⟨v, H1, I1, r1, q1⟩ => ?_)
  obtain ⟨rfl, rfl⟩ := q1
  cases r1
  refine PySem.W.callWith_S (h₀ := X.base) I.ok.mod.kin hk (thn (he.run pins s1 σ H1 _ I1 ht) fun v s2 ⟨y, H2, I2, ry, a, xs, ey, hxs, q⟩ => ?_) hst
  subst ey
  obtain rfl : v = Value.ref a := ry
  exact StX.star_any I2 hxs fun us s3 I3 rv => ⟨I3.kIn, wpAny_call (run_fnR F hr hx I3 rv q)⟩
/-- x(e, .., *y) -/
theorem pe_callLS2 {S : Addr → Option (Sp × XK)} (A : ∀ f sp E, S f = some (sp, E) → PySem.W.keepIn X.K (.ref f) = true ∧ FnR X.prog X.w X.K X.mg X.base CX k f sp ∧ Passes CX X E) (hr : Room k X.A) (hN : X.N[i]? = some x) (hv : Vis X.env.scope x) (ha : PA X (e :: es) t)
    (hdb : (x == ("__debug__" : Str)) = false := by decide) (hcd : (x == ("__classdict__" : Str)) = false := by decide)
    (he : starEach (e :: es) X.env = (false, eval e X.env) :: starEach es X.env := by rfl) (hst : (backTo pos (starEach es X.env)).any (·.1) = true := by rfl) :
    PE X (.Call (.Name x p) (e :: es) [] pos) (fun σ H Q => ∃ f sp E, σ[i]? = some (some (.ref f)) ∧ S f = some (sp, E) ∧ t σ H fun vs H1 => sp vs H1 Q E) := by
  refine ⟨fun pins s σ H Q I h => ?_⟩
  obtain ⟨f, sp, E, hs, hS, ht⟩ := h
  obtain ⟨hk, F, hx⟩ := A f sp E hS
  refine wpAny_Call_Name_kw (thn ((pe_var (pos := p) hN hv hdb hcd).run pins s σ H (fun v H1 => v = .ref f ∧ H1 = H) I ⟨.ref f, hs, rfl, rfl⟩) fun u s1 ⟨v, H1, I1, r1, q1⟩ => ?_)
  obtain ⟨rfl, rfl⟩ := q1
  cases r1
  refine PySem.W.callWith_S2 (h₀ := X.base) I.ok.mod.kin hk (thn (ha.run pos pins s1 σ H1 _ I1 ht) fun us s2 ⟨vs, H2, I2, r, q⟩ => ⟨I2.kIn, ?_⟩) he hst
  exact wpAny_call (run_fnR F hr hx I2 r q)
end
end NH

namespace My
open PySem PySem.Spec PyProof.Rows L2
theorem strs_shapedX {ss : List Str} (h : ∀ s ∈ ss, PyData.strOk s = true) : SeqAt.shaped (.tuple (ss.map PyData.str)) = true := by
  have h1 : PyData.canLayAll0 (ss.map PyData.str) = true := by
    induction ss with
    | nil => simp [PyData.canLayAll0]
    | cons s r ih =>
      simp only [List.map_cons, PyData.canLayAll0, PyData.canLay0, Bool.and_eq_true]
      exact ⟨h s (List.mem_cons_self ..), ih fun x hx => h x (List.mem_cons_of_mem _ hx)⟩
  have h2 : PyData.depthAll (ss.map PyData.str) ≤ 1 := by
    clear h1 h
    induction ss with
    | nil => simp [PyData.depthAll]
    | cons s r ih =>
      simp only [List.map_cons, PyData.depthAll, PyData.depth]
      omega
  show ((PyData.tuple _).canLay0 && decide ((PyData.tuple _).depth ≤ 64)) = true
  rw [Bool.and_eq_true]
  refine ⟨by simp only [PyData.canLay0]; exact h1, decide_eq_true ?_⟩
  simp only [PyData.depth]
  omega
theorem strs_eqvAllX : ∀ A B : List Str, PyData.eqvAll (A.map PyData.str) (B.map PyData.str) = decide (A = B)
  | [], [] => by simp [PyData.eqvAll]
  | [], b :: B => by simp [PyData.eqvAll]
  | a :: A, [] => by simp [PyData.eqvAll]
  | a :: A, b :: B => by
    rw [List.map_cons, List.map_cons, PyData.eqvAll, strs_eqvAllX A B]
    simp [PyData.eqv]
    rw [Bool.eq_iff_iff]
    simp
theorem strs_eqvT (A B : List Str) : PyData.eqv (.tuple (A.map PyData.str)) (.tuple (B.map PyData.str)) = decide (A = B) := by
  rw [PyData.eqv, strs_eqvAllX]
theorem strs_dpX {α : Type} {K : PySem.W.Frag} {H : Hp} (f : α → Str) : ∀ xs : List α, DpAll K H (xs.map fun x => V.str (f x)) ((xs.map f).map PyData.str)
  | [] => .nil
  | x :: r => .cons (.str _) (strs_dpX f r)
theorem eqv_2ii (a b c d : Int) : PyData.eqv (.tuple [.int a, .int b]) (.tuple [.int c, .int d]) = decide (a = c ∧ b = d) := by
  simp [PyData.eqv, PyData.eqvAll]
  rw [Bool.eq_iff_iff]
  simp
theorem shaped_2ii (a b : Int) : SeqAt.shaped (.tuple [.int a, .int b]) = true := by
  show ((PyData.tuple _).canLay0 && decide ((PyData.tuple _).depth ≤ 64)) = true
  simp [PyData.canLay0, PyData.canLayAll0, PyData.depth, PyData.depthAll]
end My
namespace My
open PySem PySem.Spec PyProof.Rows L2
theorem strs_shapedXL {ss : List Str} (h : ∀ s ∈ ss, PyData.strOk s = true) : SeqAt.shaped (.list (ss.map PyData.str)) = true := by
  have h1 : PyData.canLayAll0 (ss.map PyData.str) = true := by
    induction ss with
    | nil => simp [PyData.canLayAll0]
    | cons s r ih =>
      simp only [List.map_cons, PyData.canLayAll0, PyData.canLay0, Bool.and_eq_true]
      exact ⟨h s (List.mem_cons_self ..), ih fun x hx => h x (List.mem_cons_of_mem _ hx)⟩
  have h2 : PyData.depthAll (ss.map PyData.str) ≤ 1 := by
    clear h1 h
    induction ss with
    | nil => simp [PyData.depthAll]
    | cons s r ih =>
      simp only [List.map_cons, PyData.depthAll, PyData.depth]
      omega
  show ((PyData.list _).canLay0 && decide ((PyData.list _).depth ≤ 64)) = true
  rw [Bool.and_eq_true]
  refine ⟨by simp only [PyData.canLay0]; exact h1, decide_eq_true ?_⟩
  simp only [PyData.depth]
  omega
theorem strs_eqvLX (A B : List Str) : PyData.eqv (.list (A.map PyData.str)) (.list (B.map PyData.str)) = decide (A = B) := by
  rw [PyData.eqv, strs_eqvAllX]
/-- texts whose parts are short and plain -/
theorem strs_plainX : ∀ {ss : List Str}, (∀ s ∈ ss, plainD (.str s) = true ∧ s.length ≤ 60) → plainDs (ss.map PyData.str) = true ∧ lenBs (ss.map PyData.str) ≤ 604 * ss.length ∧ PyData.depthAll (ss.map PyData.str) ≤ 1
  | [], _ => ⟨by simp [plainDs], by simp [lenBs], by simp [PyData.depthAll]⟩
  | s :: r, h => by
    obtain ⟨i1, i2, i3⟩ := strs_plainX (ss := r) fun x hx => h x (List.mem_cons_of_mem _ hx)
    obtain ⟨h1, h2⟩ := h s (List.mem_cons_self ..)
    refine ⟨?_, ?_, ?_⟩
    · simp only [List.map_cons, plainDs, h1, i1, Bool.and_self]
    · simp only [List.map_cons, lenBs, lenB, List.length_cons]
      omega
    · simp only [List.map_cons, PyData.depthAll, PyData.depth]
      omega
end My

namespace My
open PySem PySem.Spec PyProof.Rows L2
/-! ### certificates, and what holds -/
abbrev sZeroI : Stmt := top 13
abbrev sCertA : Stmt := top 76
abbrev sCertS : Stmt := top 77
abbrev sCertT : Stmt := top 78
abbrev sCertC : Stmt := top 79
abbrev sOneL : Stmt := top 82
abbrev sTwoL : Stmt := top 83
abbrev sLCol : Stmt := top 84
abbrev sLadOf : Stmt := top 85
abbrev sShA : Stmt := top 86
abbrev sShU : Stmt := top 87
abbrev sShS : Stmt := top 88
abbrev sShD : Stmt := top 89
abbrev sShT : Stmt := top 90
abbrev sShH : Stmt := top 91
abbrev sShP : Stmt := top 92
abbrev sShI : Stmt := top 93
abbrev sZeros : Stmt := top 94
abbrev sHolds : Stmt := top 96
theorem scZeroI : FnScope ["value"] ["value"] (defScope sZeroI) := ⟨rfl, rfl, rfl, by decide +kernel, rfl, by decide +kernel, by decide +kernel⟩
theorem scCertA : FnScope ["ladder", "other", "number"] ["ladder", "other"] (defScope sCertA) := ⟨rfl, rfl, rfl, by decide +kernel, rfl, by decide +kernel, by decide +kernel⟩
theorem scCertS : FnScope ["ladder", "number"] ["ladder"] (defScope sCertS) := ⟨rfl, rfl, rfl, by decide +kernel, rfl, by decide +kernel, by decide +kernel⟩
theorem scCertT : FnScope ["ladder", "other", "numbers"] ["ladder", "other"] (defScope sCertT) := ⟨rfl, rfl, rfl, by decide +kernel, rfl, by decide +kernel, by decide +kernel⟩
theorem scCertC : FnScope ["ladder", "texts", "total", "numbers"] ["ladder", "texts", "total"] (defScope sCertC) := ⟨rfl, rfl, rfl, by decide +kernel, rfl, by decide +kernel, by decide +kernel⟩
theorem scOneL : FnScope ["told"] ["told"] (defScope sOneL) := ⟨rfl, rfl, rfl, by decide +kernel, rfl, by decide +kernel, by decide +kernel⟩
theorem scTwoL : FnScope ["told", "other_told"] ["told", "other_told"] (defScope sTwoL) := ⟨rfl, rfl, rfl, by decide +kernel, rfl, by decide +kernel, by decide +kernel⟩
theorem scLCol : FnScope ["told", "texts", "total", "ladder"] ["told", "texts", "total"] (defScope sLCol) := ⟨rfl, rfl, rfl, by decide +kernel, rfl, by decide +kernel, by decide +kernel⟩
theorem scLadOf : FnScope ["told", "units", "decimals", "rounding", "carry", "least"] ["told"] (defScope sLadOf) := ⟨rfl, rfl, rfl, by decide +kernel, rfl, by decide +kernel, by decide +kernel⟩
theorem scShA : FnScope ["paper", "ladder", "other"] ["paper", "ladder", "other"] (defScope sShA) := ⟨rfl, rfl, rfl, by decide +kernel, rfl, by decide +kernel, by decide +kernel⟩
theorem scShU : FnScope ["paper", "ladder", "other"] ["paper", "ladder", "other"] (defScope sShU) := ⟨rfl, rfl, rfl, by decide +kernel, rfl, by decide +kernel, by decide +kernel⟩
theorem scShS : FnScope ["paper", "ladder"] ["paper", "ladder"] (defScope sShS) := ⟨rfl, rfl, rfl, by decide +kernel, rfl, by decide +kernel, by decide +kernel⟩
theorem scShD : FnScope ["paper", "ladder", "place", "mark"] ["paper", "ladder"] (defScope sShD) := ⟨rfl, rfl, rfl, by decide +kernel, rfl, by decide +kernel, by decide +kernel⟩
theorem scShT : FnScope ["paper", "ladder", "other"] ["paper", "ladder", "other"] (defScope sShT) := ⟨rfl, rfl, rfl, by decide +kernel, rfl, by decide +kernel, by decide +kernel⟩
theorem scShH : FnScope ["paper", "ladder", "other", "one", "two"] ["paper", "ladder", "other"] (defScope sShH) := ⟨rfl, rfl, rfl, by decide +kernel, rfl, by decide +kernel, by decide +kernel⟩
theorem scShP : FnScope ["paper", "ladder", "texts", "total", "shown", "number"] ["paper", "ladder", "texts", "total"] (defScope sShP) := ⟨rfl, rfl, rfl, by decide +kernel, rfl, by decide +kernel, by decide +kernel⟩
theorem scShI : FnScope ["paper", "ladder", "texts", "total"] ["paper", "ladder", "texts", "total"] (defScope sShI) := ⟨rfl, rfl, rfl, by decide +kernel, rfl, by decide +kernel, by decide +kernel⟩
theorem scZeros : FnScope ["paper", "many", "number"] ["paper", "many"] (defScope sZeros) := ⟨rfl, rfl, rfl, by decide +kernel, rfl, by decide +kernel, by decide +kernel⟩
theorem scHolds : FnScope ["claim", "paper", "word", "about", "many", "read", "shows", "things"] ["claim", "paper"] (defScope sHolds) := ⟨rfl, rfl, rfl, by decide +kernel, rfl, by decide +kernel, by decide +kernel⟩
/-- a paper: a number, or a tuple of numbers -/
inductive Pap where
  | num (n : Int)
  | tup (ns : List Int)
def Pap.At (K : PySem.W.Frag) (H : Hp) (v : V) : Pap → Prop
  | .num n => v = .int n
  | .tup ns => ∃ p, v = .ref p ∧ SqT K H p (ns.map V.int) ∧ ns.length ≤ 1000
theorem Pap.At.same {K : PySem.W.Frag} {H H' : Hp} {v : V} {o : Pap} (k : Same H H') (h : o.At K H v) : o.At K H' v := by
  cases o with
  | num n => exact h
  | tup ns =>
    obtain ⟨p, e, hp, l⟩ := h
    exact ⟨p, e, same_sqt k hp, l⟩
def Pap.isI : Pap → Bool
  | .num _ => true
  | .tup _ => false
def Pap.z : Pap → Bool
  | .num n => decide (0 ≤ n)
  | .tup _ => false
def Pap.zs (m : Int) : Pap → Bool
  | .num _ => false
  | .tup ns => decide ((ns.length : Int) = m) && ns.all fun n => decide (0 ≤ n)
def Pap.ok : Pap → Prop
  | .num n => n ≤ 1000000000000000000000000000000
  | .tup ns => (∀ n ∈ ns, n ≤ 1000000000000000000000000000000) ∧ ns.sum ≤ 1000000000000000000000000000000
abbrev Lad.placed (A : Lad) (n : Int) : Nat × Int := placedM A.us A.d A.s A.c A.l n
/-! claims -/
def Cl1 (K : PySem.W.Frag) (H : Hp) (q : Addr) (w : Str) (A : Lad) : Prop := ∃ ta, SqT K H q [.str w, .ref ta] ∧ A.Told K H ta
def Cl2 (K : PySem.W.Frag) (H : Hp) (q : Addr) (w : Str) (A B : Lad) : Prop := ∃ ta tb, SqT K H q [.str w, .ref ta, .ref tb] ∧ A.Told K H ta ∧ B.Told K H tb
def Cl4 (K : PySem.W.Frag) (H : Hp) (q : Addr) (w : Str) (A : Lad) (ks : List FKey) (k : FKey) : Prop := ∃ ta t, SqT K H q [.str w, .ref ta, .ref t, .str (textK A.us A.d k)] ∧ A.Told K H ta ∧ SqT K H t (ks.map fun k => V.str (textK A.us A.d k))
def papO : Option Int → Pap
  | none => .tup []
  | some n => .num n
def papT : Option Int → Pap
  | none => .tup []
  | some n => .tup [n - 1, n]
def spZeroI (K : PySem.W.Frag) : Sp := fun vs H Q _ => ∃ (v : V) (o : Pap), vs = [v] ∧ o.At K H v ∧ Q (.bl o.isI) H
def spZero (K : PySem.W.Frag) : Sp := fun vs H Q _ => ∃ (v : V) (o : Pap), vs = [v] ∧ o.At K H v ∧ Q (.bl o.z) H
def spZeros (K : PySem.W.Frag) : Sp := fun vs H Q _ => ∃ (v : V) (m : Int) (o : Pap), vs = [v, .int m] ∧ o.At K H v ∧ ∀ H', Same H H' → Q (.bl (o.zs m)) H'
def spLadOf (K : PySem.W.Frag) (C : Addr) : Sp := fun vs H Q _ => ∃ (r : Addr) (A : Lad), vs = [.ref r] ∧ A.Told K H r ∧ A.Ok ∧ ∀ (p : Addr) (H' : Hp), Same H H' → A.At K C H' p → Q (.ref p) H'
def spOneL (K : PySem.W.Frag) (C : Addr) : Sp := fun vs H Q _ => ∃ (r : Addr) (A : Lad), vs = [.ref r] ∧ A.Told K H r ∧ A.Ok ∧ ∀ (t p : Addr) (H' : Hp), Same H H' → A.At K C H' p → SqT K H' t [.ref p] → Q (.ref t) H'
def spTwoL (K : PySem.W.Frag) (C : Addr) : Sp := fun vs H Q _ => ∃ (r r' : Addr) (A A' : Lad), vs = [.ref r, .ref r'] ∧ A.Told K H r ∧ A.Ok ∧ A'.Told K H r' ∧ A'.Ok ∧ ∀ (t p p' : Addr) (H' : Hp), Same H H' → A.At K C H' p → A'.At K C H' p' → SqT K H' t [.ref p, .ref p'] → Q (.ref t) H'
def spLCol (K : PySem.W.Frag) (C : Addr) : Sp := fun vs H Q _ => ∃ (r x : Addr) (A : Lad) (ks : List FKey) (k : FKey), vs = [.ref r, .ref x, .str (textK A.us A.d k)] ∧ A.Told K H r ∧ A.Ok ∧ SqT K H x (ks.map fun k => V.str (textK A.us A.d k)) ∧ ks.length ≤ 12 ∧ (∀ k ∈ ks, KeyOk A.us k) ∧ KeyOk A.us k ∧
  ∀ (t p : Addr) (H' : Hp), Same H H' → A.At K C H' p → SqT K H' t [.ref p, .ref x, .str (textK A.us A.d k)] → Q (.ref t) H'
/-- what a paper has to do, of two ladders, of one -/
def spSh2 (K : PySem.W.Frag) (C : Addr) (val : Lad → Lad → Pap → Bool → Prop) : Sp := fun vs H Q _ => ∃ (v : V) (a b : Addr) (A B : Lad) (o : Pap), vs = [v, .ref a, .ref b] ∧ o.At K H v ∧ o.ok ∧ A.At K C H a ∧ B.At K C H b ∧ A.Ok ∧ B.Ok ∧ ∀ (x : Bool) (H' : Hp), Same H H' → val A B o x → Q (.bl x) H'
def spSh1 (K : PySem.W.Frag) (C : Addr) (val : Lad → Pap → Bool → Prop) : Sp := fun vs H Q _ => ∃ (v : V) (a : Addr) (A : Lad) (o : Pap), vs = [v, .ref a] ∧ o.At K H v ∧ o.ok ∧ A.At K C H a ∧ A.Ok ∧ ∀ (x : Bool) (H' : Hp), Same H H' → val A o x → Q (.bl x) H'
def spSh4 (K : PySem.W.Frag) (C : Addr) (val : Lad → List FKey → FKey → Pap → Bool → Prop) : Sp := fun vs H Q _ => ∃ (v : V) (a t : Addr) (A : Lad) (ks : List FKey) (k : FKey) (o : Pap), vs = [v, .ref a, .ref t, .str (textK A.us A.d k)] ∧ o.At K H v ∧ o.ok ∧ A.At K C H a ∧ A.Ok ∧ SqT K H t (ks.map fun k => V.str (textK A.us A.d k)) ∧ ks.length ≤ 12 ∧ (∀ k ∈ ks, KeyOk A.us k) ∧ KeyOk A.us k ∧
  ∀ (x : Bool) (H' : Hp), Same H H' → val A ks k o x → Q (.bl x) H'
def valA (A B : Lad) (o : Pap) (x : Bool) : Prop := (o.zs 0 = false ∧ x = false) ∨ (o.zs 0 = true ∧ ∃ r, Unlike A B r ∧ x = r.isNone)
def valT (A B : Lad) (o : Pap) (x : Bool) : Prop := (o.zs 0 = false ∧ x = false) ∨ (o.zs 0 = true ∧ ∃ r, Untold A B r ∧ x = r.isNone)
def valS (A : Lad) (o : Pap) (x : Bool) : Prop := (o.zs 0 = false ∧ x = false) ∨ (o.zs 0 = true ∧ ∃ r, FirstDrift A.us A.d A.s A.c A.l r ∧ x = r.isNone)
def valU (A B : Lad) (o : Pap) (x : Bool) : Prop := (o.z = false ∧ x = false) ∨ ∃ n, o = .num n ∧ 0 ≤ n ∧ x = !decide (V.str (A.show n) = V.str (B.show n))
def valD (A : Lad) (o : Pap) (x : Bool) : Prop := (o.z = false ∧ x = false) ∨ ∃ n, o = .num n ∧ 0 ≤ n ∧ x = !decide ((((A.placed ((A.placed n).2 * (stepsOf A.us A.d).getD (A.placed n).1 0)).1 : Nat) : Int) = ((A.placed n).1 : Int) ∧ (A.placed ((A.placed n).2 * (stepsOf A.us A.d).getD (A.placed n).1 0)).2 = (A.placed n).2)
def valH (A B : Lad) (o : Pap) (x : Bool) : Prop := (o.zs 2 = false ∧ x = false) ∨ ∃ m n, o = .tup [m, n] ∧ 0 ≤ m ∧ 0 ≤ n ∧ x = (decide (V.str (A.show m) = V.str (A.show n)) && !decide (V.str (B.show m) = V.str (B.show n)))
def valP (A : Lad) (ks : List FKey) (k : FKey) (o : Pap) (x : Bool) : Prop := (o.zs ks.length = false ∧ x = false) ∨ ∃ ns, o = .tup ns ∧ ns.length = ks.length ∧ (∀ n ∈ ns, 0 ≤ n) ∧
  x = (decide (ns.map A.show = ks.map (textK A.us A.d)) && decide (V.str (A.show ns.sum) = V.str (textK A.us A.d k)))
def valI (A : Lad) (ks : List FKey) (k : FKey) (o : Pap) (x : Bool) : Prop := (o.zs 0 = false ∧ x = false) ∨ (o.zs 0 = true ∧ (x = true ↔ ¬ ColOk A.us A.d A.s A.c A.l ks (some k)))
def spCertA (K : PySem.W.Frag) (C : Addr) : Sp := fun vs H Q _ => ∃ (a b : Addr) (A B : Lad), vs = [.ref a, .ref b] ∧ A.At K C H a ∧ B.At K C H b ∧ A.Ok ∧ B.Ok ∧
  ∀ (r : Option Int) (p q : Addr) (v : V) (H' : Hp), Same H H' → Unlike A B r → SqT K H' p [.ref q, v] → Cl2 K H' q (if r.isNone then "alike" else "unlike") A B → (papO r).At K H' v → Q (.ref p) H'
def spCertT (K : PySem.W.Frag) (C : Addr) : Sp := fun vs H Q _ => ∃ (a b : Addr) (A B : Lad), vs = [.ref a, .ref b] ∧ A.At K C H a ∧ B.At K C H b ∧ A.Ok ∧ B.Ok ∧
  ∀ (r : Option Int) (p q : Addr) (v : V) (H' : Hp), Same H H' → Untold A B r → SqT K H' p [.ref q, v] → Cl2 K H' q (if r.isNone then "tells" else "hides") A B → (papT r).At K H' v → Q (.ref p) H'
def spCertS (K : PySem.W.Frag) (C : Addr) : Sp := fun vs H Q _ => ∃ (a : Addr) (A : Lad), vs = [.ref a] ∧ A.At K C H a ∧ A.Ok ∧
  ∀ (r : Option Int) (p q : Addr) (v : V) (H' : Hp), Same H H' → FirstDrift A.us A.d A.s A.c A.l r → SqT K H' p [.ref q, v] → Cl1 K H' q (if r.isNone then "steady" else "drifts") A → (papO r).At K H' v → Q (.ref p) H'
def spCertC (K : PySem.W.Frag) (C : Addr) : Sp := fun vs H Q _ => ∃ (a t : Addr) (A : Lad) (ks : List FKey) (k : FKey), vs = [.ref a, .ref t, .str (textK A.us A.d k)] ∧ A.At K C H a ∧ A.Ok ∧ SqT K H t (ks.map fun k => V.str (textK A.us A.d k)) ∧ ks.length ≤ 12 ∧ (∀ k ∈ ks, KeyOk A.us k) ∧ KeyOk A.us k ∧
  (∀ (p q : Addr) (v : V) (H' : Hp), Same H H' → ¬ ColOk A.us A.d A.s A.c A.l ks (some k) → SqT K H' p [.ref q, v] → Cl4 K H' q "impossible" A ks k → (Pap.tup []).At K H' v → Q (.ref p) H') ∧
  ∀ (p q : Addr) (v : V) (H' : Hp), Same H H' → ColOk A.us A.d A.s A.c A.l ks (some k) → SqT K H' p [.ref q, v] → Cl4 K H' q "possible" A ks k → (Pap.tup (numsK A.us A.d A.s A.c A.l ks k)).At K H' v → Q (.ref p) H'
section
variable {P : Program} {w : World} {K : PySem.W.Frag} {mg : Str → Option Value} {base : Heap}
theorem sum_nnX : ∀ {ns : List Int}, (∀ n ∈ ns, 0 ≤ n) → 0 ≤ ns.sum
  | [], _ => Int.le_refl 0
  | n :: r, h => by
    have h1 := h n (List.mem_cons_self ..)
    have h2 := sum_nnX (ns := r) fun x hx => h x (List.mem_cons_of_mem _ hx)
    rw [List.sum_cons]
    omega
theorem ok_zeroI (d : Dd K mg "is_integer" sInteger ["value"]) (B : Bt mg) : FnOk P w K mg base CX0 1 d.f d.fd ["value"] (spZeroI K) := by
  refine d.F.ok scInteger (fun vs H Q E h => ?_) (fun cdv A outer s H vs Q E hr h => ?_)
  · obtain ⟨_, _, rfl, _⟩ := h
    rfl
  · obtain ⟨v, o, rfl, ho, q⟩ := h
    refine ⟨_, pss_one (ps_ret (pe_and (pe_callB call_isi (by rfl) B.isinstance (by decide +kernel) (pa_cons (pv 0) (pa_cons (pe_bltn (v := .ty "int") (by rfl) B.int (by decide +kernel) rfl) pa_nil)))
      (pe_one (pe_not (pe_callB call_isi (by rfl) B.isinstance (by decide +kernel) (pa_cons (pv 0) (pa_cons (pe_bltn (v := .ty "bool") (by rfl) B.bool (by decide +kernel) rfl) pa_nil))))))), ?_⟩
    cases o with
    | num n =>
      cases ho
      refine ⟨_, rfl, _, _, _, _, true, rfl, .ty "int", .base (.int n), kit_ty (by decide +kernel), _, rfl, iteT ?_⟩
      exact ⟨_, rfl, _, _, _, _, false, rfl, .ty "bool", .base (.int n), kit_ty (by decide +kernel), _, rfl, q⟩
    | tup ns =>
      obtain ⟨p, rfl, hp, _⟩ := ho
      exact ⟨_, rfl, _, _, _, _, false, rfl, .ty "int", tyx_tup hp, kit_ty (by decide +kernel), _, rfl, iteF q⟩
theorem ok_zero (d : Dd K mg "is_from_zero" sZeroI ["value"]) (dI : Dd K mg "is_integer" sInteger ["value"]) (B : Bt mg) : FnOk P w K mg base CX0 2 d.f d.fd ["value"] (spZero K) := by
  have GI : FnOk P w K mg base CX0 1 dI.f dI.fd ["value"] (spZeroI K) := ok_zeroI dI B
  refine d.F.ok scZeroI (fun vs H Q E h => ?_) (fun cdv A outer s H vs Q E hr h => ?_)
  · obtain ⟨_, _, rfl, _⟩ := h
    rfl
  · obtain ⟨v, o, rfl, ho, q⟩ := h
    refine ⟨_, (pss_one (ps_ret (pe_and (pe_call GI hr (by rfl) dI.g dI.F.kp dI.b .nil pass0 (pa_cons (pv 0) pa_nil)) (pe_one (pe_cmpR op_ge (pv 0) pe_int (nomark _)))))), ?_⟩
    refine ⟨_, rfl, _, o, rfl, ho, _, rfl, ?_⟩
    cases o with
    | num n =>
      cases ho
      exact iteT ⟨_, rfl, _, _, rfl, rfl, q⟩
    | tup ns => exact iteF q
theorem ok_zeros (d : Dd K mg "are_from_zero" sZeros ["paper", "many"]) (dZ : Dd K mg "is_from_zero" sZeroI ["value"]) (B : Bt mg) (GZ : FnOk P w K mg base CX0 2 dZ.f dZ.fd ["value"] (spZero K)) : FnOk P w K mg base CX0 3 d.f d.fd ["paper", "many"] (spZeros K) := by
  refine d.F.ok scZeros (fun vs H Q E h => ?_) (fun cdv A outer s H vs Q E hr h => ?_)
  · obtain ⟨_, _, _, rfl, _⟩ := h
    rfl
  · obtain ⟨v, m, o, rfl, ho, q⟩ := h
    have nd := scZeros.nd
    refine ⟨_, (pss_one (ps_ret (pe_and (pe_callB call_isi (by rfl) B.isinstance (by decide +kernel) (pa_cons (pv 0) (pa_cons (pe_bltn (v := .ty "tuple") (by rfl) B.tuple (by decide +kernel) rfl) pa_nil))) (pe_and (pe_cmpR op_eq (pe_callB call_len_seq (by rfl) B.len PySem.boot_len (pa_cons (pv 0) pa_nil)) (pv 1) (nomark _)) (pe_one (pe_callB (cr_all rfl) (by rfl) B.all (by decide +kernel) (pa_cons (pe_lc (own := [("number", 2)]) (g := gName 2) (tt := tYes) rfl nd (pi_tup (pv 0)) (blkOk_by (own := [("number", 2)]) (N := ["paper", "many", "number"]) (sc := defScope sZeros) (by decide +kernel)) (fun _ _ _ _ _ => pg_name (i := 2) nd rfl (Or.inl rfl)) (fun _ _ _ _ _ => pts_nil) (fun _ _ _ _ _ => (pe_call GZ hr (by rfl) dZ.g dZ.F.kp dZ.b .nil pass0 (pa_cons (pv 2) pa_nil)))) pa_nil))))))), ?_⟩
    cases o with
    | num n =>
      cases ho
      exact ⟨_, rfl, _, _, _, _, false, rfl, .ty "tuple", .base (.int n), kit_ty (by decide +kernel), _, rfl, iteF (q H (Same.refl _))⟩
    | tup ns =>
      obtain ⟨p, rfl, hp, hl⟩ := ho
      refine ⟨_, rfl, _, _, _, _, true, rfl, .ty "tuple", tyx_tup hp, kit_ty (by decide +kernel), _, rfl, iteT ?_⟩
      have el : (ns.map V.int).length = ns.length := List.length_map ..
      refine ⟨_, rfl, p, _, rfl, .inr hp, _, rfl, rfl, _, rfl, ite2 (fun e => ?_) (fun e => ?_)⟩
      · have e' : (ns.length : Int) = m := by
          have z := of_decide_eq_true e
          rw [el] at z
          exact V.int.inj z
        refine ⟨_, rfl, p, rfl, ⟨_, hp⟩, fun D nD => ?_⟩
        refine lc_tup (K := K) (a := p) (xs := ns.map V.int) (fun i H' => Same H H' ∧ H' D = some (.lst (((ns.take i).map fun n => decide (0 ≤ n)).map V.bl))) ⟨same_upd nD, upd_same⟩ (fun i H' _ h => same_sqt h.1 hp) ?_ ?_
        · rintro i x H2 hi ⟨sm, hD⟩
          rw [List.getElem?_map] at hi
          cases hy : ns[i]? with
          | none => rw [hy] at hi; cases hi
          | some y =>
            rw [hy] at hi
            cases hi
            have hil := (List.getElem?_eq_some_iff.mp hy).1
            refine ⟨rfl, _, rfl, _, .num y, rfl, rfl, _, hD, ?_, fun b o e => ?_, ?_⟩
            · rw [List.length_map, List.length_map, List.length_take]
              exact Nat.lt_of_le_of_lt (Nat.min_le_left _ _) (Nat.lt_of_lt_of_le (show i < 1001 by omega) (by decide))
            · rw [upd_ne (ne_of_none e nD)]
              exact sm _ _ e
            · rw [upd_same, List.take_add_one, hy]
              show _ = some (HO.lst ((((ns.take i) ++ [y]).map fun n => decide (0 ≤ n)).map V.bl))
              rw [List.map_append, List.map_append]
              rfl
        · rintro H2 ⟨sm, hD⟩
          rw [List.length_map, List.take_of_length_le (Nat.le_refl _)] at hD
          refine ⟨D, _, rfl, SqL.of hD, ?_⟩
          have ev : ((ns.map fun n => decide (0 ≤ n)).all id) = (Pap.tup ns).zs m := by
            show _ = (decide ((ns.length : Int) = m) && ns.all fun n => decide (0 ≤ n))
            rw [decide_eq_true e', Bool.true_and, List.all_map]
            rfl
          have q' := q H2 sm
          rw [← ev] at q'
          exact q'
      · have e' : ¬ (ns.length : Int) = m := fun z => e (decide_eq_true (by rw [el, z]))
        have ev : (Pap.tup ns).zs m = false := by
          show (decide ((ns.length : Int) = m) && ns.all fun n => decide (0 ≤ n)) = false
          rw [decide_eq_false e', Bool.false_and]
        have q' := q H (Same.refl _)
        rw [ev] at q'
        exact q'
theorem ok_ladof (d : Dd K mg "ladder_of" sLadOf ["told"]) (L : LadC K mg) (B : Bt mg) (gT : ∃ t, mg "MOST_TOLD" = some (.int 5 t))
    (GI : FnOk P w K mg base CX0 5 L.f L.fd ["self", "units", "decimals", "rounding", "carry", "least"] (spLInit K L.C)) : FnOk P w K mg base CX0 7 d.f d.fd ["told"] (spLadOf K L.C) := by
  obtain ⟨t1, gT⟩ := gT
  refine d.F.ok scLadOf (fun vs H Q E h => ?_) (fun cdv A outer s H vs Q E hr h => ?_)
  · obtain ⟨_, _, rfl, _⟩ := h
    rfl
  · obtain ⟨r, A, rfl, ⟨ua, hr0, hU⟩, g, q⟩ := h
    have nd := scLadOf.nd
    refine ⟨_, (pss_cons (ps_if (PW.pt (pw_or (pt_not (pt_val (pe_callB call_isi (by rfl) B.isinstance (by decide +kernel) (pa_cons (pv 0) (pa_cons (pe_bltn (v := .ty "tuple") (by rfl) B.tuple (by decide +kernel) rfl) pa_nil))))) (pw_or1 (pt_cmpR op_ne (pe_callB call_len_seq (by rfl) B.len PySem.boot_len (pa_cons (pv 0) pa_nil)) (pe_glob (v := .int 5) (by rfl) gT ⟨_, rfl⟩) (nomark _))))) (pss_one ps_never) pss_nil)
  (pss_cons (ps_asg (pv 0) (pg_tup rfl (pgs_cons (pg_name (i := 1) nd rfl (Or.inl rfl)) (pgs_cons (pg_name (i := 2) nd rfl (Or.inl rfl)) (pgs_cons (pg_name (i := 3) nd rfl (Or.inl rfl)) (pgs_cons (pg_name (i := 4) nd rfl (Or.inl rfl)) (pgs_cons (pg_name (i := 5) nd rfl (Or.inl rfl)) pgs_nil)))))))
  (pss_one (ps_ret (pe_makeK L.M GI hr (by rfl) L.g (kb_linit L) pass0 (pa_cons (pv 1) (pa_cons (pv 2) (pa_cons (pv 3) pa_nil))) (pk_cons (pv 4) (pk_cons (pv 5) pk_nil))))))), ?_⟩
    refine ⟨_, rfl, _, _, _, _, true, rfl, .ty "tuple", tyx_tup hr0, kit_ty (by decide +kernel), _, rfl, iteF ?_⟩
    refine ⟨_, rfl, r, _, rfl, .inr hr0, rfl, _, rfl, iteNS rfl ?_⟩
    refine ⟨_, rfl, r, _, rfl, hr0, rfl, _, _, rfl, _, _, rfl, _, _, rfl, _, _, rfl, _, _, rfl, rfl, ?_⟩
    refine ⟨_, rfl, _, rfl, _, rfl, _, rfl, _, rfl, rfl, rfl, fun x dx nx ndx nex => ?_⟩
    have hx : (upd (upd H dx (.own x)) x (.ins L.C dx [])) x = some (.ins L.C dx []) := upd_same
    have s0 : Same H (upd (upd H dx (.own x)) x (.ins L.C dx [])) := fun b o e => by
      rw [upd_ne (ne_of_none e nx), upd_ne (ne_of_none e ndx)]
      exact e
    refine ⟨x, dx, ua, A.us, A.d, A.s, A.c, A.l, rfl, hx, hU.same s0, g, fun H' t st th b1 h1 h2 h3 h4 => ⟨rfl, ?_⟩⟩
    have s1 : Same H H' := fun b o e => b1 b o (s0 b o e) (ne_of_none e nx)
    exact q x H' s1 ⟨dx, ua, t, st, th, h1, hU.same s1, h2, h3, h4⟩
theorem ok_onel {C : Addr} (d : Dd K mg "one_ladder" sOneL ["told"]) (dL : Dd K mg "ladder_of" sLadOf ["told"]) (GL : FnOk P w K mg base CX0 7 dL.f dL.fd ["told"] (spLadOf K C)) : FnOk P w K mg base CX0 8 d.f d.fd ["told"] (spOneL K C) := by
  refine d.F.ok scOneL (fun vs H Q E h => ?_) (fun cdv A outer s H vs Q E hr h => ?_)
  · obtain ⟨_, _, rfl, _⟩ := h
    rfl
  · obtain ⟨r, A, rfl, hT, g, q⟩ := h
    refine ⟨_, (pss_one (ps_ret (pe_tup (pa_cons (pe_call GL hr (by rfl) dL.g dL.F.kp dL.b .nil pass0 (pa_cons (pv 0) pa_nil)) pa_nil)))), ?_⟩
    refine ⟨_, rfl, r, A, rfl, hT, g, fun p H1 s1 hp => ⟨by show 1 ≤ sizeLine; decide, fun t nt => ?_⟩⟩
    have st := same_upd nt (o := .tup [.ref p])
    exact q t p _ (s1.trans st) (LadAt.same st hp) (SqT.of upd_same)
theorem ok_twol {C : Addr} (d : Dd K mg "two_ladders" sTwoL ["told", "other_told"]) (dL : Dd K mg "ladder_of" sLadOf ["told"]) (GL : FnOk P w K mg base CX0 7 dL.f dL.fd ["told"] (spLadOf K C)) : FnOk P w K mg base CX0 8 d.f d.fd ["told", "other_told"] (spTwoL K C) := by
  refine d.F.ok scTwoL (fun vs H Q E h => ?_) (fun cdv A outer s H vs Q E hr h => ?_)
  · obtain ⟨_, _, _, _, rfl, _⟩ := h
    rfl
  · obtain ⟨r, r', A, A', rfl, hT, g, hT', g', q⟩ := h
    refine ⟨_, (pss_one (ps_ret (pe_tup (pa_cons (pe_call GL hr (by rfl) dL.g dL.F.kp dL.b .nil pass0 (pa_cons (pv 0) pa_nil)) (pa_cons (pe_call GL hr (by rfl) dL.g dL.F.kp dL.b .nil pass0 (pa_cons (pv 1) pa_nil)) pa_nil))))), ?_⟩
    refine ⟨_, rfl, r, A, rfl, hT, g, fun p H1 s1 hp => ⟨_, rfl, r', A', rfl, ToldAt.same s1 hT', g', fun p' H2 s2 hp' => ⟨by show 2 ≤ sizeLine; decide, fun t nt => ?_⟩⟩⟩
    have st := same_upd nt (o := .tup [.ref p, .ref p'])
    exact q t p p' _ ((s1.trans s2).trans st) (LadAt.same (s2.trans st) hp) (LadAt.same st hp') (SqT.of upd_same)
theorem ok_lcol {C : Addr} (d : Dd K mg "ladder_and_column" sLCol ["told", "texts", "total"]) (dL : Dd K mg "ladder_of" sLadOf ["told"]) (dC : Dd K mg "check_column" sCheckC ["ladder", "texts", "total"]) (GL : FnOk P w K mg base CX0 7 dL.f dL.fd ["told"] (spLadOf K C))
    (GC : FnOk P w K mg base CX0 5 dC.f dC.fd ["ladder", "texts", "total"] (spCheckC K C)) : FnOk P w K mg base CX0 8 d.f d.fd ["told", "texts", "total"] (spLCol K C) := by
  refine d.F.ok scLCol (fun vs H Q E h => ?_) (fun cdv A outer s H vs Q E hr h => ?_)
  · obtain ⟨_, _, _, _, _, rfl, _⟩ := h
    rfl
  · obtain ⟨r, x, A, ks, k, rfl, hT, g, hx, hlen, hk, hkk, q⟩ := h
    have nd := scLCol.nd
    have hr6 : Room 5 _ := hr.mono (by decide)
    refine ⟨_, (pss_cons (ps_set (i := 3) nd rfl (.inl rfl) (pe_call GL hr (by rfl) dL.g dL.F.kp dL.b .nil pass0 (pa_cons (pv 0) pa_nil)))
  (pss_cons (ps_expr (pe_call GC hr6 (by rfl) dC.g dC.F.kp dC.b .nil pass0 (pa_cons (pv 3) (pa_cons (pv 1) (pa_cons (pv 2) pa_nil)))))
  (pss_one (ps_ret (pe_tup (pa_cons (pv 3) (pa_cons (pv 1) (pa_cons (pv 2) pa_nil)))))))), ?_⟩
    refine ⟨_, rfl, r, A, rfl, hT, g, fun p H1 s1 hp => ?_⟩
    refine ⟨_, rfl, _, rfl, _, rfl, p, x, A.us, A.d, A.s, A.c, A.l, ks, k, rfl, hp, g, same_sqt s1 hx, hlen, hk, hkk, fun H2 s2 => ?_⟩
    refine ⟨_, rfl, _, rfl, _, rfl, by show 3 ≤ sizeLine; decide, fun t nt => ?_⟩
    have st := same_upd nt (o := .tup [.ref p, .ref x, .str (textK A.us A.d k)])
    exact q t p _ ((s1.trans s2).trans st) (LadAt.same (s2.trans st) hp) (SqT.of upd_same)
theorem ok_sha {C : Addr} (d : Dd K mg "shows_alike" sShA ["paper", "ladder", "other"]) (dZ : Dd K mg "are_from_zero" sZeros ["paper", "many"]) (dA : Dd K mg "are_alike" sAlike ["ladder", "other"]) (GZ : FnOk P w K mg base CX0 3 dZ.f dZ.fd ["paper", "many"] (spZeros K))
    (GA : FnOk P w K mg base CX0 8 dA.f dA.fd ["ladder", "other"] (spAlike K C)) : FnOk P w K mg base CX0 9 d.f d.fd ["paper", "ladder", "other"] (spSh2 K C valA) := by
  refine d.F.ok scShA (fun vs H Q E h => ?_) (fun cdv A outer s H vs Q E hr h => ?_)
  · obtain ⟨_, _, _, _, _, _, rfl, _⟩ := h
    rfl
  · obtain ⟨v, a, b, A, B', o, rfl, ho, ok, hA, hB, gA, gB, q⟩ := h
    have hr4 : Room 3 _ := hr.mono (by decide)
    refine ⟨_, (pss_one (ps_ret (pe_and (pe_call GZ hr4 (by rfl) dZ.g dZ.F.kp dZ.b .nil pass0 (pa_cons (pv 0) (pa_cons pe_int pa_nil))) (pe_one (pe_call GA hr (by rfl) dA.g dA.F.kp dA.b .nil pass0 (pa_cons (pv 1) (pa_cons (pv 2) pa_nil))))))), ?_⟩
    refine ⟨_, rfl, v, 0, o, rfl, ho, fun H1 s1 => ⟨_, rfl, ?_⟩⟩
    cases e : o.zs 0 with
    | false => exact iteF (q false H1 s1 (.inl ⟨e, rfl⟩))
    | true => exact iteT ⟨_, rfl, _, rfl, a, b, A, B', rfl, LadAt.same s1 hA, LadAt.same s1 hB, gA, gB, fun r H2 s2 hu => q _ H2 (s1.trans s2) (.inr ⟨e, r, hu, rfl⟩)⟩
theorem ok_sht {C : Addr} (d : Dd K mg "shows_telling" sShT ["paper", "ladder", "other"]) (dZ : Dd K mg "are_from_zero" sZeros ["paper", "many"]) (dA : Dd K mg "tells" sTells ["ladder", "other"]) (GZ : FnOk P w K mg base CX0 3 dZ.f dZ.fd ["paper", "many"] (spZeros K))
    (GA : FnOk P w K mg base CX0 8 dA.f dA.fd ["ladder", "other"] (spTells K C)) : FnOk P w K mg base CX0 9 d.f d.fd ["paper", "ladder", "other"] (spSh2 K C valT) := by
  refine d.F.ok scShT (fun vs H Q E h => ?_) (fun cdv A outer s H vs Q E hr h => ?_)
  · obtain ⟨_, _, _, _, _, _, rfl, _⟩ := h
    rfl
  · obtain ⟨v, a, b, A, B', o, rfl, ho, ok, hA, hB, gA, gB, q⟩ := h
    have hr4 : Room 3 _ := hr.mono (by decide)
    refine ⟨_, (pss_one (ps_ret (pe_and (pe_call GZ hr4 (by rfl) dZ.g dZ.F.kp dZ.b .nil pass0 (pa_cons (pv 0) (pa_cons pe_int pa_nil))) (pe_one (pe_call GA hr (by rfl) dA.g dA.F.kp dA.b .nil pass0 (pa_cons (pv 1) (pa_cons (pv 2) pa_nil))))))), ?_⟩
    refine ⟨_, rfl, v, 0, o, rfl, ho, fun H1 s1 => ⟨_, rfl, ?_⟩⟩
    cases e : o.zs 0 with
    | false => exact iteF (q false H1 s1 (.inl ⟨e, rfl⟩))
    | true => exact iteT ⟨_, rfl, _, rfl, a, b, A, B', rfl, LadAt.same s1 hA, LadAt.same s1 hB, gA, gB, fun r H2 s2 hu => q _ H2 (s1.trans s2) (.inr ⟨e, r, hu, rfl⟩)⟩
theorem ok_shs {C : Addr} (d : Dd K mg "shows_steady" sShS ["paper", "ladder"]) (dZ : Dd K mg "are_from_zero" sZeros ["paper", "many"]) (dA : Dd K mg "is_steady" sSteady ["ladder"]) (GZ : FnOk P w K mg base CX0 3 dZ.f dZ.fd ["paper", "many"] (spZeros K))
    (GA : FnOk P w K mg base CX0 6 dA.f dA.fd ["ladder"] (spSteady K C)) : FnOk P w K mg base CX0 7 d.f d.fd ["paper", "ladder"] (spSh1 K C valS) := by
  refine d.F.ok scShS (fun vs H Q E h => ?_) (fun cdv A outer s H vs Q E hr h => ?_)
  · obtain ⟨_, _, _, _, rfl, _⟩ := h
    rfl
  · obtain ⟨v, a, A, o, rfl, ho, ok, hA, gA, q⟩ := h
    have hr4 : Room 3 _ := hr.mono (by decide)
    refine ⟨_, (pss_one (ps_ret (pe_and (pe_call GZ hr4 (by rfl) dZ.g dZ.F.kp dZ.b .nil pass0 (pa_cons (pv 0) (pa_cons pe_int pa_nil))) (pe_one (pe_call GA hr (by rfl) dA.g dA.F.kp dA.b .nil pass0 (pa_cons (pv 1) pa_nil)))))), ?_⟩
    refine ⟨_, rfl, v, 0, o, rfl, ho, fun H1 s1 => ⟨_, rfl, ?_⟩⟩
    cases e : o.zs 0 with
    | false => exact iteF (q false H1 s1 (.inl ⟨e, rfl⟩))
    | true => exact iteT ⟨_, rfl, a, A.us, A.d, A.s, A.c, A.l, rfl, LadAt.same s1 hA, gA, fun r H2 s2 hu => q _ H2 (s1.trans s2) (.inr ⟨e, r, hu, rfl⟩)⟩
theorem ok_shi {C : Addr} (d : Dd K mg "shows_impossible" sShI ["paper", "ladder", "texts", "total"]) (dZ : Dd K mg "are_from_zero" sZeros ["paper", "many"]) (dA : Dd K mg "column" sColumn ["ladder", "texts", "total"]) (GZ : FnOk P w K mg base CX0 3 dZ.f dZ.fd ["paper", "many"] (spZeros K))
    (GA : FnOk P w K mg base CX0 7 dA.f dA.fd ["ladder", "texts", "total"] (spColumn K C)) : FnOk P w K mg base CX0 8 d.f d.fd ["paper", "ladder", "texts", "total"] (spSh4 K C valI) := by
  refine d.F.ok scShI (fun vs H Q E h => ?_) (fun cdv A outer s H vs Q E hr h => ?_)
  · obtain ⟨_, _, _, _, _, _, _, rfl, _⟩ := h
    rfl
  · obtain ⟨v, a, t, A, ks, k, o, rfl, ho, ok, hA, gA, hT, hlen, hk, hkk, q⟩ := h
    have hr4 : Room 3 _ := hr.mono (by decide)
    refine ⟨_, (pss_one (ps_ret (pe_and (pe_call GZ hr4 (by rfl) dZ.g dZ.F.kp dZ.b .nil pass0 (pa_cons (pv 0) (pa_cons pe_int pa_nil))) (pe_one (pe_cmp (pc_isN (pe_call GA hr (by rfl) dA.g dA.F.kp dA.b .nil pass0 (pa_cons (pv 1) (pa_cons (pv 2) (pa_cons (pv 3) pa_nil))))) rfl))))), ?_⟩
    refine ⟨_, rfl, v, 0, o, rfl, ho, fun H1 s1 => ⟨_, rfl, ?_⟩⟩
    cases e : o.zs 0 with
    | false => exact iteF (q false H1 s1 (.inl ⟨e, rfl⟩))
    | true =>
      refine iteT ⟨_, rfl, _, rfl, _, rfl, a, t, A.us, A.d, A.s, A.c, A.l, ks, k, rfl, LadAt.same s1 hA, gA, same_sqt s1 hT, hlen, hk, hkk, fun u H2 s2 hc => ?_⟩
      rcases hc with ⟨rfl, hc⟩ | ⟨hc, p, t', u', rfl, _⟩
      · exact q true H2 (s1.trans s2) (.inr ⟨e, fun _ => hc, fun _ => rfl⟩)
      · exact q false H2 (s1.trans s2) (.inr ⟨e, (fun z => nomatch z), fun z => absurd hc z⟩)
theorem ok_shu {C : Addr} (d : Dd K mg "shows_unlike" sShU ["paper", "ladder", "other"]) (dZ : Dd K mg "is_from_zero" sZeroI ["value"]) (dF : Dd K mg "figure_of" sFigOf ["ladder", "number"]) (GZ : FnOk P w K mg base CX0 2 dZ.f dZ.fd ["value"] (spZero K))
    (GF : FnOk P w K mg base CX0 5 dF.f dF.fd ["ladder", "number"] (spFig K C)) : FnOk P w K mg base CX0 6 d.f d.fd ["paper", "ladder", "other"] (spSh2 K C valU) := by
  refine d.F.ok scShU (fun vs H Q E h => ?_) (fun cdv A outer s H vs Q E hr h => ?_)
  · obtain ⟨_, _, _, _, _, _, rfl, _⟩ := h
    rfl
  · obtain ⟨v, a, b, A, B', o, rfl, ho, ok, hA, hB, gA, gB, q⟩ := h
    have hr2 : Room 2 _ := hr.mono (by decide)
    refine ⟨_, (pss_one (ps_ret (pe_and (pe_call GZ hr2 (by rfl) dZ.g dZ.F.kp dZ.b .nil pass0 (pa_cons (pv 0) pa_nil)) (pe_one (pe_cmpR op_ne (pe_call GF hr (by rfl) dF.g dF.F.kp dF.b .nil pass0 (pa_cons (pv 1) (pa_cons (pv 0) pa_nil))) (pe_call GF hr (by rfl) dF.g dF.F.kp dF.b .nil pass0 (pa_cons (pv 2) (pa_cons (pv 0) pa_nil))) (nomark _)))))), ?_⟩
    refine ⟨_, rfl, v, o, rfl, ho, _, rfl, ?_⟩
    cases e : o.z with
    | false => exact iteF (q false H (Same.refl _) (.inl ⟨e, rfl⟩))
    | true =>
      cases o with
      | tup ns => cases e
      | num n =>
        cases ho
        have n0 : 0 ≤ n := of_decide_eq_true e
        refine iteT ⟨_, rfl, _, rfl, a, A.us, A.d, A.s, A.c, A.l, n, rfl, hA, gA, n0, ok, fun H1 s1 => ?_⟩
        refine ⟨_, rfl, _, rfl, b, B'.us, B'.d, B'.s, B'.c, B'.l, n, rfl, LadAt.same s1 hB, gB, n0, ok, fun H2 s2 => ⟨rfl, ?_⟩⟩
        exact q _ H2 (s1.trans s2) (.inr ⟨n, rfl, n0, rfl⟩)
theorem ok_shh {C : Addr} (d : Dd K mg "shows_hiding" sShH ["paper", "ladder", "other"]) (dZ : Dd K mg "are_from_zero" sZeros ["paper", "many"]) (dF : Dd K mg "figure_of" sFigOf ["ladder", "number"]) (GZ : FnOk P w K mg base CX0 3 dZ.f dZ.fd ["paper", "many"] (spZeros K))
    (GF : FnOk P w K mg base CX0 5 dF.f dF.fd ["ladder", "number"] (spFig K C)) : FnOk P w K mg base CX0 6 d.f d.fd ["paper", "ladder", "other"] (spSh2 K C valH) := by
  refine d.F.ok scShH (fun vs H Q E h => ?_) (fun cdv A outer s H vs Q E hr h => ?_)
  · obtain ⟨_, _, _, _, _, _, rfl, _⟩ := h
    rfl
  · obtain ⟨v, a, b, A, B', o, rfl, ho, ok, hA, hB, gA, gB, q⟩ := h
    have nd := scShH.nd
    have hr4 : Room 3 _ := hr.mono (by decide)
    refine ⟨_, (pss_cons (ps_if (pt_not (pt_val (pe_call GZ hr4 (by rfl) dZ.g dZ.F.kp dZ.b .nil pass0 (pa_cons (pv 0) (pa_cons pe_int pa_nil))))) (pss_one (ps_ret pe_bl)) pss_nil)
  (pss_cons (ps_asg (pv 0) (pg_tup rfl (pgs_cons (pg_name (i := 3) nd rfl (Or.inl rfl)) (pgs_cons (pg_name (i := 4) nd rfl (Or.inl rfl)) pgs_nil))))
  (pss_one (ps_ret (pe_and (pe_cmpR op_eq (pe_call GF hr (by rfl) dF.g dF.F.kp dF.b .nil pass0 (pa_cons (pv 1) (pa_cons (pv 3) pa_nil))) (pe_call GF hr (by rfl) dF.g dF.F.kp dF.b .nil pass0 (pa_cons (pv 1) (pa_cons (pv 4) pa_nil))) (nomark _)) (pe_one (pe_cmpR op_ne (pe_call GF hr (by rfl) dF.g dF.F.kp dF.b .nil pass0 (pa_cons (pv 2) (pa_cons (pv 3) pa_nil))) (pe_call GF hr (by rfl) dF.g dF.F.kp dF.b .nil pass0 (pa_cons (pv 2) (pa_cons (pv 4) pa_nil))) (nomark _)))))))), ?_⟩
    refine ⟨_, rfl, v, 2, o, rfl, ho, fun H1 s1 => ⟨_, rfl, ?_⟩⟩
    cases e : o.zs 2 with
    | false => exact iteT (q false H1 s1 (.inl ⟨e, rfl⟩))
    | true =>
      refine iteF ?_
      cases o with
      | num n => cases e
      | tup ns =>
        obtain ⟨p, rfl, hp, _⟩ := ho
        obtain ⟨e1, e2⟩ := Bool.and_eq_true_iff.mp (show (decide ((ns.length : Int) = 2) && ns.all fun n => decide (0 ≤ n)) = true from e)
        have e1' : (ns.length : Int) = 2 := of_decide_eq_true e1
        match ns, e1', e2, ok, hp, e with
        | [m, n], _, e2, ok, hp, e =>
          have m0 : 0 ≤ m := of_decide_eq_true (List.all_eq_true.mp e2 m (by simp))
          have n0 : 0 ≤ n := of_decide_eq_true (List.all_eq_true.mp e2 n (by simp))
          have m1 := ok.1 m (by simp)
          have n1 := ok.1 n (by simp)
          refine ⟨_, rfl, p, _, rfl, same_sqt s1 hp, rfl, _, _, rfl, _, _, rfl, rfl, ?_⟩
          refine ⟨_, rfl, _, rfl, a, A.us, A.d, A.s, A.c, A.l, m, rfl, LadAt.same s1 hA, gA, m0, m1, fun H2 s2 => ?_⟩
          refine ⟨_, rfl, _, rfl, a, A.us, A.d, A.s, A.c, A.l, n, rfl, LadAt.same (s1.trans s2) hA, gA, n0, n1, fun H3 s3 => ⟨rfl, _, rfl, ?_⟩⟩
          have s13 := (s1.trans s2).trans s3
          cases ed : decide (V.str (A.show m) = V.str (A.show n)) with
          | false =>
            refine iteF (q false H3 s13 (.inr ⟨m, n, rfl, m0, n0, ?_⟩))
            rw [ed, Bool.false_and]
          | true =>
            refine iteT ⟨_, rfl, _, rfl, b, B'.us, B'.d, B'.s, B'.c, B'.l, m, rfl, LadAt.same s13 hB, gB, m0, m1, fun H4 s4 => ?_⟩
            refine ⟨_, rfl, _, rfl, b, B'.us, B'.d, B'.s, B'.c, B'.l, n, rfl, LadAt.same (s13.trans s4) hB, gB, n0, n1, fun H5 s5 => ⟨rfl, ?_⟩⟩
            refine q _ H5 ((s13.trans s4).trans s5) (.inr ⟨m, n, rfl, m0, n0, ?_⟩)
            rw [ed, Bool.true_and]
theorem ok_shd (d : Dd K mg "shows_drifting" sShD ["paper", "ladder"]) (dZ : Dd K mg "is_from_zero" sZeroI ["value"]) (dP : Dd K mg "placed" sPlaced ["ladder", "number"]) (L : LadC K mg) (GZ : FnOk P w K mg base CX0 2 dZ.f dZ.fd ["value"] (spZero K))
    (GP : FnOk P w K mg base CX0 4 dP.f dP.fd ["ladder", "number"] (spPlaced K L.C)) : FnOk P w K mg base CX0 5 d.f d.fd ["paper", "ladder"] (spSh1 K L.C valD) := by
  refine d.F.ok scShD (fun vs H Q E h => ?_) (fun cdv A0 outer s H vs Q E hr h => ?_)
  · obtain ⟨_, _, _, _, rfl, _⟩ := h
    rfl
  · obtain ⟨v, a, A, o, rfl, ho, ok, hA, gA, q⟩ := h
    have nd := scShD.nd
    have hr2 : Room 2 _ := hr.mono (by decide)
    have hu : (A0.deeper (envOfC "shows_drifting" (defScope sShD) s.heap.objs.size d.f cdv)).units + 64 < cLine := by have := hr.un; omega
    refine ⟨_, (pss_cons (ps_if (pt_not (pt_val (pe_call GZ hr2 (by rfl) dZ.g dZ.F.kp dZ.b .nil pass0 (pa_cons (pv 0) pa_nil)))) (pss_one (ps_ret pe_bl)) pss_nil)
  (pss_cons (ps_asg (pe_call GP hr (by rfl) dP.g dP.F.kp dP.b .nil pass0 (pa_cons (pv 1) (pa_cons (pv 0) pa_nil))) (pg_tup rfl (pgs_cons (pg_name (i := 2) nd rfl (Or.inl rfl)) (pgs_cons (pg_name (i := 3) nd rfl (Or.inl rfl)) pgs_nil))))
  (pss_one (ps_ret (pe_cmpR (r := rNeD K) (op_neD hu) (pe_call GP hr (by rfl) dP.g dP.F.kp dP.b .nil pass0 (pa_cons (pv 1) (pa_cons (pe_op op_mul (pv 3) (pe_ix (r := rIxT K) ix_tup (pe_fld (pv 1) rfl) (pv 2) (fun _ _ => rfl))) pa_nil))) (pe_tup (pa_cons (pv 2) (pa_cons (pv 3) pa_nil))) (by rfl)))))), ?_⟩
    refine ⟨_, rfl, v, o, rfl, ho, _, rfl, ?_⟩
    cases e : o.z with
    | false => exact iteT (q false H (Same.refl _) (.inl ⟨e, rfl⟩))
    | true =>
      refine iteF ?_
      cases o with
      | tup ns => cases e
      | num n =>
        cases ho
        have n0 : 0 ≤ n := of_decide_eq_true e
        obtain ⟨k1, k2, k3⟩ := placedM_ok (c := A.c) gA n0
        obtain ⟨_, st1, st2⟩ := steps_ok gA k1
        have st1 : 0 < (stepsOf A.us A.d).getD (A.placed n).1 0 := st1
        have st2 : (stepsOf A.us A.d).getD (A.placed n).1 0 ≤ 1000000000000000000 := st2
        refine ⟨_, rfl, _, rfl, a, A.us, A.d, A.s, A.c, A.l, n, rfl, hA, gA, n0, fun r H1 s1 hr1 => ?_⟩
        refine ⟨r, _, rfl, hr1, rfl, _, _, rfl, _, _, rfl, rfl, ?_⟩
        obtain ⟨dx, ua, t, st, th, h1, h2, h3, h4, h5⟩ := LadAt.same s1 hA
        refine ⟨_, rfl, _, rfl, _, rfl, a, L.C, dx, _, _, rfl, h1, L.cl, L.nSteps, fl_steps .., _, rfl, st, _, _, .int ((stepsOf A.us A.d).getD (A.placed n).1 0), rfl, rfl, h4, ?_, _, _, rfl, rfl, ?_, a, A.us, A.d, A.s, A.c, A.l, _, rfl, ⟨dx, ua, t, st, th, h1, h2, h3, h4, h5⟩, gA, ?_, fun r2 H2 s2 hr2 => ?_⟩
        · exact atI_nat (by rw [List.getElem?_map, (steps_ok gA k1).1]; rfl)
        · exact .inr ⟨by omega, by omega⟩
        · exact Int.mul_nonneg k2 (by omega)
        refine ⟨_, rfl, _, rfl, by show 2 ≤ sizeLine; decide, fun t2 nt2 => ?_⟩
        have s3 := same_upd nt2 (o := .tup [.int ((A.placed n).1 : Int), .int (A.placed n).2])
        refine ⟨.tuple [.int _, .int _], .tuple [.int _, .int _], .tup (same_sqt s3 hr2) (.cons (.int _) (.cons (.int _) .nil)), .tup (SqT.of upd_same) (.cons (.int _) (.cons (.int _) .nil)), shaped_2ii _ _, shaped_2ii _ _, ?_⟩
        rw [eqv_2ii]
        exact q _ _ ((s1.trans s2).trans s3) (.inr ⟨n, rfl, n0, rfl⟩)
theorem ok_shp {C : Addr} (d : Dd K mg "shows_possible" sShP ["paper", "ladder", "texts", "total"]) (dZ : Dd K mg "are_from_zero" sZeros ["paper", "many"]) (dF : Dd K mg "figure_of" sFigOf ["ladder", "number"]) (B : Bt mg) (bSum : mg "sum" = none) (GZ : FnOk P w K mg base CX0 3 dZ.f dZ.fd ["paper", "many"] (spZeros K))
    (GF : FnOk P w K mg base CX0 5 dF.f dF.fd ["ladder", "number"] (spFig K C)) : FnOk P w K mg base CX0 6 d.f d.fd ["paper", "ladder", "texts", "total"] (spSh4 K C valP) := by
  refine d.F.ok scShP (fun vs H Q E h => ?_) (fun cdv A0 outer s H vs Q E hr h => ?_)
  · obtain ⟨_, _, _, _, _, _, _, rfl, _⟩ := h
    rfl
  · obtain ⟨v, a, t, A, ks, k, o, rfl, ho, ok, hA, gA, hT, hlen, hk, hkk, q⟩ := h
    have nd := scShP.nd
    have hr4 : Room 3 _ := hr.mono (by decide)
    have hr5 := hr
    have hu : (A0.deeper (envOfC "shows_possible" (defScope sShP) s.heap.objs.size d.f cdv)).units + 64 < cLine := by have := hr.un; omega
    refine ⟨_, (pss_cons (ps_if (pt_not (pt_val (pe_call GZ hr4 (by rfl) dZ.g dZ.F.kp dZ.b .nil pass0 (pa_cons (pv 0) (pa_cons (pe_callB call_len_seq (by rfl) B.len PySem.boot_len (pa_cons (pv 2) pa_nil)) pa_nil))))) (pss_one (ps_ret pe_bl)) pss_nil)
  (pss_cons (ps_set (i := 4) nd rfl (.inl rfl) (pe_tupleOf (by rfl) B.tuple (pe_lc (own := [("number", 5)]) (g := gName 5) (tt := tYes) rfl nd (pi_tup (pv 0)) (blkOk_by (own := [("number", 5)]) (N := ["paper", "ladder", "texts", "total", "shown", "number"]) (sc := defScope sShP) (by decide +kernel)) (fun _ _ _ _ _ => pg_name (i := 5) nd rfl (Or.inl rfl)) (fun _ _ _ _ _ => pts_nil) (fun _ _ _ _ _ => (pe_call GF hr5 (by rfl) dF.g dF.F.kp dF.b .nil pass0 (pa_cons (pv 1) (pa_cons (pv 5) pa_nil)))))))
  (pss_one (ps_ret (pe_and (pe_cmpR (r := rEqD K) (op_eqD hu) (pv 4) (pv 2) (by rfl)) (pe_one (pe_cmpR op_eq (pe_call GF hr5 (by rfl) dF.g dF.F.kp dF.b .nil pass0 (pa_cons (pv 1) (pa_cons (pe_callB (r := rSumT K) (cr_sumT rfl) (by rfl) bSum (by decide +kernel) (pa_cons (pv 0) pa_nil)) pa_nil))) (pv 3) (nomark _)))))))), ?_⟩
    have el : (ks.map fun k => V.str (textK A.us A.d k)).length = ks.length := List.length_map ..
    refine ⟨_, rfl, _, rfl, t, _, rfl, .inr hT, v, ((ks.map fun k => V.str (textK A.us A.d k)).length : Int), o, rfl, ho, fun H1 s1 => ⟨_, rfl, ?_⟩⟩
    rw [el]
    cases e : o.zs ks.length with
    | false => exact iteT (q false H1 s1 (.inl ⟨e, rfl⟩))
    | true =>
      refine iteF ?_
      cases o with
      | num n => cases e
      | tup ns =>
        obtain ⟨p, rfl, hp, hl⟩ := ho
        obtain ⟨e1, e2⟩ := Bool.and_eq_true_iff.mp (show (decide ((ns.length : Int) = ks.length) && ns.all fun n => decide (0 ≤ n)) = true from e)
        have e1' : (ns.length : Int) = ks.length := of_decide_eq_true e1
        have n0 : ∀ n ∈ ns, 0 ≤ n := fun n hn => of_decide_eq_true (List.all_eq_true.mp e2 n hn)
        refine ⟨_, rfl, p, rfl, ⟨_, same_sqt s1 hp⟩, fun D nD => ?_⟩
        refine lc_tup (K := K) (a := p) (xs := ns.map V.int) (fun i H' => Same H1 H' ∧ H' D = some (.lst (((ns.take i).map fun n => V.str (A.show n))))) ⟨same_upd nD, upd_same⟩ (fun i H' _ h => same_sqt (s1.trans h.1) hp) ?_ ?_
        · rintro i x H2 hi ⟨sm, hD⟩
          rw [List.getElem?_map] at hi
          cases hy : ns[i]? with
          | none => rw [hy] at hi; cases hi
          | some y =>
            rw [hy] at hi
            cases hi
            have hil := (List.getElem?_eq_some_iff.mp hy).1
            have hm := List.mem_of_getElem? hy
            refine ⟨rfl, _, rfl, _, rfl, a, A.us, A.d, A.s, A.c, A.l, y, rfl, LadAt.same (s1.trans sm) hA, gA, n0 y hm, ok.1 y hm, fun H3 s3 => ⟨_, s3 _ _ hD, ?_, fun b o e => ?_, ?_⟩⟩
            · rw [List.length_map, List.length_take]
              exact Nat.lt_of_le_of_lt (Nat.min_le_left _ _) (Nat.lt_of_lt_of_le (show i < 1001 by omega) (by decide))
            · rw [upd_ne (ne_of_none e nD)]
              exact s3 _ _ (sm _ _ e)
            · rw [upd_same, List.take_add_one, hy]
              show _ = some (HO.lst (((ns.take i) ++ [y]).map fun n => V.str (A.show n)))
              rw [List.map_append]
              rfl
        · rintro H2 ⟨sm, hD⟩
          rw [List.length_map, List.take_of_length_le (Nat.le_refl _)] at hD
          refine .inl ⟨D, _, rfl, SqL.of hD, fun u nu => ?_⟩
          have su := same_upd nu (o := .tup (ns.map fun n => V.str (A.show n)))
          have s02 := (s1.trans sm).trans su
          refine ⟨_, rfl, _, rfl, .tuple ((ns.map A.show).map PyData.str), .tuple ((ks.map (textK A.us A.d)).map PyData.str), .tup (SqT.of upd_same) (strs_dpX A.show ns), .tup (same_sqt s02 hT) (strs_dpX (textK A.us A.d) ks), ?_, ?_, _, rfl, ?_⟩
          · refine strs_shapedX fun x hx => ?_
            obtain ⟨n, hn, rfl⟩ := List.mem_map.mp hx
            have hp := placedM_ok (c := A.c) gA (n0 n hn)
            exact writ_okX gA.u hp.2.1 hp.1
          · refine strs_shapedX fun x hx => ?_
            obtain ⟨k', hk', rfl⟩ := List.mem_map.mp hx
            exact writ_okX gA.u (hk k' hk').2.1 (hk k' hk').1
          rw [strs_eqvT]
          have q' := fun x H' sm hx => q x H' sm (.inr ⟨ns, rfl, by omega, n0, hx⟩)
          cases ed : decide (ns.map A.show = ks.map (textK A.us A.d)) with
          | false =>
            rw [ed] at q'
            exact iteF (q' false _ s02 (Bool.false_and _).symm)
          | true =>
            rw [ed] at q'
            have hs0 : 0 ≤ ns.sum := sum_nnX n0
            refine iteT ⟨_, rfl, _, rfl, p, ns, rfl, same_sqt s02 hp, a, A.us, A.d, A.s, A.c, A.l, ns.sum, rfl, LadAt.same s02 hA, gA, hs0, ok.2, fun H3 s3 => ⟨_, rfl, rfl, ?_⟩⟩
            exact q' _ H3 (s02.trans s3) (Bool.true_and _).symm
/-- what holds asks of a word -/
structure FormK (K : PySem.W.Frag) (w : World) (aF : Addr) (word : Str) (many : Int) (fr fs : Addr) : Prop where
  at_ : ∃ tu, KDct K w aF word (.ref tu) ∧ ∀ H, SqT K H tu [.int many, .ref fr, .ref fs]
  key : ∃ r, PySem.W.nsIn K aF word = some (some r)
def spHolds (K : PySem.W.Frag) (word : Str) (many : Int) (spR spS : Sp) : Sp := fun vs H Q _ => ∃ (q : Addr) (v : V) (xs : List V), vs = [.ref q, v] ∧ SqT K H q (.str word :: xs) ∧ (xs.length : Int) + 1 = many ∧ xs.length ≤ 900 ∧
  ∀ (H1 : Hp) (Q' : VK), Same H H1 → (∀ u H2, (∃ t ys, u = .ref t ∧ SqT K H2 t ys ∧ spS (v :: ys) H2 Q E0) → Q' u H2) → spR xs H1 Q' E0
theorem ok_holds {aF : Addr} {es : Array DictEntry} {nE : Nat} {word : Str} {many : Int} {fr fs : Addr} {spR spS : Sp} (d : Dd K mg "holds" sHolds ["claim", "paper"]) (B : Bt mg) (gF : mg "FORMS" = some (.ref aF)) (KD : KDict K w aF es nE) (FK : FormK K w aF word many fr fs) (gE : ∃ CE, mg "InputError" = some (.ref CE))
    (R : PySem.W.keepIn K (.ref fr) = true ∧ FnR P w K mg base CX0 9 fr spR) (S : PySem.W.keepIn K (.ref fs) = true ∧ FnR P w K mg base CX0 9 fs spS) : FnOk P w K mg base CX0 10 d.f d.fd ["claim", "paper"] (spHolds K word many spR spS) := by
  obtain ⟨CE, gE⟩ := gE
  obtain ⟨⟨tu, kd, htu⟩, rk, hrk⟩ := FK
  refine d.F.ok scHolds (fun vs H Q E h => ?_) (fun cdv A outer s H vs Q E hr h => ?_)
  · obtain ⟨_, _, _, rfl, _⟩ := h
    rfl
  · obtain ⟨q0, v, xs, rfl, hq, hm, hl, go⟩ := h
    have nd := scHolds.nd
    refine ⟨_, (pss_cons (ps_if (PW.pt (pw_or (pt_not (pt_val (pe_callB call_isi (by rfl) B.isinstance (by decide +kernel) (pa_cons (pv 0) (pa_cons (pe_bltn (v := .ty "tuple") (by rfl) B.tuple (by decide +kernel) rfl) pa_nil))))) (pw_or1 (pt_cmpR op_eq (pe_callB call_len_seq (by rfl) B.len PySem.boot_len (pa_cons (pv 0) pa_nil)) pe_int (nomark _))))) (pss_one (ps_ret pe_bl)) pss_nil)
  (pss_cons (ps_asg (pv 0) (NH.pg_star (n := 2) (i := 1) rfl (pgs_cons (pg_name (i := 2) nd rfl (Or.inl rfl)) (NH.pgs_star (pg_name (i := 3) nd rfl (Or.inl rfl)) pgs_nil))))
  (pss_cons (ps_if (PW.pt (pw_or (pt_not (pt_val (pe_callB call_isi (by rfl) B.isinstance (by decide +kernel) (pa_cons (pv 2) (pa_cons (pe_bltn (v := .ty "str") (by rfl) B.str (by decide +kernel) rfl) pa_nil))))) (pw_or1 (pt_cmpR (op_notIn_kd KD) (pv 2) (pe_glob (v := .ref aF) (by rfl) gF rfl) (by rfl))))) (pss_one (ps_ret pe_bl)) pss_nil)
  (pss_cons (ps_asg (pe_ix (r := rIxD K w) ix_kdict (pe_glob (v := .ref aF) (by rfl) gF rfl) (pv 2) (fun _ _ => rfl)) (pg_tup rfl (pgs_cons (pg_name (i := 4) nd rfl (Or.inl rfl)) (pgs_cons (pg_name (i := 5) nd rfl (Or.inl rfl)) (pgs_cons (pg_name (i := 6) nd rfl (Or.inl rfl)) pgs_nil)))))
  (pss_cons (ps_if (pt_cmpR op_ne (pe_callB call_len_seq (by rfl) B.len PySem.boot_len (pa_cons (pv 0) pa_nil)) (pv 4) (nomark _)) (pss_one (ps_ret pe_bl)) pss_nil)
  (pss_cons (ps_try_only rfl rfl ⟨rfl, by decide, .inl gE⟩ takes0 (fun W pn xe tk _ => pss_one (ps_set (i := 7) nd rfl (.inl rfl) (NH.pe_callLS1 (K := K) (i := 5) (k := 9) (S := fun f => if f = fr then some (spR, E0) else none) (fun f sp E h => NH.one_of R h) hr rfl (.inl rfl) (pv 3)))) (fun a oe cls dd pn _ _ => pss_never))
  (pss_one (ps_ret (NH.pe_callLS2 (i := 6) (k := 9) (S := fun f => if f = fs then some (spS, E0) else none) (fun f sp E h => NH.one_of S h) hr rfl (.inl rfl) (pa_cons (pv 1) (StX.pa_star (pv 7) pa_nil))))))))))), ?_⟩
    refine ⟨_, rfl, _, _, _, _, true, rfl, .ty "tuple", tyx_tup hq, kit_ty (by decide +kernel), _, rfl, iteF ?_⟩
    refine ⟨_, rfl, q0, _, rfl, .inr hq, rfl, _, rfl, iteE (decide_eq_false (fun z => by have := V.int.inj z; rw [List.length_cons] at this; omega)) ?_⟩
    refine ⟨_, rfl, q0, _, rfl, hq, by decide, by rw [List.length_cons]; omega, by rw [List.length_cons]; omega, fun D nD => ?_⟩
    have e1 : (((V.str word :: xs).drop 1).take ((V.str word :: xs).length + 1 - 2)) = xs := List.take_of_length_le (by simp)
    have e2 : (((V.str word :: xs).drop 1).drop ((V.str word :: xs).length + 1 - 2)) = [] := List.drop_of_length_le (by simp)
    rw [e1, e2]
    have sD := same_upd nD (o := .lst xs)
    have hD : (upd H D (.lst xs)) D = some (.lst xs) := upd_same
    generalize upd H D (.lst xs) = HD at sD hD ⊢
    refine ⟨_, _, rfl, _, _, rfl, rfl, ?_⟩
    refine ⟨_, rfl, _, _, _, _, true, rfl, .ty "str", .base (.str word), kit_ty (by decide +kernel), _, rfl, iteF ?_⟩
    refine ⟨_, rfl, word, some rk, rfl, rfl, hrk, _, rfl, iteF ?_⟩
    refine ⟨_, rfl, aF, word, _, rfl, rfl, kd, tu, _, rfl, htu _, rfl, _, _, rfl, _, _, rfl, _, _, rfl, rfl, ?_⟩
    refine ⟨_, rfl, q0, _, rfl, .inr (same_sqt sD hq), _, rfl, rfl, _, rfl, iteNS (congrArg V.int (by rw [List.length_cons]; omega)) ?_⟩
    refine ⟨fr, spR, E0, rfl, if_pos rfl, _, rfl, D, xs, rfl, .inr (SqL.of hD), go HD _ sD (fun u H2 hu => ?_)⟩
    obtain ⟨t, ys, rfl, ht, hs⟩ := hu
    exact ⟨fs, spS, E0, rfl, if_pos rfl, _, rfl, _, rfl, t, ys, rfl, .inl ht, by show spS (v :: (ys ++ [])) H2 Q E0; rw [List.append_nil]; exact hs⟩
end
end My


namespace My
open PySem PySem.Spec PyProof.Rows L2
/-! ### what certificates tell; a pair is right -/
theorem LadAt.told {K : PySem.W.Frag} {C : Addr} {H : Hp} {a : Addr} {A : Lad} (h : A.At K C H a) : ∃ dx t fs, H a = some (.ins C dx fs) ∧ fs.lookup ("told" : Str) = some (.ref t) ∧ A.Told K H t := by
  obtain ⟨dx, ua, t, st, th, h1, h2, h3, h4, h5⟩ := h
  exact ⟨dx, t, _, h1, fl_told .., ua, h3, h2⟩
section
variable {P : Program} {w : World} {K : PySem.W.Frag} {mg : Str → Option Value} {base : Heap}
theorem ok_certa (d : Dd K mg "certify_alike" sCertA ["ladder", "other"]) (dU : Dd K mg "first_unlike" sFirstU ["ladder", "other"]) (L : LadC K mg) (GU : FnOk P w K mg base CX0 7 dU.f dU.fd ["ladder", "other"] (spFirstU K L.C)) : FnOk P w K mg base CX0 8 d.f d.fd ["ladder", "other"] (spCertA K L.C) := by
  refine d.F.ok scCertA (fun vs H Q E h => ?_) (fun cdv A0 outer s H vs Q E hr h => ?_)
  · obtain ⟨_, _, _, _, rfl, _⟩ := h
    rfl
  · obtain ⟨a, b, A, B, rfl, hA, hB, gA, gB, q⟩ := h
    have nd := scCertA.nd
    refine ⟨_, (pss_cons (ps_set (i := 2) nd rfl (.inl rfl) (pe_call GU hr (by rfl) dU.g dU.F.kp dU.b .nil pass0 (pa_cons (pv 0) (pa_cons (pv 1) pa_nil))))
  (pss_cons (ps_if (pt_cmp (pc_isN (pv 2))) (pss_one (ps_ret (pe_tup (pa_cons (pe_tup (pa_cons pe_str (pa_cons (pe_fld (pv 0) rfl) (pa_cons (pe_fld (pv 1) rfl) pa_nil)))) (pa_cons (pe_tup pa_nil) pa_nil))))) pss_nil)
  (pss_one (ps_ret (pe_tup (pa_cons (pe_tup (pa_cons pe_str (pa_cons (pe_fld (pv 0) rfl) (pa_cons (pe_fld (pv 1) rfl) pa_nil)))) (pa_cons (pv 2) pa_nil))))))), ?_⟩
    refine ⟨_, rfl, _, rfl, a, b, A, B, rfl, hA, hB, gA, gB, fun r H1 s1 hu => ?_⟩
    obtain ⟨dx, ta, fs, h1, h2, hta⟩ := LadAt.told (LadAt.same s1 hA)
    obtain ⟨dx', tb, fs', h1', h2', htb⟩ := LadAt.told (LadAt.same s1 hB)
    cases r with
    | none =>
      refine ⟨_, rfl, _, rfl, iteT ⟨_, rfl, a, L.C, dx, _, _, rfl, h1, L.cl, L.nTold, h2, _, rfl, b, L.C, dx', _, _, rfl, h1', L.cl, L.nTold, h2', by show 3 ≤ sizeLine; decide, fun qa nq => ?_⟩⟩
      have s2 := same_upd nq (o := .tup [.str "alike", .ref ta, .ref tb])
      have hq : SqT K (upd H1 qa (.tup [.str "alike", .ref ta, .ref tb])) qa [.str "alike", .ref ta, .ref tb] := SqT.of upd_same
      generalize upd H1 qa (.tup [.str "alike", .ref ta, .ref tb]) = H2 at s2 hq ⊢
      refine ⟨by show 0 ≤ sizeLine; decide, fun e ne => ?_⟩
      have s3 := same_upd ne (o := .tup [])
      have he : SqT K (upd H2 e (.tup [])) e [] := SqT.of upd_same
      generalize upd H2 e (.tup []) = H3 at s3 he ⊢
      refine ⟨by show 2 ≤ sizeLine; decide, fun p np => ?_⟩
      have s4 := same_upd np (o := .tup [.ref qa, .ref e])
      have s24 := (s2.trans s3).trans s4
      exact q none p qa (.ref e) _ (s1.trans s24) hu (SqT.of upd_same) ⟨ta, tb, same_sqt (s3.trans s4) hq, ToldAt.same s24 hta, ToldAt.same s24 htb⟩ ⟨e, rfl, same_sqt s4 he, Nat.zero_le _⟩
    | some n =>
      refine ⟨_, rfl, _, rfl, iteF ⟨_, rfl, a, L.C, dx, _, _, rfl, h1, L.cl, L.nTold, h2, _, rfl, b, L.C, dx', _, _, rfl, h1', L.cl, L.nTold, h2', by show 3 ≤ sizeLine; decide, fun qa nq => ?_⟩⟩
      have s2 := same_upd nq (o := .tup [.str "unlike", .ref ta, .ref tb])
      have hq : SqT K (upd H1 qa (.tup [.str "unlike", .ref ta, .ref tb])) qa [.str "unlike", .ref ta, .ref tb] := SqT.of upd_same
      generalize upd H1 qa (.tup [.str "unlike", .ref ta, .ref tb]) = H2 at s2 hq ⊢
      refine ⟨_, rfl, by show 2 ≤ sizeLine; decide, fun p np => ?_⟩
      have s4 := same_upd np (o := .tup [.ref qa, .int n])
      have s24 := s2.trans s4
      exact q (some n) p qa (.int n) _ (s1.trans s24) hu (SqT.of upd_same) ⟨ta, tb, same_sqt s4 hq, ToldAt.same s24 hta, ToldAt.same s24 htb⟩ rfl
theorem ok_certs (d : Dd K mg "certify_steady" sCertS ["ladder"]) (dU : Dd K mg "first_drift" sFirstD ["ladder"]) (L : LadC K mg) (GU : FnOk P w K mg base CX0 5 dU.f dU.fd ["ladder"] (spFirstD K L.C)) : FnOk P w K mg base CX0 6 d.f d.fd ["ladder"] (spCertS K L.C) := by
  refine d.F.ok scCertS (fun vs H Q E h => ?_) (fun cdv A0 outer s H vs Q E hr h => ?_)
  · obtain ⟨_, _, rfl, _⟩ := h
    rfl
  · obtain ⟨a, A, rfl, hA, gA, q⟩ := h
    have nd := scCertS.nd
    refine ⟨_, (pss_cons (ps_set (i := 1) nd rfl (.inl rfl) (pe_call GU hr (by rfl) dU.g dU.F.kp dU.b .nil pass0 (pa_cons (pv 0) pa_nil)))
  (pss_cons (ps_if (pt_cmp (pc_isN (pv 1))) (pss_one (ps_ret (pe_tup (pa_cons (pe_tup (pa_cons pe_str (pa_cons (pe_fld (pv 0) rfl) pa_nil))) (pa_cons (pe_tup pa_nil) pa_nil))))) pss_nil)
  (pss_one (ps_ret (pe_tup (pa_cons (pe_tup (pa_cons pe_str (pa_cons (pe_fld (pv 0) rfl) pa_nil))) (pa_cons (pv 1) pa_nil))))))), ?_⟩
    refine ⟨_, rfl, a, A.us, A.d, A.s, A.c, A.l, rfl, hA, gA, fun r H1 s1 hu => ?_⟩
    obtain ⟨dx, ta, fs, h1, h2, hta⟩ := LadAt.told (LadAt.same s1 hA)
    cases r with
    | none =>
      refine ⟨_, rfl, _, rfl, iteT ⟨_, rfl, a, L.C, dx, _, _, rfl, h1, L.cl, L.nTold, h2, by show 2 ≤ sizeLine; decide, fun qa nq => ?_⟩⟩
      have s2 := same_upd nq (o := .tup [.str "steady", .ref ta])
      have hq : SqT K (upd H1 qa (.tup [.str "steady", .ref ta])) qa [.str "steady", .ref ta] := SqT.of upd_same
      generalize upd H1 qa (.tup [.str "steady", .ref ta]) = H2 at s2 hq ⊢
      refine ⟨by show 0 ≤ sizeLine; decide, fun e ne => ?_⟩
      have s3 := same_upd ne (o := .tup [])
      have he : SqT K (upd H2 e (.tup [])) e [] := SqT.of upd_same
      generalize upd H2 e (.tup []) = H3 at s3 he ⊢
      refine ⟨by show 2 ≤ sizeLine; decide, fun p np => ?_⟩
      have s4 := same_upd np (o := .tup [.ref qa, .ref e])
      have s24 := (s2.trans s3).trans s4
      exact q none p qa (.ref e) _ (s1.trans s24) hu (SqT.of upd_same) ⟨ta, same_sqt (s3.trans s4) hq, ToldAt.same s24 hta⟩ ⟨e, rfl, same_sqt s4 he, Nat.zero_le _⟩
    | some n =>
      refine ⟨_, rfl, _, rfl, iteF ⟨_, rfl, a, L.C, dx, _, _, rfl, h1, L.cl, L.nTold, h2, by show 2 ≤ sizeLine; decide, fun qa nq => ?_⟩⟩
      have s2 := same_upd nq (o := .tup [.str "drifts", .ref ta])
      have hq : SqT K (upd H1 qa (.tup [.str "drifts", .ref ta])) qa [.str "drifts", .ref ta] := SqT.of upd_same
      generalize upd H1 qa (.tup [.str "drifts", .ref ta]) = H2 at s2 hq ⊢
      refine ⟨_, rfl, by show 2 ≤ sizeLine; decide, fun p np => ?_⟩
      have s4 := same_upd np (o := .tup [.ref qa, .int n])
      have s24 := s2.trans s4
      exact q (some n) p qa (.int n) _ (s1.trans s24) hu (SqT.of upd_same) ⟨ta, same_sqt s4 hq, ToldAt.same s24 hta⟩ rfl
theorem ok_certt (d : Dd K mg "certify_tells" sCertT ["ladder", "other"]) (dU : Dd K mg "first_untold" sFirstT ["ladder", "other"]) (L : LadC K mg) (GU : FnOk P w K mg base CX0 7 dU.f dU.fd ["ladder", "other"] (spFirstT K L.C)) : FnOk P w K mg base CX0 8 d.f d.fd ["ladder", "other"] (spCertT K L.C) := by
  refine d.F.ok scCertT (fun vs H Q E h => ?_) (fun cdv A0 outer s H vs Q E hr h => ?_)
  · obtain ⟨_, _, _, _, rfl, _⟩ := h
    rfl
  · obtain ⟨a, b, A, B, rfl, hA, hB, gA, gB, q⟩ := h
    have nd := scCertT.nd
    refine ⟨_, (pss_cons (ps_set (i := 2) nd rfl (.inl rfl) (pe_call GU hr (by rfl) dU.g dU.F.kp dU.b .nil pass0 (pa_cons (pv 0) (pa_cons (pv 1) pa_nil))))
  (pss_cons (ps_if (pt_cmp (pc_isN (pv 2))) (pss_one (ps_ret (pe_tup (pa_cons (pe_tup (pa_cons pe_str (pa_cons (pe_fld (pv 0) rfl) (pa_cons (pe_fld (pv 1) rfl) pa_nil)))) (pa_cons (pe_tup pa_nil) pa_nil))))) pss_nil)
  (pss_one (ps_ret (pe_tup (pa_cons (pe_tup (pa_cons pe_str (pa_cons (pe_fld (pv 0) rfl) (pa_cons (pe_fld (pv 1) rfl) pa_nil)))) (pa_cons (pv 2) pa_nil))))))), ?_⟩
    refine ⟨_, rfl, _, rfl, a, b, A, B, rfl, hA, hB, gA, gB, fun H1 s1 hu => ?_, fun n np0 H1 s1 hu hpr => ?_⟩
    · obtain ⟨dx, ta, fs, h1, h2, hta⟩ := LadAt.told (LadAt.same s1 hA)
      obtain ⟨dx', tb, fs', h1', h2', htb⟩ := LadAt.told (LadAt.same s1 hB)
      refine ⟨_, rfl, _, rfl, iteT ⟨_, rfl, a, L.C, dx, _, _, rfl, h1, L.cl, L.nTold, h2, _, rfl, b, L.C, dx', _, _, rfl, h1', L.cl, L.nTold, h2', by show 3 ≤ sizeLine; decide, fun qa nq => ?_⟩⟩
      have s2 := same_upd nq (o := .tup [.str "tells", .ref ta, .ref tb])
      have hq : SqT K (upd H1 qa (.tup [.str "tells", .ref ta, .ref tb])) qa [.str "tells", .ref ta, .ref tb] := SqT.of upd_same
      generalize upd H1 qa (.tup [.str "tells", .ref ta, .ref tb]) = H2 at s2 hq ⊢
      refine ⟨by show 0 ≤ sizeLine; decide, fun e ne => ?_⟩
      have s3 := same_upd ne (o := .tup [])
      have he : SqT K (upd H2 e (.tup [])) e [] := SqT.of upd_same
      generalize upd H2 e (.tup []) = H3 at s3 he ⊢
      refine ⟨by show 2 ≤ sizeLine; decide, fun p np => ?_⟩
      have s4 := same_upd np (o := .tup [.ref qa, .ref e])
      have s24 := (s2.trans s3).trans s4
      exact q none p qa (.ref e) _ (s1.trans s24) hu (SqT.of upd_same) ⟨ta, tb, same_sqt (s3.trans s4) hq, ToldAt.same s24 hta, ToldAt.same s24 htb⟩ ⟨e, rfl, same_sqt s4 he, Nat.zero_le _⟩
    · obtain ⟨dx, ta, fs, h1, h2, hta⟩ := LadAt.told (LadAt.same s1 hA)
      obtain ⟨dx', tb, fs', h1', h2', htb⟩ := LadAt.told (LadAt.same s1 hB)
      refine ⟨_, rfl, _, rfl, iteF ⟨_, rfl, a, L.C, dx, _, _, rfl, h1, L.cl, L.nTold, h2, _, rfl, b, L.C, dx', _, _, rfl, h1', L.cl, L.nTold, h2', by show 3 ≤ sizeLine; decide, fun qa nq => ?_⟩⟩
      have s2 := same_upd nq (o := .tup [.str "hides", .ref ta, .ref tb])
      have hq : SqT K (upd H1 qa (.tup [.str "hides", .ref ta, .ref tb])) qa [.str "hides", .ref ta, .ref tb] := SqT.of upd_same
      generalize upd H1 qa (.tup [.str "hides", .ref ta, .ref tb]) = H2 at s2 hq ⊢
      refine ⟨_, rfl, by show 2 ≤ sizeLine; decide, fun p np => ?_⟩
      have s4 := same_upd np (o := .tup [.ref qa, .ref np0])
      have s24 := s2.trans s4
      exact q (some n) p qa (.ref np0) _ (s1.trans s24) hu (SqT.of upd_same) ⟨ta, tb, same_sqt s4 hq, ToldAt.same s24 hta, ToldAt.same s24 htb⟩ ⟨np0, rfl, same_sqt s24 hpr, by show 2 ≤ 1000; decide⟩
theorem ok_certc (d : Dd K mg "certify_column" sCertC ["ladder", "texts", "total"]) (dU : Dd K mg "numbers_for" sNumF ["ladder", "texts", "total"]) (L : LadC K mg) (GU : FnOk P w K mg base CX0 8 dU.f dU.fd ["ladder", "texts", "total"] (spNumF K L.C)) : FnOk P w K mg base CX0 9 d.f d.fd ["ladder", "texts", "total"] (spCertC K L.C) := by
  refine d.F.ok scCertC (fun vs H Q E h => ?_) (fun cdv A0 outer s H vs Q E hr h => ?_)
  · obtain ⟨_, _, _, _, _, rfl, _⟩ := h
    rfl
  · obtain ⟨a, t, A, ks, k, rfl, hA, gA, hT, hlen, hk, hkk, q0, q1⟩ := h
    have nd := scCertC.nd
    refine ⟨_, (pss_cons (ps_set (i := 3) nd rfl (.inl rfl) (pe_call GU hr (by rfl) dU.g dU.F.kp dU.b .nil pass0 (pa_cons (pv 0) (pa_cons (pv 1) (pa_cons (pv 2) pa_nil)))))
  (pss_cons (ps_if (pt_cmp (pc_isN (pv 3))) (pss_one (ps_ret (pe_tup (pa_cons (pe_tup (pa_cons pe_str (pa_cons (pe_fld (pv 0) rfl) (pa_cons (pv 1) (pa_cons (pv 2) pa_nil))))) (pa_cons (pe_tup pa_nil) pa_nil))))) pss_nil)
  (pss_one (ps_ret (pe_tup (pa_cons (pe_tup (pa_cons pe_str (pa_cons (pe_fld (pv 0) rfl) (pa_cons (pv 1) (pa_cons (pv 2) pa_nil))))) (pa_cons (pv 3) pa_nil))))))), ?_⟩
    refine ⟨_, rfl, _, rfl, _, rfl, a, t, A.us, A.d, A.s, A.c, A.l, ks, k, rfl, hA, gA, hT, hlen, hk, hkk, fun v H1 s1 hv => ?_⟩
    obtain ⟨dx, ta, fs, h1, h2, hta⟩ := LadAt.told (LadAt.same s1 hA)
    rcases hv with ⟨rfl, hn⟩ | ⟨hc, np0, rfl, hpr⟩
    · refine ⟨_, rfl, _, rfl, iteT ⟨_, rfl, a, L.C, dx, _, _, rfl, h1, L.cl, L.nTold, h2, _, rfl, _, rfl, by show 4 ≤ sizeLine; decide, fun qa nq => ?_⟩⟩
      have s2 := same_upd nq (o := .tup [.str "impossible", .ref ta, .ref t, .str (textK A.us A.d k)])
      have hq : SqT K (upd H1 qa (.tup [.str "impossible", .ref ta, .ref t, .str (textK A.us A.d k)])) qa [.str "impossible", .ref ta, .ref t, .str (textK A.us A.d k)] := SqT.of upd_same
      generalize upd H1 qa (.tup [.str "impossible", .ref ta, .ref t, .str (textK A.us A.d k)]) = H2 at s2 hq ⊢
      refine ⟨by show 0 ≤ sizeLine; decide, fun e ne => ?_⟩
      have s3 := same_upd ne (o := .tup [])
      have he : SqT K (upd H2 e (.tup [])) e [] := SqT.of upd_same
      generalize upd H2 e (.tup []) = H3 at s3 he ⊢
      refine ⟨by show 2 ≤ sizeLine; decide, fun p np => ?_⟩
      have s4 := same_upd np (o := .tup [.ref qa, .ref e])
      have s24 := (s2.trans s3).trans s4
      exact q0 p qa (.ref e) _ (s1.trans s24) hn (SqT.of upd_same) ⟨ta, t, same_sqt (s3.trans s4) hq, ToldAt.same s24 hta, same_sqt (s1.trans s24) hT⟩ ⟨e, rfl, same_sqt s4 he, Nat.zero_le _⟩
    · refine ⟨_, rfl, _, rfl, iteF ⟨_, rfl, a, L.C, dx, _, _, rfl, h1, L.cl, L.nTold, h2, _, rfl, _, rfl, by show 4 ≤ sizeLine; decide, fun qa nq => ?_⟩⟩
      have s2 := same_upd nq (o := .tup [.str "possible", .ref ta, .ref t, .str (textK A.us A.d k)])
      have hq : SqT K (upd H1 qa (.tup [.str "possible", .ref ta, .ref t, .str (textK A.us A.d k)])) qa [.str "possible", .ref ta, .ref t, .str (textK A.us A.d k)] := SqT.of upd_same
      generalize upd H1 qa (.tup [.str "possible", .ref ta, .ref t, .str (textK A.us A.d k)]) = H2 at s2 hq ⊢
      refine ⟨_, rfl, by show 2 ≤ sizeLine; decide, fun p np => ?_⟩
      have s4 := same_upd np (o := .tup [.ref qa, .ref np0])
      have s24 := s2.trans s4
      refine q1 p qa (.ref np0) _ (s1.trans s24) hc (SqT.of upd_same) ⟨ta, t, same_sqt s4 hq, ToldAt.same s24 hta, same_sqt (s1.trans s24) hT⟩ ⟨np0, rfl, same_sqt s24 hpr, ?_⟩
      unfold numsK
      rw [fillN_len]
      show (narR _ _ _).length ≤ _
      unfold narR prsOf
      rw [List.length_map, List.length_map]
      omega
end
/-! what is asked of holds -/
def spOr (sp sp' : Sp) : Sp := fun vs H Q E => sp vs H Q E ∨ sp' vs H Q E
theorem fn_or {P : Program} {w : World} {K : PySem.W.Frag} {mg : Str → Option Value} {base : Heap} {CX : CXT} {k : Nat} {f : Addr} {fd : FuncData} {ps : List Str} {sp sp' : Sp} (F : FnOk P w K mg base CX k f fd ps sp) (F' : FnOk P w K mg base CX k f fd ps sp') : FnOk P w K mg base CX k f fd ps (spOr sp sp') :=
  ⟨fun vs H Q E h => h.elim (F.len vs H Q E) (F'.len vs H Q E), fun A outer s H args us vs Q E hr e0 bd r h => h.elim (F.run A outer s H args us vs Q E hr e0 bd r) (F'.run A outer s H args us vs Q E hr e0 bd r)⟩
abbrev H2L (K : PySem.W.Frag) (C : Addr) (word : Str) (val : Lad → Lad → Pap → Bool → Prop) : Sp := spHolds K word 3 (spTwoL K C) (spSh2 K C val)
abbrev H1L (K : PySem.W.Frag) (C : Addr) (word : Str) (val : Lad → Pap → Bool → Prop) : Sp := spHolds K word 2 (spOneL K C) (spSh1 K C val)
abbrev H4L (K : PySem.W.Frag) (C : Addr) (word : Str) (val : Lad → List FKey → FKey → Pap → Bool → Prop) : Sp := spHolds K word 4 (spLCol K C) (spSh4 K C val)
def spHAll (K : PySem.W.Frag) (C : Addr) : Sp := spOr (H2L K C "alike" valA) (spOr (H2L K C "unlike" valU) (spOr (H1L K C "steady" valS) (spOr (H1L K C "drifts" valD) (spOr (H2L K C "tells" valT) (spOr (H2L K C "hides" valH) (spOr (H4L K C "possible" valP) (H4L K C "impossible" valI)))))))
theorem ask2 {K : PySem.W.Frag} {C : Addr} {word : Str} {val : Lad → Lad → Pap → Bool → Prop} {H : Hp} {q : Addr} {A B : Lad} {v : V} {o : Pap} {x : Bool} {Q : VK} {E : XK} (hq : Cl2 K H q word A B) (gA : A.Ok) (gB : B.Ok) (ho : o.At K H v) (ok : o.ok) (hv : ∀ y, val A B o y → y = x) (hQ : ∀ H', Same H H' → Q (.bl x) H') : H2L K C word val [.ref q, v] H Q E := by
  obtain ⟨ta, tb, hq, hA, hB⟩ := hq
  refine ⟨q, v, [.ref ta, .ref tb], rfl, hq, rfl, by show 2 ≤ 900; decide, fun H1 Q' s1 hQ' => ?_⟩
  refine ⟨ta, tb, A, B, rfl, ToldAt.same s1 hA, gA, ToldAt.same s1 hB, gB, fun t p p' H2 s2 hp hp' ht => hQ' _ H2 ⟨t, _, rfl, ht, ?_⟩⟩
  refine ⟨v, p, p', A, B, o, rfl, ho.same (s1.trans s2), ok, hp, hp', gA, gB, fun y H3 s3 hy => ?_⟩
  rw [hv y hy]
  exact hQ H3 ((s1.trans s2).trans s3)
theorem ask1 {K : PySem.W.Frag} {C : Addr} {word : Str} {val : Lad → Pap → Bool → Prop} {H : Hp} {q : Addr} {A : Lad} {v : V} {o : Pap} {x : Bool} {Q : VK} {E : XK} (hq : Cl1 K H q word A) (gA : A.Ok) (ho : o.At K H v) (ok : o.ok) (hv : ∀ y, val A o y → y = x) (hQ : ∀ H', Same H H' → Q (.bl x) H') : H1L K C word val [.ref q, v] H Q E := by
  obtain ⟨ta, hq, hA⟩ := hq
  refine ⟨q, v, [.ref ta], rfl, hq, rfl, by show 1 ≤ 900; decide, fun H1 Q' s1 hQ' => ?_⟩
  refine ⟨ta, A, rfl, ToldAt.same s1 hA, gA, fun t p H2 s2 hp ht => hQ' _ H2 ⟨t, _, rfl, ht, ?_⟩⟩
  refine ⟨v, p, A, o, rfl, ho.same (s1.trans s2), ok, hp, gA, fun y H3 s3 hy => ?_⟩
  rw [hv y hy]
  exact hQ H3 ((s1.trans s2).trans s3)
theorem ask4 {K : PySem.W.Frag} {C : Addr} {word : Str} {val : Lad → List FKey → FKey → Pap → Bool → Prop} {H : Hp} {q : Addr} {A : Lad} {ks : List FKey} {k : FKey} {v : V} {o : Pap} {x : Bool} {Q : VK} {E : XK} (hq : Cl4 K H q word A ks k) (gA : A.Ok) (hlen : ks.length ≤ 12) (hk : ∀ k ∈ ks, KeyOk A.us k) (hkk : KeyOk A.us k) (ho : o.At K H v) (ok : o.ok) (hv : ∀ y, val A ks k o y → y = x) (hQ : ∀ H', Same H H' → Q (.bl x) H') : H4L K C word val [.ref q, v] H Q E := by
  obtain ⟨ta, t, hq, hA, hT⟩ := hq
  refine ⟨q, v, [.ref ta, .ref t, .str (textK A.us A.d k)], rfl, hq, rfl, by show 3 ≤ 900; decide, fun H1 Q' s1 hQ' => ?_⟩
  refine ⟨ta, t, A, ks, k, rfl, ToldAt.same s1 hA, gA, same_sqt s1 hT, hlen, hk, hkk, fun u p H2 s2 hp hu => hQ' _ H2 ⟨u, _, rfl, hu, ?_⟩⟩
  refine ⟨v, p, t, A, ks, k, o, rfl, ho.same (s1.trans s2), ok, hp, gA, same_sqt (s1.trans s2) hT, hlen, hk, hkk, fun y H3 s3 hy => ?_⟩
  rw [hv y hy]
  exact hQ H3 ((s1.trans s2).trans s3)
/-! the answers -/
theorem zs_nil : (Pap.tup []).zs 0 = true := rfl
theorem zs_num (m n : Int) : (Pap.num n).zs m = false := rfl
theorem ansA0 {A B : Lad} (h : Unlike A B none) : ∀ y, valA A B (.tup []) y → y = true := fun y hy => by
  rcases hy with ⟨e, _⟩ | ⟨_, r, hr, rfl⟩
  · cases e
  · rw [unlike_one hr h]
    rfl
theorem ansA1 {A B : Lad} {n : Int} : ∀ y, valA A B (.num n) y → y = false := fun y hy => by
  rcases hy with ⟨_, rfl⟩ | ⟨e, _⟩
  · rfl
  · cases e
theorem ansU0 {A B : Lad} {ns : List Int} : ∀ y, valU A B (.tup ns) y → y = false := fun y hy => by
  rcases hy with ⟨_, rfl⟩ | ⟨n, e, _⟩
  · rfl
  · cases e
theorem ansU1 {A B : Lad} {n : Int} (h : Unlike A B (some n)) : ∀ y, valU A B (.num n) y → y = true := fun y hy => by
  obtain ⟨n0, _, hne, _⟩ := h
  rcases hy with ⟨e, _⟩ | ⟨m, e, _, rfl⟩
  · rw [show (Pap.num n).z = decide (0 ≤ n) from rfl, decide_eq_true n0] at e
    cases e
  · cases e
    rw [decide_eq_false fun z => hne (V.str.inj z)]
    rfl
theorem ansS0 {A : Lad} (h : FirstDrift A.us A.d A.s A.c A.l none) : ∀ y, valS A (.tup []) y → y = true := fun y hy => by
  rcases hy with ⟨e, _⟩ | ⟨_, r, hr, rfl⟩
  · cases e
  · rw [firstDrift_one hr h]
    rfl
theorem ansS1 {A : Lad} {n : Int} : ∀ y, valS A (.num n) y → y = false := fun y hy => by
  rcases hy with ⟨_, rfl⟩ | ⟨e, _⟩
  · rfl
  · cases e
theorem ansD0 {A : Lad} {ns : List Int} : ∀ y, valD A (.tup ns) y → y = false := fun y hy => by
  rcases hy with ⟨_, rfl⟩ | ⟨n, e, _⟩
  · rfl
  · cases e
theorem drift_le {A : Lad} {n : Int} (g : A.Ok) (h : FirstDrift A.us A.d A.s A.c A.l (some n)) : 0 ≤ n ∧ n ≤ 1000000000000000000000 := by
  obtain ⟨p, hp, _, e⟩ := h
  obtain ⟨l1, l2⟩ := lm_shown (c := A.c) g hp.1
  have hp0 : p < A.us.length := by have := hp.1; omega
  have n0 := low_nn (c := A.c) g hp0 (lmM A.us A.d A.s A.c A.l p)
  have h1 := stars_le g (x := startM A.us A.d A.s A.c A.l (p + 1)) (List.mem_map.mpr ⟨p + 1, List.mem_range.mpr hp.1, rfl⟩)
  have h2 : highM A.us A.d A.s A.c A.l p (lmM A.us A.d A.s A.c A.l p) ≤ startM A.us A.d A.s A.c A.l (p + 1) - 1 := by
    unfold highM
    rw [if_pos hp.1]
    unfold min2
    split <;> omega
  omega
theorem ansD1 {A : Lad} {n : Int} (g : A.Ok) (h : FirstDrift A.us A.d A.s A.c A.l (some n)) : ∀ y, valD A (.num n) y → y = true := fun y hy => by
  obtain ⟨n0, n1⟩ := drift_le g h
  have hd := (first_drift g h).2.1
  have hne := (drifts_iff (c := A.c) g n0 (by omega)).mpr hd
  rcases hy with ⟨e, _⟩ | ⟨m, e, _, rfl⟩
  · rw [show (Pap.num n).z = decide (0 ≤ n) from rfl, decide_eq_true n0] at e
    cases e
  · cases e
    rw [decide_eq_false fun z => hne ?_]
    · rfl
    · have z1 : A.placed ((A.placed n).2 * (stepsOf A.us A.d).getD (A.placed n).1 0) = A.placed n := Prod.ext (by have := z.1; omega) z.2
      show shown A.us A.d A.s A.c A.l (worthM A.us A.d A.s A.c A.l n) = shown A.us A.d A.s A.c A.l n
      unfold shown
      rw [show placedM A.us A.d A.s A.c A.l (worthM A.us A.d A.s A.c A.l n) = placedM A.us A.d A.s A.c A.l n from z1]
theorem untold_one {A B : Lad} {r r' : Option Int} (h : Untold A B r) (h' : Untold A B r') : r = r' := by
  cases r with
  | none =>
    cases r' with
    | none => rfl
    | some m => exact absurd (h m h'.1 h'.2.2.1) h'.2.2.2.1
  | some n =>
    cases r' with
    | none => exact absurd (h' n h.1 h.2.2.1) h.2.2.2.1
    | some m =>
      rcases Int.lt_trichotomy n m with y | y | y
      · exact absurd (h'.2.2.2.2 n h.1 y h.2.2.1) h.2.2.2.1
      · rw [y]
      · exact absurd (h.2.2.2.2 m h'.1 y h'.2.2.1) h'.2.2.2.1
theorem ansT0 {A B : Lad} (h : Untold A B none) : ∀ y, valT A B (.tup []) y → y = true := fun y hy => by
  rcases hy with ⟨e, _⟩ | ⟨_, r, hr, rfl⟩
  · cases e
  · rw [untold_one hr h]
    rfl
theorem ansT1 {A B : Lad} {m n : Int} : ∀ y, valT A B (.tup [m, n]) y → y = false := fun y hy => by
  rcases hy with ⟨_, rfl⟩ | ⟨e, _⟩
  · rfl
  · cases e
theorem ansH0 {A B : Lad} : ∀ y, valH A B (.tup []) y → y = false := fun y hy => by
  rcases hy with ⟨_, rfl⟩ | ⟨m, n, e, _⟩
  · rfl
  · cases e
theorem ansH1 {A B : Lad} {n : Int} (gA : A.Ok) (gB : B.Ok) (h : Untold A B (some n)) : ∀ y, valH A B (.tup [n - 1, n]) y → y = true := fun y hy => by
  obtain ⟨n1, n2, hB, hA, _⟩ := h
  rcases hy with ⟨e, _⟩ | ⟨m, n', e, _, _, rfl⟩
  · have e' : (decide ((2 : Int) = 2) && ([n - 1, n].all fun n => decide (0 ≤ n))) = false := e
    rw [show ([n - 1, n].all fun n => decide (0 ≤ n)) = true from by simp; omega] at e'
    cases e'
  · cases e
    have k1 : A.show (n - 1) = A.show n := (shown_same' gA (by omega) (by omega) (by omega) (by omega)).mpr (Classical.not_not.mp hA)
    have k2 : ¬ B.show (n - 1) = B.show n := fun z => hB ((shown_same' gB (by omega) (by omega) (by omega) (by omega)).mp z)
    rw [decide_eq_true (congrArg V.str k1), decide_eq_false fun z => k2 (V.str.inj z)]
    rfl
theorem high_placedX {us : List (Str × Int)} {d : Nat} {s : Str} {c : Bool} {l n : Int} (g : Good us d s l) (n0 : 0 ≤ n) : highK us d s c l (placedM us d s c l n) ≤ n + 2000000000000000000 := by
  obtain ⟨k1, _, _⟩ := placedM_ok (c := c) g n0
  have h1 := ends_width (c := c) g k1 (placedM us d s c l n).2
  have h2 := (in_range (c := c) g n0 (p := (placedM us d s c l n).1) (m := (placedM us d s c l n).2) rfl).1
  show highM us d s c l (placedM us d s c l n).1 (placedM us d s c l n).2 ≤ _
  omega
theorem ansI0 {A : Lad} {ks : List FKey} {k : FKey} (h : ¬ ColOk A.us A.d A.s A.c A.l ks (some k)) : ∀ y, valI A ks k (.tup []) y → y = true := fun y hy => by
  rcases hy with ⟨e, _⟩ | ⟨_, h2⟩
  · cases e
  · exact h2.mpr h
theorem ansI1 {A : Lad} {ks : List FKey} {k : FKey} {ns : List Int} (h : ColOk A.us A.d A.s A.c A.l ks (some k)) : ∀ y, valI A ks k (.tup ns) y → y = false := fun y hy => by
  rcases hy with ⟨_, rfl⟩ | ⟨_, h2⟩
  · rfl
  · cases y with
    | false => rfl
    | true => exact absurd h (h2.mp rfl)
theorem ansP0 {A : Lad} {ks : List FKey} {k : FKey} (g : A.Ok) (hk : KeyOk A.us k) (hks : ∀ k ∈ ks, KeyOk A.us k) (h : ¬ ColOk A.us A.d A.s A.c A.l ks (some k)) : ∀ y, valP A ks k (.tup []) y → y = false := fun y hy => by
  rcases hy with ⟨_, rfl⟩ | ⟨ns, e, hl, _, rfl⟩
  · rfl
  · cases e
    have e0 : ks = [] := List.length_eq_zero_iff.mp hl.symm
    subst e0
    have hn := col_none (c := A.c) g hk (ks := []) (fun _ h => nomatch h) (fun _ h => nomatch h) h 0 (Int.le_refl 0) (Int.le_refl 0)
    have hne : ¬ A.show 0 = textK A.us A.d k := fun z => by
      obtain ⟨k1, k2, k3⟩ := placedM_ok (c := A.c) g (Int.le_refl 0)
      obtain ⟨e1, e2⟩ := writ_inj g.u g.d3 k1 hk.1 k2 hk.2.1 (by omega) (by have := hk.2.2; omega) (show writ A.us A.d (placedM A.us A.d A.s A.c A.l 0).1 (placedM A.us A.d A.s A.c A.l 0).2 = writ A.us A.d k.1 k.2 from z)
      exact hn (Prod.ext e1 e2)
    rw [show ([] : List Int).sum = 0 from rfl, decide_eq_false fun z => hne (V.str.inj z), Bool.and_false]
theorem nums_bnd {A : Lad} {ks : List FKey} {k : FKey} (g : A.Ok) (hks : ∀ k ∈ ks, KeyOk A.us k) (hsm : ∀ k ∈ ks, highK A.us A.d A.s A.c A.l k ≤ 5000000000000000000000) (hl : ks.length ≤ 12) (h : ColOk A.us A.d A.s A.c A.l ks (some k)) :
    (∀ n ∈ numsK A.us A.d A.s A.c A.l ks k, 0 ≤ n ∧ n ≤ 5000000000000000000000) ∧ 0 ≤ (numsK A.us A.d A.s A.c A.l ks k).sum ∧ (numsK A.us A.d A.s A.c A.l ks k).sum ≤ 60000000000000000000000 := by
  obtain ⟨h1, h2, h3⟩ := nums_ok h
  have hl' : (numsK A.us A.d A.s A.c A.l ks k).length = ks.length := h1.length
  have hb : ∀ n ∈ numsK A.us A.d A.s A.c A.l ks k, 0 ≤ n ∧ n ≤ 5000000000000000000000 := fun n hn => by
    obtain ⟨i, hi⟩ := List.getElem?_of_mem hn
    obtain ⟨k', hk', hin⟩ := paired_fst h1 hi
    have hm := List.mem_of_getElem? hk'
    have := low_nn (c := A.c) g (hks k' hm).1 k'.2
    have := hsm k' hm
    have e1 : lowK A.us A.d A.s A.c A.l k' = lowM A.us A.d A.s A.c A.l k'.1 k'.2 := rfl
    omega
  refine ⟨hb, sum_nnX fun n hn => (hb n hn).1, ?_⟩
  have : ∀ {ns : List Int}, (∀ n ∈ ns, n ≤ 5000000000000000000000) → ns.sum ≤ (ns.length : Int) * 5000000000000000000000 := fun {ns} h => by
    induction ns with
    | nil => exact Int.le_refl 0
    | cons n r ih =>
      have h1 := h n (List.mem_cons_self ..)
      have h2 := ih fun x hx => h x (List.mem_cons_of_mem _ hx)
      rw [List.sum_cons, List.length_cons]
      omega
  have := this fun n hn => (hb n hn).2
  rw [hl'] at this
  omega
theorem ansP1 {A : Lad} {ks : List FKey} {k : FKey} (g : A.Ok) (hk : KeyOk A.us k) (hks : ∀ k ∈ ks, KeyOk A.us k) (hsm : ∀ k ∈ ks, highK A.us A.d A.s A.c A.l k ≤ 5000000000000000000000) (hl : ks.length ≤ 12) (h : ColOk A.us A.d A.s A.c A.l ks (some k)) :
    (numsK A.us A.d A.s A.c A.l ks k).map A.show = ks.map (textK A.us A.d) ∧ A.show (numsK A.us A.d A.s A.c A.l ks k).sum = textK A.us A.d k ∧ ∀ y, valP A ks k (.tup (numsK A.us A.d A.s A.c A.l ks k)) y → y = true := by
  obtain ⟨hb, hs0, hs1⟩ := nums_bnd g hks hsm hl h
  obtain ⟨h1, h2, h3⟩ := nums_ok h
  have e1 : (numsK A.us A.d A.s A.c A.l ks k).map A.show = ks.map (textK A.us A.d) := by
    refine List.ext_getElem? fun i => ?_
    rw [List.getElem?_map, List.getElem?_map]
    cases hi : (numsK A.us A.d A.s A.c A.l ks k)[i]? with
    | none =>
      have hl' := List.getElem?_eq_none_iff.mp hi
      rw [List.getElem?_eq_none (by have := h1.length; omega)]
      rfl
    | some n =>
      obtain ⟨k', hk', hin⟩ := paired_fst h1 hi
      rw [hk']
      have hm := List.mem_of_getElem? hk'
      exact congrArg some (shown_in (c := A.c) g (hb n (List.mem_of_getElem? hi)).1 (hks k' hm).1 (hks k' hm).2.1 hin.1 hin.2)
  have e2 : A.show (numsK A.us A.d A.s A.c A.l ks k).sum = textK A.us A.d k := by
    have hsl := h.2.2 k rfl
    refine shown_in (c := A.c) g hs0 hk.1 hk.2.1 ?_ ?_
    · rw [h2]
      show lowK A.us A.d A.s A.c A.l k ≤ max2 _ _
      unfold max2
      split <;> omega
    · rw [h2]
      refine Int.le_trans hsl ?_
      show min2 _ _ ≤ highK A.us A.d A.s A.c A.l k
      unfold min2
      split <;> omega
  refine ⟨e1, e2, fun y hy => ?_⟩
  rcases hy with ⟨e, _⟩ | ⟨ns, e, _, _, rfl⟩
  · exfalso
    have e' : (decide (((numsK A.us A.d A.s A.c A.l ks k).length : Int) = ks.length) && ((numsK A.us A.d A.s A.c A.l ks k).all fun n => decide (0 ≤ n))) = false := e
    rw [decide_eq_true (by have := h1.length; omega), List.all_eq_true.mpr fun n hn => decide_eq_true (hb n hn).1] at e'
    cases e'
  · cases e
    rw [decide_eq_true e1, decide_eq_true (congrArg V.str e2)]
    rfl
/-! data -/
def unitsD (us : List (Str × Int)) : List PyData := us.map fun u => .tuple [.str u.1, .int u.2]
def toldD (A : Lad) : PyData := .tuple [.tuple (unitsD A.us), .int (A.d : Int), .str A.s, .bool A.c, .int A.l]
theorem units_dp {K : PySem.W.Frag} {H : Hp} : ∀ {ps : List Addr} {us : List (Str × Int)}, UP K H ps us → DpAll K H (ps.map V.ref) (unitsD us)
  | _, _, .nil => .nil
  | _, _, .cons h t => .cons (.tup h (.cons (.str _) (.cons (.int _) .nil))) (units_dp t)
theorem told_dp {K : PySem.W.Frag} {H : Hp} {r : Addr} {A : Lad} (h : A.Told K H r) : Dp K H (.ref r) (toldD A) := by
  obtain ⟨ua, h1, ps, h2, h3⟩ := h
  exact .tup h1 (.cons (.tup h2 (units_dp h3)) (.cons (.int _) (.cons (.str _) (.cons (.bl _) (.cons (.int _) .nil)))))
theorem units_ok {us : List (Str × Int)} (g : GoodUs us) : plainDs (unitsD us) = true ∧ lenBs (unitsD us) ≤ 600 ∧ PyData.depthAll (unitsD us) ≤ 2 := by
  have hh : ∀ u ∈ us, GoodN u.1 ∧ 1 ≤ u.2 ∧ u.2 ≤ 1000000000000000000 := fun u hu => by
    obtain ⟨i, hi⟩ := List.getElem?_of_mem hu
    obtain ⟨h1, h2, h3, _⟩ := g.each i u hi
    exact ⟨h1, h2, h3⟩
  have hl := g.hi
  have key : ∀ {us : List (Str × Int)}, (∀ u ∈ us, GoodN u.1 ∧ 1 ≤ u.2 ∧ u.2 ≤ 1000000000000000000) → plainDs (unitsD us) = true ∧ lenBs (unitsD us) ≤ 100 * us.length ∧ PyData.depthAll (unitsD us) ≤ 2 := fun {us} h => by
    induction us with
    | nil => exact ⟨by simp [unitsD, plainDs], by simp [unitsD, lenBs], by simp [unitsD, PyData.depthAll]⟩
    | cons u r ih =>
      obtain ⟨i1, i2, i3⟩ := ih fun x hx => h x (List.mem_cons_of_mem _ hx)
      obtain ⟨h1, h2, h3⟩ := h u (List.mem_cons_self ..)
      have e : unitsD (u :: r) = .tuple [.str u.1, .int u.2] :: unitsD r := rfl
      rw [e]
      refine ⟨?_, ?_, ?_⟩
      · simp only [plainDs, plainD, Bool.and_eq_true, Bool.and_true, decide_eq_true_eq, List.all_eq_true]
        exact ⟨⟨fun c hc => of_strOkX h1.2.2.1 c hc, by omega⟩, i1⟩
      · simp only [lenBs, lenB, List.length_cons]
        have := h1.1
        omega
      · simp only [PyData.depthAll, PyData.depth]
        omega
  obtain ⟨k1, k2, k3⟩ := key hh
  exact ⟨k1, by omega, k3⟩
theorem told_ok {A : Lad} (g : A.Ok) : plainD (toldD A) = true ∧ lenB (toldD A) ≤ 1000 ∧ (toldD A).depth ≤ 5 := by
  obtain ⟨u1, u2, u3⟩ := units_ok g.u
  have hs : A.s.length ≤ 4 ∧ plainD (.str A.s) = true := by
    have := g.srt
    simp [sorts] at this
    rcases this with e | e | e | e <;> rw [e] <;> exact ⟨by decide, by decide⟩
  have hd := g.d3
  have h1 := g.l1
  have h2 := g.l2
  unfold toldD
  refine ⟨?_, ?_, ?_⟩
  · have hs2 := hs.2
    simp only [plainDs, plainD, Bool.and_eq_true, Bool.and_true, decide_eq_true_eq] at hs2 ⊢
    exact ⟨u1, by omega, hs2, trivial, by omega⟩
  · simp only [lenBs, lenB]
    have := hs.1
    omega
  · simp only [PyData.depthAll, PyData.depth]
    omega
def papD : Pap → PyData
  | .num n => .int n
  | .tup ns => .tuple (ns.map .int)
theorem ints_dpX {K : PySem.W.Frag} {H : Hp} : ∀ ns : List Int, DpAll K H (ns.map V.int) (ns.map PyData.int)
  | [] => .nil
  | n :: r => .cons (.int n) (ints_dpX r)
theorem pap_dp {K : PySem.W.Frag} {H : Hp} {v : V} {o : Pap} (h : o.At K H v) : Dp K H v (papD o) := by
  cases o with
  | num n => cases h; exact .int n
  | tup ns =>
    obtain ⟨p, rfl, hp, _⟩ := h
    exact .tup hp (ints_dpX ns)
def Pap.small : Pap → Prop
  | .num n => n.natAbs < 10 ^ 40
  | .tup ns => ns.length ≤ 20 ∧ ∀ n ∈ ns, n.natAbs < 10 ^ 40
theorem pap_ok {o : Pap} (h : o.small) : plainD (papD o) = true ∧ lenB (papD o) ≤ 900 ∧ (papD o).depth ≤ 3 := by
  cases o with
  | num n => exact ⟨by simp only [papD, plainD]; exact decide_eq_true h, by simp only [papD, lenB]; omega, by simp only [papD, PyData.depth]; omega⟩
  | tup ns =>
    obtain ⟨h1, h2⟩ := h
    have key : ∀ {ns : List Int}, (∀ n ∈ ns, n.natAbs < 10 ^ 40) → plainDs (ns.map PyData.int) = true ∧ lenBs (ns.map PyData.int) = 43 * ns.length ∧ PyData.depthAll (ns.map PyData.int) ≤ 1 := fun {ns} h => by
      induction ns with
      | nil => exact ⟨by simp [plainDs], by simp [lenBs], by simp [PyData.depthAll]⟩
      | cons n r ih =>
        obtain ⟨i1, i2, i3⟩ := ih fun x hx => h x (List.mem_cons_of_mem _ hx)
        refine ⟨?_, ?_, ?_⟩
        · simp only [List.map_cons, plainDs, plainD, Bool.and_eq_true, decide_eq_true_eq]
          exact ⟨h n (List.mem_cons_self ..), i1⟩
        · simp only [List.map_cons, lenBs, lenB, List.length_cons]
          omega
        · simp only [List.map_cons, PyData.depthAll, PyData.depth]
          omega
    obtain ⟨k1, k2, k3⟩ := key h2
    exact ⟨by simp only [papD, plainD]; exact k1, by simp only [papD, lenB]; omega, by simp only [papD, PyData.depth]; omega⟩
def spPair (K : PySem.W.Frag) (spH : Sp) : Sp := fun vs H Q _ => ∃ (pr cl : Addr) (v : V) (w1 w2 : Str) (xs : List V) (d1 d2 : PyData), vs = [.ref pr, .ref cl, v, .str w2] ∧ Dp K H (.ref pr) (.tuple [d1, d2]) ∧ Dp K H (.ref cl) d1 ∧ Dp K H v d2 ∧
  plainD d1 = true ∧ plainD d2 = true ∧ d1.depth ≤ 60 ∧ d2.depth ≤ 60 ∧ lenB d1 ≤ 10000 ∧ lenB d2 ≤ 10000 ∧ SqT K H cl (.str w1 :: xs) ∧ xs.length ≤ 10 ∧
  (∀ (H1 : Hp) (Q1 : VK), Same H H1 → (∀ H2, Same H1 H2 → Q1 (.bl true) H2) → spH [.ref cl, v] H1 Q1 E0) ∧ (∀ (c2 : Addr) (H1 : Hp) (Q1 : VK), Same H H1 → SqT K H1 c2 (.str w2 :: xs) → (∀ H2, Same H1 H2 → Q1 (.bl false) H2) → spH [.ref c2, v] H1 Q1 E0) ∧
  ∀ H', Same H H' → Q (.bl true) H'
section
variable {P : Program} {w : World} {K : PySem.W.Frag} {mg : Str → Option Value} {base : Heap}
end
end My

namespace My
open PySem PySem.Spec PyProof.Rows L2
/-! ### ladders of one kind -/
/-- the place is settled by where the units start -/
theorem place_by {us us' : List (Str × Int)} {d d' : Nat} {s s' : Str} {c c' : Bool} {l l' x : Int} (g : Good us d s l) (g' : Good us' d' s' l') (x0 : 0 ≤ x)
    (h1 : (placedM us d s c l x).1 < us'.length) (h2 : (placedM us' d' s' c' l' x).1 < us.length)
    (h : ∀ p, p < us.length → p < us'.length → startM us d s c l p = startM us' d' s' c' l' p) : (placedM us d s c l x).1 = (placedM us' d' s' c' l' x).1 := by
  have a1 := (placedM_ok (c := c) g x0).1
  have b1 := (placedM_ok (c := c') g' x0).1
  have p1 := (place_ge (c := c) g x0 a1).mp (Nat.le_refl _)
  have p2 := (place_ge (c := c') g' x0 b1).mp (Nat.le_refl _)
  have q1 := (place_ge (c := c') g' x0 h1).mpr (by rw [← h _ a1 h1]; exact p1)
  have q2 := (place_ge (c := c) g x0 h2).mpr (by rw [h _ h2 b1]; exact p2)
  omega
theorem unlike_is {A X : Lad} {n0 : Int} {r : Option Int} (h : Unlike A X r) (n1 : 0 ≤ n0) (n2 : n0 < 10 ^ 38) (h1 : ∀ x, 0 ≤ x → x < n0 → A.show x = X.show x) (h2 : A.show n0 ≠ X.show n0) : r = some n0 := by
  cases r with
  | none => exact absurd (h n0 n1 n2) h2
  | some n =>
    obtain ⟨m0, m1, hne, hmin⟩ := h
    rcases Int.lt_trichotomy n n0 with y | y | y
    · exact absurd (h1 n m0 y) hne
    · rw [y]
    · exact absurd (hmin n0 n1 y) h2
theorem unlike_not {A X : Lad} {n0 : Int} {r : Option Int} (h : Unlike A X r) (n1 : 0 ≤ n0) (n2 : n0 < 10 ^ 38) (h2 : A.show n0 ≠ X.show n0) : r ≠ none := by
  intro e
  subst e
  exact h2 (h n0 n1 n2)
/-- rounded down, no mark is carried -/
theorem down_same {us : List (Str × Int)} {d : Nat} {l x : Int} {c c' : Bool} (g : Good us d "down" l) (x0 : 0 ≤ x) : shown us d "down" c l x = shown us d "down" c' l x := by
  unfold shown
  rw [placed_down (c := c) g x0, placed_down (c := c') g x0]
/-- with up to two units none is carried either -/
theorem short_same {us : List (Str × Int)} {d : Nat} {s : Str} {l x : Int} {c c' : Bool} (g : Good us d s l) (hl : us.length ≤ 2) (x0 : 0 ≤ x) : shown us d s c l x = shown us d s c' l x := by
  have a1 := (placedM_ok (c := c) g x0).1
  have b1 := (placedM_ok (c := c') g x0).1
  have e := place_by (c := c) (c' := c') g g x0 a1 b1 (fun p hp _ => by
    rcases Nat.lt_or_ge p 1 with y | y
    · have : p = 0 := by omega
      subst this
      unfold startM
      rw [if_pos (.inl rfl), if_pos (.inl rfl)]
    · have : p = 1 := by omega
      subst this
      rw [start_one, start_one])
  unfold shown
  rw [placed_snd us d s c, placed_snd us d s c', e]
theorem ones_good : Good [("one", 1)] 0 "down" 1 := by
  refine ⟨⟨by decide, by decide, fun i u hu => ?_⟩, by decide, fun u hu => by simp at hu, by unfold sorts; simp, by decide, by decide⟩
  cases i with
  | zero =>
    have e : (("one" : Str), (1 : Int)) = u := Option.some.inj hu
    subst e
    exact ⟨good_one, by decide, by decide, .inl ⟨rfl, rfl⟩⟩
  | succ k => simp at hu
theorem ones_chg {c : Bool} {n : Int} (n1 : 1 ≤ n) : Chg [("one", 1)] 0 "down" c 1 n := by
  intro e
  rw [placed_down ones_good (by omega), placed_down ones_good (by omega)] at e
  have hst : ∀ x, 0 ≤ x → stOf [("one", 1)] 0 1 x = 1 := fun x x0 => by
    have hp := place_lt ones_good x0
    have : placeOf [("one", 1)] 1 x = 0 := by
      have : placeOf [("one", 1)] 1 x < 1 := hp
      omega
    unfold stOf
    rw [this]
    rfl
  have e2 := (Prod.mk.inj e).2
  rw [hst _ (by omega), hst _ (by omega), Int.ediv_one, Int.ediv_one] at e2
  omega
/-! near and even -/
theorem near_even {us : List (Str × Int)} {d : Nat} {l x : Int} (g : Good us d "near" l) (g' : Good us d "even" l) (x0 : 0 ≤ x) (x1 : x < 10 ^ 39) {p : Nat} (hp : (placedM us d "near" false l x).1 = p) :
    shown us d "near" false l x ≠ shown us d "even" false l x ↔ 2 * (x % (stepsOf us d).getD p 0) = (stepsOf us d).getD p 0 ∧ x / (stepsOf us d).getD p 0 % 2 = 0 := by
  obtain ⟨a1, a2, a3⟩ := placedM_ok (c := false) g x0
  obtain ⟨b1, b2, b3⟩ := placedM_ok (c := false) g' x0
  have ep : (placedM us d "near" false l x).1 = (placedM us d "even" false l x).1 := place_by (c := false) (c' := false) g g' x0 a1 b1 (fun p _ _ => by
    unfold startM
    rw [if_pos (.inr rfl), if_pos (.inr rfl)])
  have e1 := placed_snd us d "near" false l x
  have e2 := placed_snd us d "even" false l x
  rw [← ep, hp] at e2
  rw [hp] at e1 a1
  rw [← ep, hp] at b1
  obtain ⟨_, st0, _⟩ := steps_ok g a1
  have key : rnd x ((stepsOf us d).getD p 0) "near" ≠ rnd x ((stepsOf us d).getD p 0) "even" ↔ 2 * (x % (stepsOf us d).getD p 0) = (stepsOf us d).getD p 0 ∧ x / (stepsOf us d).getD p 0 % 2 = 0 := by
    generalize (stepsOf us d).getD p 0 = st at st0
    have u1 : goesUp (x / st) (x % st) st "near" = decide (st ≤ 2 * (x % st)) := by
      unfold goesUp
      rw [if_neg (show ¬ ("near" : Str) = "up" by decide), if_pos rfl]
    have u2 : goesUp (x / st) (x % st) st "even" = (decide (st < 2 * (x % st)) || (decide (2 * (x % st) = st) && decide (x / st % 2 = 1))) := by
      unfold goesUp
      rw [if_neg (show ¬ ("even" : Str) = "up" by decide), if_neg (show ¬ ("even" : Str) = "near" by decide), if_pos rfl]
    unfold rnd
    rw [u1, u2]
    by_cases h1 : st < 2 * (x % st)
    · rw [decide_eq_true (show st ≤ 2 * (x % st) by omega), decide_eq_true h1, Bool.true_or]
      simp only [if_true]
      constructor
      · intro k
        exact absurd rfl k
      · intro k
        omega
    · rw [decide_eq_false h1, Bool.false_or]
      by_cases h2 : 2 * (x % st) = st
      · rw [decide_eq_true (show st ≤ 2 * (x % st) by omega), decide_eq_true h2, Bool.true_and, if_pos rfl]
        by_cases h3 : x / st % 2 = 1
        · rw [decide_eq_true h3, if_pos rfl]
          constructor
          · intro k
            exact absurd rfl k
          · intro k
            omega
        · rw [decide_eq_false h3, if_neg Bool.false_ne_true]
          constructor
          · intro k
            exact ⟨h2, by omega⟩
          · intro k
            omega
      · rw [decide_eq_false (show ¬ st ≤ 2 * (x % st) by omega), decide_eq_false h2, Bool.false_and, if_neg Bool.false_ne_true]
        constructor
        · intro k
          exact absurd rfl k
        · intro k
          exact absurd k.1 h2
  rw [← key]
  unfold shown
  rw [← ep, hp, e1, e2]
  constructor
  · intro k e
    rw [e] at k
    exact k rfl
  · intro k e
    have := writ_inj g.u g.d3 a1 a1 (by rw [← e1]; exact a2) (by rw [← e2]; exact b2) (by rw [← e1]; omega) (by rw [← e2]; omega) e
    exact k this.2
/-- the first half behind a start whose mark is even -/
def halfM (us : List (Str × Int)) (d : Nat) (l : Int) (p : Nat) : Int := (thrsOf us l).getD p 0 + (stepsOf us d).getD p 0 / 2 * (if (thrsOf us l).getD p 0 / (stepsOf us d).getD p 0 % 2 = 0 then 1 else 3)
theorem even_step {us : List (Str × Int)} {d : Nat} {s : Str} {l : Int} (g : Good us d s l) {p : Nat} (h1 : 1 ≤ p) (hp : p < us.length) : (stepsOf us d).getD p 0 % 2 = 0 := by
  obtain ⟨k, rfl⟩ : ∃ k, p = k + 1 := ⟨p - 1, by omega⟩
  have hu : us[k + 1]? = some us[k + 1] := List.getElem?_eq_getElem hp
  have hd : us[k + 1] ∈ us.drop 1 := List.mem_of_getElem? (i := k) (by rw [List.getElem?_drop, Nat.add_comm 1 k]; exact hu)
  have e1 := g.div _ hd
  rw [step_at h1 hp, szOf_at hu]
  have pw := pow_lo d
  obtain ⟨q, hq⟩ := Int.dvd_of_emod_eq_zero e1
  rw [hq, Int.mul_comm 2 (10 ^ d), Int.mul_assoc, Int.mul_ediv_cancel_left _ (by omega)]
  omega
theorem half_ok {us : List (Str × Int)} {d : Nat} {s : Str} {l : Int} (g : Good us d s l) {p : Nat} (h1 : 1 ≤ p) (hp : p < us.length) : (thrsOf us l).getD p 0 ≤ halfM us d l p ∧ halfM us d l p ≤ (thrsOf us l).getD p 0 + 2000000000000000000 ∧
    2 * (halfM us d l p % (stepsOf us d).getD p 0) = (stepsOf us d).getD p 0 ∧ halfM us d l p / (stepsOf us d).getD p 0 % 2 = 0 ∧
    ∀ x, (thrsOf us l).getD p 0 ≤ x → 2 * (x % (stepsOf us d).getD p 0) = (stepsOf us d).getD p 0 → x / (stepsOf us d).getD p 0 % 2 = 0 → halfM us d l p ≤ x := by
  have ev := even_step g h1 hp
  obtain ⟨_, st0, st1⟩ := steps_ok g hp
  obtain ⟨ef, f0⟩ := thr_fm g hp
  have eb : (thrsOf us l).getD p 0 / (stepsOf us d).getD p 0 = fmM us d l p := rfl
  unfold halfM
  rw [eb]
  rw [ef]
  generalize fmM us d l p = f at f0
  generalize (stepsOf us d).getD p 0 = st at ev st0 st1
  obtain ⟨h, rfl⟩ : ∃ h, st = 2 * h := ⟨st / 2, by omega⟩
  have eh : 2 * h / 2 = h := by omega
  rw [eh]
  have hh : 0 < h := by omega
  have md : ∀ k : Int, (k * (2 * h) + h) % (2 * h) = h ∧ (k * (2 * h) + h) / (2 * h) = k := fun k => by
    have e1 : (k * (2 * h) + h) % (2 * h) = h := by
      rw [Int.add_comm, Int.add_mul_emod_self_right]
      exact Int.emod_eq_of_lt (by omega) (by omega)
    refine ⟨e1, ?_⟩
    have := Int.mul_ediv_add_emod (k * (2 * h) + h) (2 * h)
    rw [e1] at this
    have h3 : (2 * h) * ((k * (2 * h) + h) / (2 * h)) = (2 * h) * k := by rw [Int.mul_comm (2 * h) k]; omega
    exact Int.eq_of_mul_eq_mul_left (by omega) h3
  have low : ∀ x, f * (2 * h) ≤ x → 2 * (x % (2 * h)) = 2 * h → x / (2 * h) % 2 = 0 → ∃ k, f ≤ k ∧ k % 2 = 0 ∧ x = k * (2 * h) + h := fun x hx h2 h3 => by
    have := Int.mul_ediv_add_emod x (2 * h)
    refine ⟨x / (2 * h), (Int.le_ediv_iff_mul_le (by omega)).mpr hx, h3, ?_⟩
    rw [Int.mul_comm (x / (2 * h))]
    omega
  have big : ∀ k k' : Int, k ≤ k' → k * (2 * h) ≤ k' * (2 * h) := fun k k' e => Int.mul_le_mul_of_nonneg_right e (by omega)
  split
  · rename_i z
    rw [Int.mul_one]
    obtain ⟨m1, m2⟩ := md f
    rw [m1, m2]
    refine ⟨by omega, by omega, rfl, z, fun x hx h2 h3 => ?_⟩
    obtain ⟨k, k1, _, rfl⟩ := low x hx h2 h3
    have := big f k k1
    omega
  · rename_i z
    have e3 : f * (2 * h) + h * 3 = (f + 1) * (2 * h) + h := by
      rw [Int.add_mul]
      omega
    rw [e3]
    obtain ⟨m1, m2⟩ := md (f + 1)
    rw [m1, m2]
    have e4 : (f + 1) * (2 * h) = f * (2 * h) + 2 * h := by rw [Int.add_mul, Int.one_mul]
    refine ⟨by omega, by omega, rfl, by omega, fun x hx h2 h3 => ?_⟩
    obtain ⟨k, k1, k2, rfl⟩ := low x hx h2 h3
    have := big (f + 1) k (by omega)
    omega
end My

namespace My
open PySem PySem.Spec PyProof.Rows L2
theorem writ_name {us us' : List (Str × Int)} {d d' p p' : Nat} {m m' : Int} (g : GoodUs us) (g' : GoodUs us') (hp : p < us.length) (hp' : p' < us'.length) (hm : 0 ≤ m) (hm' : 0 ≤ m') (e : writ us d p m = writ us' d' p' m') : (us.getD p ("", 0)).1 = (us'.getD p' ("", 0)).1 := by
  have ea : ahead d p m = ahead d' p' m' := by rw [← writ_ahead g hp hm, ← writ_ahead g' hp' hm', e]
  have wc := writ_codes (us := us) (d := d) (p := p) (m := m)
  have wc' := writ_codes (us := us') (d := d') (p := p') (m := m')
  rw [e, ea, wc'] at wc
  exact (str_ext (List.append_cancel_left wc)).symm
theorem thr_same {us us' : List (Str × Int)} {l : Int} {p : Nat} (hp : p < us.length) (hp' : p < us'.length) (e : szOf us p = szOf us' p) : (thrsOf us l).getD p 0 = (thrsOf us' l).getD p 0 := by
  rcases Nat.eq_zero_or_pos p with z | z
  · subst z
    rfl
  · rw [thr_eq z hp, thr_eq z hp', e]
theorem step_same {us us' : List (Str × Int)} {d p : Nat} (hp : p < us.length) (hp' : p < us'.length) (e : szOf us p = szOf us' p) : (stepsOf us d).getD p 0 = (stepsOf us' d).getD p 0 := by
  rcases Nat.eq_zero_or_pos p with z | z
  · subst z
    rfl
  · rw [step_at z hp, step_at z hp', e]
theorem other_last {us us' : List (Str × Int)} {d : Nat} {s : Str} {c : Bool} {l : Int} (g : Good us d s l) (g' : Good us' d s l) (hl : 2 ≤ us.length) (hl1 : us.length - 1 ≤ us'.length) (hl2 : us'.length ≤ us.length)
    (hsz : ∀ p, p < us.length → p < us'.length → szOf us p = szOf us' p) (hnm : ∀ p, p + 1 < us.length → (us.getD p ("", 0)).1 = (us'.getD p ("", 0)).1) (hdf : ∀ p, p < us'.length → (us.getD (us.length - 1) ("", 0)).1 ≠ (us'.getD p ("", 0)).1)
    {r : Option Int} (h : Unlike ⟨us, d, s, c, l⟩ ⟨us', d, s, c, l⟩ r) : r = some (startM us d s c l (us.length - 1)) := by
  have hlt : us.length - 1 < us.length := by omega
  have n0 := start_nn (c := c) g hlt
  have n1 := start_le_thr (c := c) g hlt
  have hst : ∀ p, p < us.length → p < us'.length → startM us d s c l p = startM us' d s c l p := fun p h1 h2 => by
    unfold startM
    rcases Nat.eq_zero_or_pos p with z | z
    · subst z
      rfl
    · rw [thr_same h1 h2 (hsz p h1 h2), step_same (d := d) (show p - 1 < us.length by omega) (show p - 1 < us'.length by omega) (hsz _ (by omega) (by omega))]
  refine unlike_is h n0 ?_ (fun x x0 x1 => ?_) ?_
  · have := thr_fm g hlt
    have hz := last_sz_pos g.u hlt
    rw [thr_eq (show 1 ≤ us.length - 1 by omega) hlt] at n1
    have h2 := g.l2
    have h1 := g.l1
    have : szOf us (us.length - 1) * l ≤ 1000000000000000000 * 1000 := Int.mul_le_mul hz.2 h2 (by omega) (by decide)
    omega
  · obtain ⟨a1, a2, a3⟩ := placedM_ok (c := c) g x0
    obtain ⟨b1, b2, b3⟩ := placedM_ok (c := c) g' x0
    have hp : (placedM us d s c l x).1 < us.length - 1 := by
      rcases Nat.lt_or_ge (placedM us d s c l x).1 (us.length - 1) with y | y
      · exact y
      · have := (place_ge (c := c) g x0 hlt).mp y
        omega
    have ep := place_by (c := c) (c' := c) g g' x0 (by omega) (by omega) hst
    show shown us d s c l x = shown us' d s c l x
    unfold shown
    rw [placed_snd us d, placed_snd us' d, ← ep, step_same (d := d) a1 (by omega) (hsz _ a1 (by omega))]
    unfold writ
    rw [hnm _ (by omega)]
  · obtain ⟨b1, b2, b3⟩ := placedM_ok (c := c) g' n0
    obtain ⟨a1, a2, a3⟩ := placedM_ok (c := c) g n0
    have ps := placed_start (c := c) g hlt
    intro e
    have e' : writ us d (placedM us d s c l (startM us d s c l (us.length - 1))).1 (placedM us d s c l (startM us d s c l (us.length - 1))).2 = writ us' d (placedM us' d s c l (startM us d s c l (us.length - 1))).1 (placedM us' d s c l (startM us d s c l (us.length - 1))).2 := e
    have := writ_name g.u g'.u a1 b1 a2 b2 e'
    rw [ps] at this
    exact hdf _ b1 this
theorem low_start {us : List (Str × Int)} {d : Nat} {s : Str} {c : Bool} {l : Int} (g : Good us d s l) {p : Nat} (hp : p < us.length) : lowM us d s c l p (fmM us d l p) = startM us d s c l p := by
  have n0 := start_nn (c := c) g hp
  have ps := placed_start (c := c) g hp
  have hin := in_range (c := c) g n0 ps
  have f0 := (thr_fm g hp).2
  have l0 := low_nn (c := c) g hp (fmM us d l p)
  have lp := low_place (c := c) g hp f0 (by omega)
  have := (place_ge (c := c) g l0 hp).mp (by rw [lp]; exact Nat.le_refl p)
  omega
/-! the ladders with another last unit, and without it -/
def oddUs (us : List (Str × Int)) : List (Str × Int) := us.take (us.length - 1) ++ [(("odd" : Str), szOf us (us.length - 1))]
theorem odd_len {us : List (Str × Int)} (h : 1 ≤ us.length) : (oddUs us).length = us.length := by
  unfold oddUs
  rw [List.length_append, List.length_take]
  show min (us.length - 1) us.length + 1 = _
  omega
theorem less_good {us : List (Str × Int)} {d : Nat} {s : Str} {l : Int} (g : Good us d s l) (h2 : 2 ≤ us.length) : Good (us.take (us.length - 1)) d s l :=
  ⟨((⟨g.u.hi, g.u.each⟩ : GU us).take _).good (by rw [List.length_take]; omega), g.d3, fun u hu => g.div u (by
      rw [List.drop_take] at hu
      exact List.mem_of_mem_take hu), g.srt, g.l1, g.l2⟩
theorem good_odd : GoodN ("odd" : Str) := ⟨by decide +kernel, by decide +kernel, by decide +kernel, by decide +kernel⟩
theorem odd_good {us : List (Str × Int)} {d : Nat} {s : Str} {l : Int} (g : Good us d s l) (h2 : 2 ≤ us.length) (hn : ∀ u ∈ us, u.1 ≠ "odd") : Good (oddUs us) d s l := by
  have gl := less_good g h2
  have hlt : us.length - 1 < us.length := by omega
  have hul : us[us.length - 1]? = some us[us.length - 1] := List.getElem?_eq_getElem hlt
  obtain ⟨n1, n2, n3, n4⟩ := g.u.each _ _ hul
  have el2 : (us.take (us.length - 1)).length = us.length - 1 := by rw [List.length_take]; omega
  have ez : szOf us (us.length - 1) = us[us.length - 1].2 := szOf_at hul
  unfold oddUs
  rw [ez]
  have h6 := g.u.hi
  refine ⟨((⟨gl.u.hi, gl.u.each⟩ : GU (us.take (us.length - 1))).snoc (u := ("odd", us[us.length - 1].2)) (by rw [el2]; omega) good_odd n2 n3 ?_).good (by rw [List.length_append]; show 1 ≤ _ + 1; omega), g.d3, fun u hu => ?_, g.srt, g.l1, g.l2⟩
  · rcases n4 with ⟨e0, _⟩ | ⟨lu, m1, m2, m3, m4, m5, m6⟩
    · exfalso
      rw [e0] at el2
      simp at el2
      omega
    · exact .inr ⟨lu, m1, m2, m3, m4, m5, fun v hv => hn v (List.mem_of_mem_take hv)⟩
  · rw [List.drop_append_of_le_length (by rw [el2]; omega)] at hu
    rcases List.mem_append.mp hu with k | k
    · exact gl.div u k
    · have k2 := List.mem_singleton.mp k
      subst k2
      exact g.div us[us.length - 1] (List.mem_of_getElem? (i := us.length - 2) (by rw [List.getElem?_drop, show 1 + (us.length - 2) = us.length - 1 by omega]; exact hul))
theorem take_at {us : List (Str × Int)} {k p : Nat} (h : p < k) : (us.take k).getD p ("", 0) = us.getD p ("", 0) := by
  rw [List.getD_eq_getElem?_getD, List.getD_eq_getElem?_getD, List.getElem?_take, if_pos h]
theorem odd_at {us : List (Str × Int)} {p : Nat} (h : p + 1 < us.length) : (oddUs us).getD p ("", 0) = us.getD p ("", 0) := by
  unfold oddUs
  rw [List.getD_eq_getElem?_getD, List.getElem?_append_left (by rw [List.length_take]; omega), ← List.getD_eq_getElem?_getD, take_at (by omega)]
theorem odd_last {us : List (Str × Int)} (h : 1 ≤ us.length) : (oddUs us).getD (us.length - 1) ("", 0) = (("odd" : Str), szOf us (us.length - 1)) := by
  have el2 : (us.take (us.length - 1)).length = us.length - 1 := by rw [List.length_take]; omega
  unfold oddUs
  rw [List.getD_eq_getElem?_getD, List.getElem?_append_right (by rw [el2]; omega), el2, Nat.sub_self]
  rfl
theorem name_last {us : List (Str × Int)} (g : GoodUs us) (h : 2 ≤ us.length) {p : Nat} (hp : p + 1 < us.length) : (us.getD (us.length - 1) ("", 0)).1 ≠ (us.getD p ("", 0)).1 := by
  have hlt : us.length - 1 < us.length := by omega
  have hul : us[us.length - 1]? = some us[us.length - 1] := List.getElem?_eq_getElem hlt
  have hpl : us[p]? = some us[p] := List.getElem?_eq_getElem (by omega)
  have el2 : (us.take (us.length - 1)).length = us.length - 1 := by rw [List.length_take]; omega
  obtain ⟨_, _, _, n4⟩ := g.each _ _ hul
  rw [name_at hlt, name_at (show p < us.length by omega)]
  rcases n4 with ⟨e0, _⟩ | ⟨lu, m1, m2, m3, m4, m5, m6⟩
  · exfalso
    rw [e0] at el2
    simp at el2
    omega
  · exact fun e => m6 us[p] (List.mem_of_getElem? (i := p) (by rw [List.getElem?_take, if_pos (by omega)]; exact hpl)) e.symm
theorem odd_unlike {us : List (Str × Int)} {d : Nat} {s : Str} {c : Bool} {l : Int} (g : Good us d s l) (h2 : 2 ≤ us.length) (hn : ∀ u ∈ us, u.1 ≠ "odd") {r : Option Int} (h : Unlike ⟨us, d, s, c, l⟩ ⟨oddUs us, d, s, c, l⟩ r) : r = some (startM us d s c l (us.length - 1)) := by
  have el := odd_len (us := us) (by omega)
  have hlt : us.length - 1 < us.length := by omega
  refine other_last g (odd_good g h2 hn) h2 (by rw [el]; omega) (by rw [el]; omega) (fun p h1 _ => ?_) (fun p h1 => by rw [odd_at h1]) (fun p h1 => ?_) h
  · unfold szOf
    rcases Nat.lt_or_ge (p + 1) us.length with y | y
    · rw [odd_at y]
    · have : p = us.length - 1 := by omega
      subst this
      rw [odd_last (by omega)]
      rfl
  · rw [el] at h1
    rcases Nat.lt_or_ge (p + 1) us.length with y | y
    · rw [odd_at y]
      exact name_last g.u h2 y
    · have : p = us.length - 1 := by omega
      subst this
      rw [odd_last (by omega), name_at hlt]
      exact hn _ (List.getElem_mem hlt)
theorem less_unlike {us : List (Str × Int)} {d : Nat} {s : Str} {c : Bool} {l : Int} (g : Good us d s l) (h2 : 2 ≤ us.length) {r : Option Int} (h : Unlike ⟨us, d, s, c, l⟩ ⟨us.take (us.length - 1), d, s, c, l⟩ r) : r = some (startM us d s c l (us.length - 1)) := by
  have el2 : (us.take (us.length - 1)).length = us.length - 1 := by rw [List.length_take]; omega
  refine other_last g (less_good g h2) h2 (by rw [el2]; omega) (by rw [el2]; omega) (fun p h1 h3 => ?_) (fun p h1 => by rw [take_at (by omega)]) (fun p h1 => ?_) h
  · unfold szOf
    rw [take_at (by omega)]
  · rw [el2] at h1
    rw [take_at h1]
    exact name_last g.u h2 (by omega)
/-- near and even: the first difference -/
theorem near_first {us : List (Str × Int)} {d : Nat} {l : Int} (g : Good us d "near" l) (g' : Good us d "even" l) (h2 : 2 ≤ us.length) {r : Option Int} (h : Unlike ⟨us, d, "near", false, l⟩ ⟨us, d, "even", false, l⟩ r) : r ≠ none ∧ ((us.length = 2 ∨ halfM us d l 1 < (thrsOf us l).getD 2 0) → r = some (halfM us d l 1)) := by
  have thrb : ∀ p, 1 ≤ p → p < us.length → 0 ≤ (thrsOf us l).getD p 0 ∧ (thrsOf us l).getD p 0 ≤ 1000000000000000000000 := fun p h1 hp => by
    have hz := last_sz_pos g.u hp
    rw [thr_eq h1 hp]
    have k2 := g.l2
    have k1 := g.l1
    have : szOf us p * l ≤ 1000000000000000000 * 1000 := Int.mul_le_mul hz.2 k2 (by omega) (by decide)
    exact ⟨Int.mul_nonneg (by omega) (by omega), by omega⟩
  have pg : ∀ x p, 0 ≤ x → p < us.length → (p ≤ (placedM us d "near" false l x).1 ↔ (thrsOf us l).getD p 0 ≤ x) := fun x p x0 hp => by
    have := place_ge (c := false) g x0 hp
    rw [this]
    unfold startM
    rw [if_pos (.inr rfl)]
  have at_ : ∀ p, 1 ≤ p → p < us.length → (placedM us d "near" false l (halfM us d l p)).1 = p → shown us d "near" false l (halfM us d l p) ≠ shown us d "even" false l (halfM us d l p) ∧ 0 ≤ halfM us d l p ∧ halfM us d l p < 10 ^ 38 := fun p h1 hp e => by
    obtain ⟨k1, k2, k3, k4, _⟩ := half_ok g h1 hp
    have := thrb p h1 hp
    exact ⟨(near_even g g' (by omega) (by omega) e).mpr ⟨k3, k4⟩, by omega, by omega⟩
  refine ⟨?_, fun hc => ?_⟩
  · have hlt : us.length - 1 < us.length := by omega
    obtain ⟨k1, _⟩ := half_ok g (show 1 ≤ us.length - 1 by omega) hlt
    have tb := thrb _ (show 1 ≤ us.length - 1 by omega) hlt
    have e1 := (pg _ _ (show 0 ≤ halfM us d l (us.length - 1) by omega) hlt).mpr k1
    have e2 := (placedM_ok (c := false) g (show 0 ≤ halfM us d l (us.length - 1) by omega)).1
    obtain ⟨q1, q2, q3⟩ := at_ _ (by omega) hlt (by omega)
    exact unlike_not h q2 q3 q1
  · have hlt : 1 < us.length := by omega
    obtain ⟨k1, k2, k3, k4, k5⟩ := half_ok g (Nat.le_refl 1) hlt
    have tb := thrb _ (Nat.le_refl 1) hlt
    have below2 : ∀ x, 0 ≤ x → x ≤ halfM us d l 1 → (placedM us d "near" false l x).1 ≤ 1 := fun x x0 x1 => by
      have hpl := (placedM_ok (c := false) g x0).1
      rcases Nat.lt_or_ge (placedM us d "near" false l x).1 2 with y | y
      · omega
      · rcases hc with z | z
        · omega
        · have := (pg x 2 x0 (by omega)).mp y
          omega
    have e1 := (pg _ _ (show 0 ≤ halfM us d l 1 by omega) hlt).mpr k1
    have e2 := below2 (halfM us d l 1) (by omega) (Int.le_refl _)
    obtain ⟨q1, q2, q3⟩ := at_ _ (Nat.le_refl 1) hlt (by omega)
    refine unlike_is h q2 q3 (fun x x0 x1 => ?_) q1
    refine Classical.byContradiction fun w => ?_
    have b1 := below2 x x0 (by omega)
    rcases Nat.eq_zero_or_pos (placedM us d "near" false l x).1 with z | z
    · have := ((near_even g g' x0 (by omega) z).mp w).1
      rw [step_zero, Int.emod_one] at this
      omega
    · have z1 : (placedM us d "near" false l x).1 = 1 := by omega
      obtain ⟨w1, w2⟩ := (near_even g g' x0 (by omega) z1).mp w
      have := k5 x ((pg x 1 x0 hlt).mp (by omega)) w1 w2
      omega
end My

namespace My
open PySem PySem.Spec PyProof.Rows L2
theorem lastPl {us : List (Str × Int)} {d : Nat} {s : Str} {c : Bool} {l x : Int} (g : Good us d s l) (x0 : 0 ≤ x) (hx : (thrsOf us l).getD (us.length - 1) 0 ≤ x) : (placedM us d s c l x).1 = us.length - 1 := by
  have hlo := g.u.lo
  have hlt : us.length - 1 < us.length := by omega
  have h1 := (place_ge (c := c) g x0 hlt).mpr (Int.le_trans (start_le_thr (c := c) g hlt) hx)
  have h2 := (placedM_ok (c := c) g x0).1
  omega
theorem thr_le {us : List (Str × Int)} {d : Nat} {s : Str} {l : Int} (g : Good us d s l) {p : Nat} (hp : p < us.length) : (thrsOf us l).getD p 0 ≤ 1000000000000000000000 := by
  rcases Nat.eq_zero_or_pos p with z | z
  · subst z
    show (0 : Int) ≤ _
    decide
  · rw [thr_eq z hp]
    have b1 := last_sz_pos g.u hp
    have b2 := g.l1
    have b3 := g.l2
    have : szOf us p * l ≤ 1000000000000000000 * 1000 := Int.mul_le_mul b1.2 b3 (by omega) (by decide)
    omega
theorem zero_unlike {us : List (Str × Int)} {d : Nat} {s : Str} {c : Bool} {l : Int} (g : Good us d s l) (g' : Good us 0 s l) (h2 : 2 ≤ us.length) (hd : 1 ≤ d) (h : Unlike ⟨us, d, s, c, l⟩ ⟨us, 0, s, c, l⟩ none) : False := by
  have hlt : us.length - 1 < us.length := by omega
  have ht := thr_le g hlt
  have e := h 1000000000000000000000 (by decide) (by decide)
  obtain ⟨a1, a2, a3⟩ := placedM_ok (c := c) g (show (0 : Int) ≤ 1000000000000000000000 by decide)
  obtain ⟨b1, b2, b3⟩ := placedM_ok (c := c) g' (show (0 : Int) ≤ 1000000000000000000000 by decide)
  have p1 := lastPl (c := c) g (show (0 : Int) ≤ 1000000000000000000000 by decide) ht
  have p2 := lastPl (c := c) g' (show (0 : Int) ≤ 1000000000000000000000 by decide) ht
  have e' : writ us d (placedM us d s c l 1000000000000000000000).1 (placedM us d s c l 1000000000000000000000).2 = writ us 0 (placedM us 0 s c l 1000000000000000000000).1 (placedM us 0 s c l 1000000000000000000000).2 := e
  rw [p1, p2] at e'
  generalize (placedM us d s c l 1000000000000000000000).2 = m at e' a2
  generalize (placedM us 0 s c l 1000000000000000000000).2 = m' at e' b2
  unfold writ at e'
  rw [if_neg (by omega), if_pos (.inr rfl)] at e'
  have e2 := congrArg (fun z : Str => z.cps.toList) e'
  simp only [str_app, List.toList_toArray] at e2
  have e3 : body d m = dg m' := List.append_cancel_right e2
  have h46 : 46 ∈ body d m := by
    unfold body
    exact List.mem_append.mpr (.inr (List.mem_cons_self ..))
  rw [e3] at h46
  have := dg_digits b2 46 h46
  omega
theorem double_unlike {us : List (Str × Int)} {d : Nat} {s : Str} {c : Bool} {l : Int} (g : Good us d s l) (g' : Good (us.take (us.length - 1) ++ [((us.getD (us.length - 1) ("", 0)).1, 2 * (us.getD (us.length - 1) ("", 0)).2)]) d s l) (h2 : 2 ≤ us.length)
    (h : Unlike ⟨us, d, s, c, l⟩ ⟨us.take (us.length - 1) ++ [((us.getD (us.length - 1) ("", 0)).1, 2 * (us.getD (us.length - 1) ("", 0)).2)], d, s, c, l⟩ none) : False := by
  have hlt : us.length - 1 < us.length := by omega
  obtain ⟨us', hus⟩ : ∃ us', us' = us.take (us.length - 1) ++ [((us.getD (us.length - 1) ("", 0)).1, 2 * (us.getD (us.length - 1) ("", 0)).2)] := ⟨_, rfl⟩
  rw [← hus] at g' h
  have elen : us'.length = us.length := by rw [hus, List.length_append, List.length_take]; show min _ _ + 1 = _; omega
  have hlt' : us.length - 1 < us'.length := by omega
  have eget : us'.getD (us.length - 1) ("", 0) = ((us.getD (us.length - 1) ("", 0)).1, 2 * (us.getD (us.length - 1) ("", 0)).2) := by
    rw [hus, List.getD_eq_getElem?_getD, List.getElem?_append_right (by rw [List.length_take]; omega), List.length_take, show us.length - 1 - min (us.length - 1) us.length = 0 by omega]
    rfl
  have es : szOf us' (us.length - 1) = 2 * szOf us (us.length - 1) := by
    unfold szOf
    rw [eget]
  have hsz := last_sz_pos g.u hlt
  have hsz' := last_sz_pos g'.u hlt'
  have hdv : szOf us (us.length - 1) % (2 * 10 ^ d) = 0 := by
    have h1 : us[us.length - 1]? = some us[us.length - 1] := List.getElem?_eq_getElem hlt
    have hm : us[us.length - 1] ∈ us.drop 1 := by
      refine List.mem_of_getElem? (i := us.length - 2) ?_
      rw [List.getElem?_drop, show 1 + (us.length - 2) = us.length - 1 by omega]
      exact h1
    rw [szOf_at h1]
    exact g.div _ hm
  obtain ⟨st, hst⟩ : ∃ st, szOf us (us.length - 1) = st * 10 ^ d := by
    refine ⟨szOf us (us.length - 1) / 10 ^ d, ?_⟩
    have hdd : (10 ^ d : Int) ∣ szOf us (us.length - 1) := Int.dvd_trans ⟨2, Int.mul_comm ..⟩ (Int.dvd_of_emod_eq_zero hdv)
    exact (Int.ediv_mul_cancel hdd).symm
  have hp10 : (0 : Int) < 10 ^ d ∧ (10 ^ d : Int) ≤ 1000 := by
    have := g.d3
    match d, this with
    | 0, _ => exact ⟨by decide, by decide⟩
    | 1, _ => exact ⟨by decide, by decide⟩
    | 2, _ => exact ⟨by decide, by decide⟩
    | 3, _ => exact ⟨by decide, by decide⟩
  have st1 : (stepsOf us d).getD (us.length - 1) 0 = st := by
    rw [step_at (by omega) hlt, hst]
    exact Int.mul_ediv_cancel _ (by omega)
  have st2 : (stepsOf us' d).getD (us.length - 1) 0 = 2 * st := by
    rw [step_at (by omega) hlt', es, hst, ← Int.mul_assoc]
    exact Int.mul_ediv_cancel _ (by omega)
  have stp : 0 < st := by
    have := (steps_ok g hlt).2.1
    rw [st1] at this
    exact this
  have sth : st ≤ 1000000000000000000 := by
    have := (steps_ok g hlt).2.2
    rw [st1] at this
    exact this
  have hl1 := g.l1
  have hl2 := g.l2
  have hprod : st * 10 ^ d * l ≤ st * 1000000 := by
    rw [Int.mul_assoc]
    refine Int.mul_le_mul_of_nonneg_left ?_ (by omega)
    have : (10 ^ d : Int) * l ≤ 1000 * 1000 := Int.mul_le_mul hp10.2 hl2 (by omega) (by decide)
    omega
  have t1 : (thrsOf us l).getD (us.length - 1) 0 ≤ 20000000 * st := by
    rw [thr_eq (by omega) hlt, hst]
    omega
  have t2 : (thrsOf us' l).getD (us'.length - 1) 0 ≤ 20000000 * st := by
    rw [elen, thr_eq (by omega) hlt', es, hst, Int.mul_assoc]
    omega
  have x0 : 0 ≤ 20000000 * st := by omega
  have e := h (20000000 * st) x0 (by omega)
  have p1 := lastPl (c := c) g x0 t1
  have p2 := lastPl (c := c) g' x0 t2
  rw [elen] at p2
  have m1 : (placedM us d s c l (20000000 * st)).2 = 20000000 := by
    rw [placed_snd, p1, st1]
    exact rnd_exact stp
  have m2 : (placedM us' d s c l (20000000 * st)).2 = 10000000 := by
    rw [placed_snd, p2, st2, show 20000000 * st = 10000000 * (2 * st) by omega]
    exact rnd_exact (by omega)
  have e' : writ us d (placedM us d s c l (20000000 * st)).1 (placedM us d s c l (20000000 * st)).2 = writ us' d (placedM us' d s c l (20000000 * st)).1 (placedM us' d s c l (20000000 * st)).2 := e
  rw [p1, p2, m1, m2] at e'
  have e2 : writ us' d (us.length - 1) 10000000 = writ us d (us.length - 1) 10000000 := by
    unfold writ
    rw [eget]
  rw [e2] at e'
  have := (writ_inj g.u g.d3 hlt hlt (by decide) (by decide) (by decide) (by decide) e').2
  omega
theorem drift_eq {A B : Lad} (gA : A.Ok) (gB : B.Ok) (h : ∀ x, 0 ≤ x → x ≤ 1000000000000000000000 → (Drifts A.us A.d A.s A.c A.l x ↔ Drifts B.us B.d B.s B.c B.l x)) {r r' : Option Int} (h1 : FirstDrift A.us A.d A.s A.c A.l r) (h2 : FirstDrift B.us B.d B.s B.c B.l r') : r = r' := by
  have k1 := first_drift gA h1
  have k2 := first_drift gB h2
  cases r with
  | none =>
    cases r' with
    | none => rfl
    | some m =>
      have b := drift_le gB h2
      exact absurd ((h m b.1 b.2).mpr k2.2.1) (k1 m)
  | some n =>
    have a := drift_le gA h1
    cases r' with
    | none => exact absurd ((h n a.1 a.2).mp k1.2.1) (k2 n)
    | some m =>
      have b := drift_le gB h2
      rcases Int.lt_trichotomy n m with y | y | y
      · exact absurd ((h n a.1 a.2).mp k1.2.1) (k2.2.2 n a.1 y)
      · rw [y]
      · exact absurd ((h m b.1 b.2).mpr k2.2.1) (k1.2.2 m b.1 y)
theorem near_steady {A B : Lad} (gA : A.Ok) (gB : B.Ok) (hn : NearR A.us A.d B.us B.d) (hs : B.s = A.s ∧ B.c = A.c ∧ B.l = A.l ∨ B.us = A.us ∧ B.d = A.d) (hu : Unlike A B none) {r r' : Option Int} (h1 : FirstDrift A.us A.d A.s A.c A.l r) (h2 : FirstDrift B.us B.d B.s B.c B.l r') : r = r' := by
  obtain ⟨us, d, s, c, l⟩ := A
  obtain ⟨us', d', s', c', l'⟩ := B
  have gA : Good us d s l := gA
  have gB : Good us' d' s' l' := gB
  have hn : NearR us d us' d' := hn
  have hs : s' = s ∧ c' = c ∧ l' = l ∨ us' = us ∧ d' = d := hs
  have h1 : FirstDrift us d s c l r := h1
  have h2 : FirstDrift us' d' s' c' l' r' := h2
  have same : us' = us → d' = d → r = r' := fun e1 e2 => by
    subst e1 e2
    refine drift_eq (A := ⟨us', d', s, c, l⟩) (B := ⟨us', d', s', c', l'⟩) gA gB (fun x x0 x1 => ?_) h1 h2
    show Drifts us' d' s c l x ↔ Drifts us' d' s' c' l' x
    rw [← drifts_iff (c := c) gA x0 (by omega), ← drifts_iff (c := c') gB x0 (by omega)]
    have e := hu x x0 (by omega)
    obtain ⟨a1, a2, a3⟩ := placedM_ok (c := c) gA x0
    obtain ⟨b1, b2, b3⟩ := placedM_ok (c := c') gB x0
    obtain ⟨p1, p2⟩ := writ_inj gA.u gA.d3 a1 b1 a2 b2 (by omega) (by omega) (show writ us' d' (placedM us' d' s c l x).1 (placedM us' d' s c l x).2 = writ us' d' (placedM us' d' s' c' l' x).1 (placedM us' d' s' c' l' x).2 from e)
    have ew : worthM us' d' s' c' l' x = worthM us' d' s c l x := by
      unfold worthM
      rw [p1, p2]
    have wb := steps_ok gA a1
    have w0 : 0 ≤ worthM us' d' s c l x := Int.mul_nonneg a2 (by omega)
    have w1 : worthM us' d' s c l x ≤ x + 1000000000000000000 := by
      show (placedM us' d' s c l x).2 * (stepsOf us' d').getD (placedM us' d' s c l x).1 0 ≤ _
      rw [placed_snd]
      have hw := wb.2
      generalize (stepsOf us' d').getD (placedM us' d' s c l x).1 0 = st at hw
      have hr : rnd x st s ≤ x / st + 1 := by
        unfold rnd
        split <;> omega
      have h3 : rnd x st s * st ≤ (x / st + 1) * st := Int.mul_le_mul_of_nonneg_right hr (by omega)
      have h4 := Int.ediv_mul_le x (show st ≠ 0 by omega)
      rw [Int.add_mul, Int.one_mul] at h3
      omega
    rw [ew]
    have ew2 : shown us' d' s c l (worthM us' d' s c l x) = shown us' d' s' c' l' (worthM us' d' s c l x) := hu _ w0 (by omega)
    rw [ew2, show shown us' d' s c l x = shown us' d' s' c' l' x from e]
  have ssame : (¬ us' = us ∨ ¬ d' = d) → s' = s ∧ c' = c ∧ l' = l := fun w => by
    rcases hs with h | ⟨a, b⟩
    · exact h
    · rcases w with w | w
      · exact absurd a w
      · exact absurd b w
  rcases hn with ⟨e1, e2⟩ | ⟨hl, e2, e1⟩
  · by_cases ed : d' = d
    · exact same e1 ed
    · have e2' : d' = 0 := by
        rcases e2 with h | h
        · exact absurd h ed
        · exact h
      obtain ⟨q1, q2, q3⟩ := ssame (.inr ed)
      have e1 : us' = us := e1
      have hl2 : 2 ≤ us.length ∨ us.length < 2 := by omega
      subst e1 e2' q1 q2 q3
      rcases hl2 with hl | hl
      · exact absurd hu fun z => (zero_unlike gA gB hl (Nat.pos_of_ne_zero fun z => ed z.symm) z).elim
      · cases r with
        | some n => obtain ⟨p, hp, _⟩ := h1; have : p + 1 < us'.length := hp.1; omega
        | none =>
          cases r' with
          | none => rfl
          | some n => obtain ⟨p, hp, _⟩ := h2; have : p + 1 < us'.length := hp.1; omega
  · have hne : ¬ us' = us := fun z => by
      rcases e1 with e1 | e1
      · have := congrArg List.length (e1.symm.trans z)
        rw [List.length_take] at this
        have hl : 2 ≤ us.length := hl
        omega
      · have hl : 2 ≤ us.length := hl
        have k := congrArg (fun (l : List (Str × Int)) => (l.getD (us.length - 1) ("", 0)).2) (e1.symm.trans z)
        have hlt : us.length - 1 < us.length := by omega
        have hz := last_sz_pos gA.u hlt
        have hz' : 1 ≤ (us.getD (us.length - 1) ("", 0)).2 := hz.1
        have k : ((us.take (us.length - 1) ++ [((us.getD (us.length - 1) ("", 0)).1, 2 * (us.getD (us.length - 1) ("", 0)).2)]).getD (us.length - 1) ("", 0)).2 = (us.getD (us.length - 1) ("", 0)).2 := k
        rw [List.getD_eq_getElem?_getD, List.getElem?_append_right (by rw [List.length_take]; omega), List.length_take, show us.length - 1 - min (us.length - 1) us.length = 0 by omega] at k
        have k' : 2 * (us.getD (us.length - 1) ("", 0)).2 = (us.getD (us.length - 1) ("", 0)).2 := k
        omega
    obtain ⟨q1, q2, q3⟩ := ssame (.inl hne)
    have e2 : d' = d := e2
    subst e2 q1 q2 q3
    rcases e1 with e1 | e1
    · have e1 : us' = us.take (us.length - 1) := e1
      subst e1
      have := less_unlike gA hl hu
      cases this
    · have e1 : us' = us.take (us.length - 1) ++ [((us.getD (us.length - 1) ("", 0)).1, 2 * (us.getD (us.length - 1) ("", 0)).2)] := e1
      subst e1
      exact (double_unlike gA gB hl hu).elim
end My

namespace My
open PySem PySem.Spec PyProof.Rows L2
/-! ### the law k50 -/
abbrev sColR50 : Stmt := top 110
abbrev sRight50 : Stmt := top 111
abbrev nColR50 : List Str := ["_law_spring_here", "_law_told_here", "_law_made_here", "_law_tops", "_law_rows_here", "_law_aim", "_law_said", "_law_sheet", "_law_back", "_law_paper_back", "_law_k", "_law_top_here"]
abbrev nRight50 : List Str := ["_law_spring_here", "_law_again", "_law_one", "_law_two", "_law_three", "_law_made_here", "_law_mate", "_law_third", "_law_said", "_law_sheet", "_law_first", "_law_paper_first", "_law_last", "_law_paper_last", "_law_pair"]
theorem scColR50 : FnScope nColR50 ["_law_spring_here", "_law_told_here", "_law_made_here"] (defScope sColR50) := ⟨rfl, rfl, rfl, by decide +kernel, rfl, by decide +kernel, by decide +kernel⟩
theorem scRight50 : FnScope nRight50 ["_law_spring_here"] (defScope sRight50) := ⟨rfl, rfl, rfl, by decide +kernel, rfl, by decide +kernel, by decide +kernel⟩
theorem nil_go {σ : L2.St} {H : Hp} {Q : List V → Hp → Prop} (h : Q [] H) : tNil σ H Q := h
theorem LadAt.butX {K : PySem.W.Frag} {C : Addr} {H H' : Hp} {a p : Addr} {us : List (Str × Int)} {d : Nat} {s : Str} {c : Bool} {l : Int} (hp : Spr H a) (k : But a H H') (h : LadAt K C H p us d s c l) : LadAt K C H' p us d s c l := by
  obtain ⟨dx, ua, t, st, th, h1, h2, h3, h4, h5⟩ := h
  have npa : p ≠ a := by
    obtain ⟨x, y, z, e⟩ := hp
    exact ne_of h1 e (by intro z; cases z)
  exact ⟨dx, ua, t, st, th, k _ _ h1 npa, UA.butS hp k h2, k.sqtS hp h3, k.sqtS hp h4, k.sqtS hp h5⟩
structure CB (K : PySem.W.Frag) (C a : Addr) (H H' : Hp) (r p : Addr) (A : Lad) : Prop where
  b : But a H H'
  s : Spr H' a
  t : A.Told K H' r
  l : A.At K C H' p
theorem CB.go {K : PySem.W.Frag} {C a : Addr} {H H1 H2 : Hp} {r p : Addr} {A : Lad} (x : CB K C a H H1 r p A) (k : But a H1 H2) (s2 : Spr H2 a) : CB K C a H H2 r p A := ⟨x.b.trans k, s2, ToldAt.but x.s k x.t, LadAt.butX x.s k x.l⟩
theorem CB.same {K : PySem.W.Frag} {C a : Addr} {H H1 H2 : Hp} {r p : Addr} {A : Lad} (x : CB K C a H H1 r p A) (k : Same H1 H2) : CB K C a H H2 r p A := ⟨x.b.trans (Same.but k), x.s.same k, ToldAt.same k x.t, LadAt.same k x.l⟩
theorem But.updF {a D : Addr} {H H1 : Hp} {o : HO} (x : But a H H1) (n : H D = none) : But a H (L2.upd H1 D o) := fun b u e h => by
  rw [upd_ne (ne_of_none e n)]
  exact x b u e h
theorem spr_ne {a D : Addr} {H : Hp} (s : Spr H a) (n : H D = none) : a ≠ D := by
  obtain ⟨x, y, z, e⟩ := s
  exact ne_of_none e n
theorem Spr.updF {a D : Addr} {H : Hp} {o : HO} (s : Spr H a) (n : a ≠ D) : Spr (L2.upd H D o) a := by
  obtain ⟨x, y, z, e⟩ := s
  exact ⟨x, y, z, by rw [upd_ne n]; exact e⟩
theorem sqtG {K : PySem.W.Frag} {a t : Addr} {xs : List V} {H H' : Hp} (s : Spr H a) (k : But a H H') (h : SqT K H t xs) : SqT K H' t xs := k.sqtS s h
def okN (n : Int) : Prop := 0 ≤ n ∧ n ≤ 1000000000000000000
theorem key_of {A : Lad} (g : A.Ok) {n : Int} (h0 : 0 ≤ n) (h1 : n ≤ 10000000000000000000) : KeyOk A.us (A.placed n) ∧ highK A.us A.d A.s A.c A.l (A.placed n) ≤ 5000000000000000000000 := by
  obtain ⟨k1, k2, k3⟩ := placedM_ok (c := A.c) g h0
  have := high_placedX (c := A.c) g h0
  exact ⟨⟨k1, k2, by have e : (A.placed n).2 ≤ n + 1 := k3; omega⟩, Int.le_trans this (by omega)⟩
theorem sum_okN : ∀ {ns : List Int}, (∀ n ∈ ns, okN n) → 0 ≤ ns.sum ∧ ns.sum ≤ (ns.length : Int) * 1000000000000000000
  | [], _ => ⟨Int.le_refl 0, Int.le_refl 0⟩
  | n :: r, h => by
    have h1 := h n (List.mem_cons_self ..)
    have h2 := sum_okN (ns := r) fun x hx => h x (List.mem_cons_of_mem _ hx)
    unfold okN at h1
    rw [List.sum_cons, List.length_cons]
    constructor <;> omega
/-! data that can be compared -/
theorem units_lay {us : List (Str × Int)} (g : GoodUs us) : PyData.canLayAll0 (unitsD us) = true := by
  have hh : ∀ u ∈ us, PyData.strOk u.1 = true := fun u hu => by
    obtain ⟨i, hi⟩ := List.getElem?_of_mem hu
    exact (g.each i u hi).1.2.2.1
  clear g
  induction us with
  | nil => simp [unitsD, PyData.canLayAll0]
  | cons u r ih =>
    have e : unitsD (u :: r) = .tuple [.str u.1, .int u.2] :: unitsD r := rfl
    rw [e]
    simp only [PyData.canLayAll0, PyData.canLay0, Bool.and_eq_true, Bool.and_true]
    exact ⟨hh u (List.mem_cons_self ..), ih fun x hx => hh x (List.mem_cons_of_mem _ hx)⟩
theorem told_lay {A : Lad} (g : A.Ok) : (toldD A).canLay0 = true := by
  have hs : PyData.strOk A.s = true := by
    have := g.srt
    simp [sorts] at this
    rcases this with e | e | e | e <;> rw [e] <;> decide +kernel
  unfold toldD
  simp only [PyData.canLayAll0, PyData.canLay0, Bool.and_eq_true, Bool.and_true]
  exact ⟨units_lay g.u, trivial, hs⟩
theorem pap_lay (o : Pap) : (papD o).canLay0 = true := by
  cases o with
  | num n => simp [papD, PyData.canLay0]
  | tup ns =>
    simp only [papD, PyData.canLay0]
    induction ns with
    | nil => simp [PyData.canLayAll0]
    | cons n r ih => simp only [List.map_cons, PyData.canLayAll0, PyData.canLay0, ih, Bool.and_self]
theorem pap_shaped {o : Pap} : SeqAt.shaped (papD o) = true := by
  show ((papD o).canLay0 && decide ((papD o).depth ≤ 64)) = true
  rw [pap_lay, Bool.true_and]
  cases o with
  | num n => simp [papD, PyData.depth]
  | tup ns =>
    have : PyData.depthAll (ns.map PyData.int) ≤ 1 := by
      induction ns with
      | nil => simp [PyData.depthAll]
      | cons n r ih => simp only [List.map_cons, PyData.depthAll, PyData.depth]; omega
    refine decide_eq_true ?_
    simp only [papD, PyData.depth]
    omega
theorem pap_eqv (o : Pap) : PyData.eqv (papD o) (papD o) = true := SeqAt.eqv_refl _ (pap_lay o)
def certD (w : Str) (A B : Lad) (o : Pap) : PyData := .tuple [.tuple [.str w, toldD A, toldD B], papD o]
theorem cert_shaped {w : Str} {A B : Lad} {o : Pap} (hw : PyData.strOk w = true) (gA : A.Ok) (gB : B.Ok) : SeqAt.shaped (certD w A B o) = true ∧ PyData.eqv (certD w A B o) (certD w A B o) = true := by
  have h1 : (certD w A B o).canLay0 = true := by
    unfold certD
    simp only [PyData.canLayAll0, PyData.canLay0, Bool.and_eq_true, Bool.and_true]
    exact ⟨⟨hw, told_lay gA, told_lay gB⟩, pap_lay o⟩
  refine ⟨?_, SeqAt.eqv_refl _ h1⟩
  show ((certD w A B o).canLay0 && decide ((certD w A B o).depth ≤ 64)) = true
  rw [h1, Bool.true_and]
  have t1 := (told_ok gA).2.2
  have t2 := (told_ok gB).2.2
  have t3 : (papD o).depth ≤ 3 := by
    have z : SeqAt.shaped (papD o) = true := pap_shaped
    cases o with
    | num n => simp [papD, PyData.depth]
    | tup ns =>
      have : PyData.depthAll (ns.map PyData.int) ≤ 1 := by
        clear z h1
        induction ns with
        | nil => simp [PyData.depthAll]
        | cons n r ih => simp only [List.map_cons, PyData.depthAll, PyData.depth]; omega
      simp only [papD, PyData.depth]
      omega
  refine decide_eq_true ?_
  unfold certD
  simp only [PyData.depth, PyData.depthAll]
  omega
/-! columns turned about -/
theorem sum_revX (ns : List Int) : ns.reverse.sum = ns.sum := by
  induction ns with
  | nil => rfl
  | cons n r ih =>
    rw [List.reverse_cons, List.sum_append, ih, List.sum_cons, List.sum_cons, List.sum_nil]
    omega
theorem sumLK_revX {A : Lad} (ks : List FKey) : sumLK A.us A.d A.s A.c A.l ks.reverse = sumLK A.us A.d A.s A.c A.l ks := by
  show (((ks.reverse).map _).map _).sum = ((ks.map _).map _).sum
  rw [List.map_reverse, List.map_reverse, sum_revX]
theorem sumHK_revX {A : Lad} (ks : List FKey) : sumHK A.us A.d A.s A.c A.l ks.reverse = sumHK A.us A.d A.s A.c A.l ks := by
  show (((ks.reverse).map _).map _).sum = ((ks.map _).map _).sum
  rw [List.map_reverse, List.map_reverse, sum_revX]
theorem colok_rev {A : Lad} {ks : List FKey} {k : FKey} (h : ColOk A.us A.d A.s A.c A.l ks (some k)) : ColOk A.us A.d A.s A.c A.l ks.reverse (some k) := by
  obtain ⟨h1, h2, h3⟩ := h
  refine ⟨fun x hx => h1 x (List.mem_reverse.mp hx), h2, fun x hx => ?_⟩
  have z := h3 x hx
  cases hx
  have e1 : selL A.us A.d A.s A.c A.l ks.reverse (some k) = selL A.us A.d A.s A.c A.l ks (some k) := by
    show max2 _ _ = max2 _ _
    rw [sumLK_revX]
  have e2 : selH A.us A.d A.s A.c A.l ks.reverse (some k) = selH A.us A.d A.s A.c A.l ks (some k) := by
    show min2 _ _ = min2 _ _
    rw [sumHK_revX]
  rw [e1, e2]
  exact z
theorem ansP_of {A : Lad} {ks : List FKey} {k : FKey} {ns : List Int} (h1 : ns.map A.show = ks.map (textK A.us A.d)) (h2 : A.show ns.sum = textK A.us A.d k) (h0 : ∀ n ∈ ns, 0 ≤ n) : ∀ y, valP A ks k (.tup ns) y → y = true := fun y hy => by
  have hl : ns.length = ks.length := by
    have := congrArg List.length h1
    rw [List.length_map, List.length_map] at this
    exact this
  rcases hy with ⟨e, _⟩ | ⟨ms, e, _, _, rfl⟩
  · exfalso
    have e' : (decide ((ns.length : Int) = ks.length) && (ns.all fun n => decide (0 ≤ n))) = false := e
    rw [decide_eq_true (by omega), List.all_eq_true.mpr fun n hn => decide_eq_true (h0 n hn)] at e'
    cases e'
  · cases e
    rw [decide_eq_true h1, decide_eq_true (congrArg V.str h2)]
    rfl
def colW (b : Bool) : Str := if b then "possible" else "impossible"
def colP (A : Lad) (ks : List FKey) (k : FKey) (b : Bool) : List Int := if b then numsK A.us A.d A.s A.c A.l ks k else []
/-- the certificate of a column, in one -/
def spCertC1 (K : PySem.W.Frag) (C : Addr) : Sp := fun vs H Q _ => ∃ (a t : Addr) (A : Lad) (ks : List FKey) (k : FKey), vs = [.ref a, .ref t, .str (textK A.us A.d k)] ∧ A.At K C H a ∧ A.Ok ∧ SqT K H t (ks.map fun k => V.str (textK A.us A.d k)) ∧ ks.length ≤ 12 ∧ (∀ k ∈ ks, KeyOk A.us k) ∧ KeyOk A.us k ∧
  ∀ (b : Bool) (p q : Addr) (v : V) (H' : Hp), Same H H' → (b = true ↔ ColOk A.us A.d A.s A.c A.l ks (some k)) → SqT K H' p [.ref q, v] → Cl4 K H' q (colW b) A ks k → (Pap.tup (colP A ks k b)).At K H' v → Q (.ref p) H'
structure DBT (K : PySem.W.Frag) (C a : Addr) (H H' : Hp) (r1 r2 r3 p1 p2 p3 : Addr) (A B D : Lad) : Prop where
  b : But a H H'
  s : Spr H' a
  t1 : A.Told K H' r1
  t2 : B.Told K H' r2
  t3 : D.Told K H' r3
  l1 : A.At K C H' p1
  l2 : B.At K C H' p2
  l3 : D.At K C H' p3
theorem DBT.same {K : PySem.W.Frag} {C a : Addr} {H H1 H2 : Hp} {r1 r2 r3 p1 p2 p3 : Addr} {A B D : Lad} (x : DBT K C a H H1 r1 r2 r3 p1 p2 p3 A B D) (k : Same H1 H2) : DBT K C a H H2 r1 r2 r3 p1 p2 p3 A B D :=
  ⟨x.b.trans (Same.but k), x.s.same k, ToldAt.same k x.t1, ToldAt.same k x.t2, ToldAt.same k x.t3, LadAt.same k x.l1, LadAt.same k x.l2, LadAt.same k x.l3⟩
def wd (fd : Option Int) (x y : Str) : Str := match fd with
  | none => x
  | some _ => y
def spColR (K : PySem.W.Frag) (C : Addr) : Sp := fun vs H Q _ => ∃ (a r p : Addr) (A : Lad), vs = [.ref a, .ref r, .ref p] ∧ Spr H a ∧ A.Told K H r ∧ A.At K C H p ∧ A.Ok ∧ ∀ H', But a H H' → Spr H' a → Q (.bl true) H'
section
variable {P : Program} {w : World} {K : PySem.W.Frag} {mg : Str → Option Value} {base : Heap}
theorem ok_colr {C : Addr} (d : Dd K mg "_law_column_right" sColR50 ["_law_spring_here", "_law_told_here", "_law_made_here"]) (dGu : Dd K mg "_law_gulp" sGulp ["_law_spring_here", "_law_many"]) (dSo : Dd K mg "_law_some_of" sSome ["_law_spring_here", "_law_things"]) (dTp : Dd K mg "_law_top" sTop ["_law_spring_here", "_law_told_here"]) (dSe : Dd K mg "_law_seen" sLSeen ["_law_told_here", "_law_top_here"]) (dCC : Dd K mg "certify_column" sCertC ["ladder", "texts", "total"]) (dH : Dd K mg "holds" sHolds ["claim", "paper"])
    (B : Bt mg) (bSum : mg "sum" = none) (GTp : FnOk P w K mg base CX0 4 dTp.f dTp.fd ["_law_spring_here", "_law_told_here"] (spTop K)) (GSe : FnOk P w K mg base CX0 4 dSe.f dSe.fd ["_law_told_here", "_law_top_here"] (spLSeen K)) (GCC0 : FnOk P w K mg base CX0 9 dCC.f dCC.fd ["ladder", "texts", "total"] (spCertC K C))
    (GH : FnOk P w K mg base CX0 10 dH.f dH.fd ["claim", "paper"] (spHAll K C)) : FnOk P w K mg base CX0 11 d.f d.fd ["_law_spring_here", "_law_told_here", "_law_made_here"] (spColR K C) := by
  have GGu : FnOk P w K mg base CX0 2 dGu.f dGu.fd ["_law_spring_here", "_law_many"] spGulp := ok_gulp dGu.F B
  have GSo : FnOk P w K mg base CX0 3 dSo.f dSo.fd ["_law_spring_here", "_law_things"] (spSome K) := ok_some dSo.F dGu.F dGu.b dGu.g B
  have GCC : FnOk P w K mg base CX0 9 dCC.f dCC.fd ["ladder", "texts", "total"] (spCertC1 K C) := GCC0.imp fun vs H Q E h => by
    obtain ⟨a, t, A, ks, k, e, h1, h2, h3, h4, h5, h6, q⟩ := h
    exact ⟨a, t, A, ks, k, e, h1, h2, h3, h4, h5, h6, fun p q0 v H' s hn hp hq hv => q false p q0 v H' s ⟨(fun z => nomatch z), fun z => absurd z hn⟩ hp hq hv, fun p q0 v H' s hc hp hq hv => q true p q0 v H' s ⟨fun _ => hc, fun _ => rfl⟩ hp hq hv⟩
  refine d.F.ok scColR50 (fun vs H Q E h => ?_) (fun cdv A0 outer s H vs Q E hr h => ?_)
  · obtain ⟨_, _, _, _, rfl, _⟩ := h
    rfl
  · obtain ⟨a, r, p, A, rfl, hS, hTo, hL, g, q⟩ := h
    have nd := scColR50.nd
    have hr2 : Room 2 _ := hr.mono (by decide)
    have hr3 : Room 3 _ := hr.mono (by decide)
    have hr4 : Room 4 _ := hr.mono (by decide)
    have hr9 : Room 9 _ := hr.mono (by decide)
    have hr10 := hr
    refine ⟨_, (Evl.pss_cut (ps_setLc (i := 3) (own := [("_law_k", 10)]) (g := gName 10) (tt := tYes) rfl nd rfl rfl (by rfl) (pi_range1 (by rfl) B.range (pa_cons (pe_call GGu hr2 (by rfl) dGu.g dGu.F.kp dGu.b .nil pass0 (pa_cons (pv 0) (pa_cons pe_int pa_nil))) pa_nil)) (blkOk_by (own := [("_law_k", 10)]) (N := nColR50) (sc := defScope sColR50) (by decide +kernel)) (fun _ _ _ _ _ => pg_name (i := 10) nd rfl (Or.inl rfl)) (fun _ _ _ _ _ => pts_nil) (fun _ _ _ _ _ => (pe_call GTp hr4 (by rfl) dTp.g dTp.F.kp dTp.b .nil pass0 (pa_cons (pv 0) (pa_cons (pv 1) pa_nil)))))
  (Evl.pss_cut (ps_set (i := 4) nd rfl (.inl rfl) (pe_tupleOf (by rfl) B.tuple (pe_lc (own := [("_law_top_here", 11)]) (g := gName 11) (tt := tYes) rfl nd (pi_list (pv 3)) (blkOk_by (own := [("_law_top_here", 11)]) (N := nColR50) (sc := defScope sColR50) (by decide +kernel)) (fun _ _ _ _ _ => pg_name (i := 11) nd rfl (Or.inl rfl)) (fun _ _ _ _ _ => pts_nil) (fun _ _ _ _ _ => (pe_call GSe hr4 (by rfl) dSe.g dSe.F.kp dSe.b .nil pass0 (pa_cons (pv 1) (pa_cons (pv 11) pa_nil)))))))
  (Evl.pss_cut (ps_set (i := 5) nd rfl (.inl rfl) (pe_call GSe hr4 (by rfl) dSe.g dSe.F.kp dSe.b .nil pass0 (pa_cons (pv 1) (pa_cons (pe_call GSo hr3 (by rfl) dSo.g dSo.F.kp dSo.b .nil pass0 (pa_cons (pv 0) (pa_cons (pe_lst (pa_cons (pe_callB (cr_sum rfl) (by rfl) bSum (by decide +kernel) (pa_cons (pv 3) pa_nil)) (pa_cons (pe_op op_add (pe_callB (cr_sum rfl) (by rfl) bSum (by decide +kernel) (pa_cons (pv 3) pa_nil)) pe_int) (pa_cons (pe_call GTp hr4 (by rfl) dTp.g dTp.F.kp dTp.b .nil pass0 (pa_cons (pv 0) (pa_cons (pv 1) pa_nil))) pa_nil)))) pa_nil))) pa_nil))))
  (Evl.pss_cut (ps_asg (pe_tup (pa_cons (pe_call GCC hr9 (by rfl) dCC.g dCC.F.kp dCC.b .nil pass0 (pa_cons (pv 2) (pa_cons (pv 4) (pa_cons (pv 5) pa_nil)))) (pa_cons (pe_call GCC hr9 (by rfl) dCC.g dCC.F.kp dCC.b .nil pass0 (pa_cons (pv 2) (pa_cons (MyRV.pe_revT (pv 4)) (pa_cons (pv 5) pa_nil)))) pa_nil))) (pg_tup rfl (pgs_cons (pg_tup rfl (pgs_cons (pg_name (i := 6) nd rfl (Or.inl rfl)) (pgs_cons (pg_name (i := 7) nd rfl (Or.inl rfl)) pgs_nil))) (pgs_cons (pg_tup rfl (pgs_cons (pg_name (i := 8) nd rfl (Or.inl rfl)) (pgs_cons (pg_name (i := 9) nd rfl (Or.inl rfl)) pgs_nil))) pgs_nil))))
  (Evl.pss_cut (ps_if (pt_cmpR op_ne (pe_ix (r := rIxT K) ix_tup (pv 6) pe_int (fun _ _ => rfl)) (pe_ix (r := rIxT K) ix_tup (pv 8) pe_int (fun _ _ => rfl)) (nomark _)) (pss_one (ps_ret pe_bl)) pss_nil)
  (pss_one (ps_ret (pe_and (pe_cmpR op_isBl (pe_call GH hr10 (by rfl) dH.g dH.F.kp dH.b .nil pass0 (pa_cons (pv 8) (pa_cons (MyRV.pe_revT (pv 7)) pa_nil))) pe_bl (nomark _)) (pe_one (pe_cmpR op_isBl (pe_call GH hr10 (by rfl) dH.g dH.F.kp dH.b .nil pass0 (pa_cons (pv 6) (pa_cons (MyRV.pe_revT (pv 9)) pa_nil))) pe_bl (nomark _))))))))))), ?_⟩
    have X0 : CB K C a H H r p A := ⟨But.refl _ _, hS, hTo, hL⟩
    -- the drawn numbers
    refine ⟨fun σ' H' => ∃ (W : Addr) (ns : List Int), σ' = [some (.ref a), some (.ref r), some (.ref p), some (.ref W), none, none, none, none, none, none, none, none] ∧ CB K C a H H' r p A ∧ H' W = some (.lst (ns.map V.int)) ∧ ns.length ≤ 5 ∧ (∀ n ∈ ns, okN n), ?_, ?_⟩
    · refine ⟨_, rfl, a, 6, rfl, hS, by decide, by decide, fun k H1 k0 k1 s1 b1 => ?_⟩
      have X1 := X0.go b1 s1
      refine ⟨k, rfl, by omega, by omega, fun D nD => ?_⟩
      have naD := spr_ne s1 nD
      refine lc_range (lo := 0) (n := k.toNat) (fun i H' => ∃ ns : List Int, But a H1 H' ∧ Spr H' a ∧ H' D = some (.lst (ns.map V.int)) ∧ ns.length = i ∧ ∀ n ∈ ns, okN n) ⟨[], (But.refl a H1).updF nD, s1.updF naD, upd_same, rfl, fun _ h => nomatch h⟩ ?_ ?_
      · rintro i H2 hi ⟨ns, b2, s2, hD, hl, hn⟩
        have X2 := X1.go b2 s2
        refine ⟨rfl, _, rfl, _, rfl, a, r, A.us, A.d, A.s, A.c, A.l, rfl, s2, X2.t, g, fun n H3 n0 n1 b3 s3 => ⟨_, b3 _ _ hD naD.symm, ?_, ns ++ [n], ?_, s3.updF naD, ?_, ?_, ?_⟩⟩
        · rw [List.length_map]
          exact Nat.lt_of_lt_of_le (show ns.length < 10 by omega) (by decide)
        · exact (b2.trans b3).updF nD
        · rw [upd_same, List.map_append]
          rfl
        · rw [List.length_append, hl]
          rfl
        · intro x hx
          rcases List.mem_append.mp hx with hx | hx
          · exact hn x hx
          · rw [List.mem_singleton.mp hx]
            exact ⟨n0, n1⟩
      · rintro H2 ⟨ns, b2, s2, hD, hl, hn⟩
        exact ⟨D, ns, rfl, X1.go b2 s2, hD, by omega, hn⟩
    rintro σ' H1 ⟨W, ns, rfl, X1, hW, hnl, hns⟩
    -- the rows
    have hks : ∀ k ∈ ns.map A.placed, KeyOk A.us k ∧ highK A.us A.d A.s A.c A.l k ≤ 5000000000000000000000 := fun k hk => by
      obtain ⟨n, hn, rfl⟩ := List.mem_map.mp hk
      have := hns n hn
      unfold okN at this
      exact key_of g this.1 (by omega)
    have hkl : (ns.map A.placed).length ≤ 12 := by rw [List.length_map]; omega
    have hsum := sum_okN hns
    refine ⟨fun σ' H' => ∃ R : Addr, σ' = [some (.ref a), some (.ref r), some (.ref p), some (.ref W), some (.ref R), none, none, none, none, none, none, none] ∧ CB K C a H H' r p A ∧ H' W = some (.lst (ns.map V.int)) ∧ SqT K H' R ((ns.map A.placed).map fun k => V.str (textK A.us A.d k)), ?_, ?_⟩
    · refine ⟨_, rfl, W, rfl, ⟨_, SqL.of hW⟩, fun D nD => ?_⟩
      refine lc_list (K := K) (a := W) (xs := ns.map V.int) (fun i H' => Same H1 H' ∧ H' D = some (.lst (((ns.take i).map A.placed).map fun k => V.str (textK A.us A.d k)))) ⟨same_upd nD, upd_same⟩ (fun i H' _ h => SqL.of (h.1 _ _ hW)) ?_ ?_
      · rintro i x H2 hi ⟨sm, hD⟩
        rw [List.getElem?_map] at hi
        cases hy : ns[i]? with
        | none => rw [hy] at hi; cases hi
        | some y =>
          rw [hy] at hi
          cases hi
          have hil := (List.getElem?_eq_some_iff.mp hy).1
          have hyn := hns y (List.mem_of_getElem? hy)
          unfold okN at hyn
          refine ⟨rfl, _, rfl, _, rfl, r, A.us, A.d, A.s, A.c, A.l, y, rfl, (X1.same sm).t, g, hyn.1, by omega, fun H3 s3 => ⟨_, s3 _ _ hD, ?_, fun b o e => ?_, ?_⟩⟩
          · rw [List.length_map, List.length_map, List.length_take]
            exact Nat.lt_of_le_of_lt (Nat.min_le_left _ _) (Nat.lt_of_lt_of_le (show i < 1001 by omega) (by decide))
          · rw [upd_ne (ne_of_none e nD)]
            exact s3 _ _ (sm _ _ e)
          · rw [upd_same, List.take_add_one, hy]
            show _ = some (HO.lst (((ns.take i ++ [y]).map A.placed).map fun k => V.str (textK A.us A.d k)))
            rw [List.map_append, List.map_append]
            rfl
      · rintro H2 ⟨sm, hD⟩
        rw [List.length_map, List.take_of_length_le (Nat.le_refl _)] at hD
        refine .inl ⟨D, _, rfl, SqL.of hD, fun u nu => ?_⟩
        have su := same_upd nu (o := .tup ((ns.map A.placed).map fun k => V.str (textK A.us A.d k)))
        exact ⟨u, rfl, X1.same (sm.trans su), su _ _ (sm _ _ hW), SqT.of upd_same⟩
    rintro σ' H2 ⟨R, rfl, X2, hW2, hR2⟩
    -- the total
    refine ⟨fun σ' H' => ∃ m : Int, σ' = [some (.ref a), some (.ref r), some (.ref p), some (.ref W), some (.ref R), some (.str (A.show m)), none, none, none, none, none, none] ∧ CB K C a H H' r p A ∧ SqT K H' R ((ns.map A.placed).map fun k => V.str (textK A.us A.d k)) ∧ 0 ≤ m ∧ m ≤ 6000000000000000000, ?_, ?_⟩
    · refine ⟨_, rfl, _, rfl, _, rfl, W, ns, rfl, SqL.of hW2, _, rfl, W, ns, rfl, SqL.of hW2, _, 1, rfl, rfl, _, rfl, _, rfl, a, r, A.us, A.d, A.s, A.c, A.l, rfl, X2.s, X2.t, g, fun n H3 n0 n1 b3 s3 => ?_⟩
      have X3 := X2.go b3 s3
      have hR3 := sqtG X2.s b3 hR2
      refine ⟨by show 3 ≤ sizeLine; decide, fun c nc => ?_⟩
      have s4 := same_upd nc (o := .lst [.int ns.sum, .int (ns.sum + 1), .int n])
      refine ⟨a, c, _, rfl, X3.s.same s4, .inl (SqL.of upd_same), (spr_ne X3.s nc).symm, by simp, by show 3 < 1000; decide, fun v H5 hv s5 b5 => ?_⟩
      obtain ⟨m, rfl, m0, m1⟩ : ∃ m : Int, v = .int m ∧ 0 ≤ m ∧ m ≤ 6000000000000000000 := by
        have hv' : v = .int ns.sum ∨ v = .int (ns.sum + 1) ∨ v = .int n := by simpa using hv
        rcases hv' with rfl | rfl | rfl
        · exact ⟨_, rfl, by omega, by omega⟩
        · exact ⟨_, rfl, by omega, by omega⟩
        · exact ⟨_, rfl, by omega, by omega⟩
      have X5 := (X3.same s4).go b5 s5
      have hR5 := sqtG (X3.s.same s4) b5 (same_sqt s4 hR3)
      refine ⟨r, A.us, A.d, A.s, A.c, A.l, m, rfl, X5.t, g, m0, by omega, fun H6 s6 => ?_⟩
      exact ⟨m, rfl, X5.same s6, same_sqt s6 hR5, m0, m1⟩
    rintro σ' H3 ⟨m, rfl, X3, hR3, m0, m1⟩
    obtain ⟨hkk, hkh⟩ := key_of g m0 (show m ≤ 10000000000000000000 by omega)
    have hkA : ∀ k ∈ ns.map A.placed, KeyOk A.us k := fun k hk => (hks k hk).1
    have hkB : ∀ k ∈ ns.map A.placed, highK A.us A.d A.s A.c A.l k ≤ 5000000000000000000000 := fun k hk => (hks k hk).2
    generalize ns.map A.placed = ks at hks hkl hR3 hkA hkB
    have hkl' : ks.reverse.length ≤ 12 := by rw [List.length_reverse]; exact hkl
    have hkA' : ∀ k ∈ ks.reverse, KeyOk A.us k := fun k hk => hkA k (List.mem_reverse.mp hk)
    have hkB' : ∀ k ∈ ks.reverse, highK A.us A.d A.s A.c A.l k ≤ 5000000000000000000000 := fun k hk => hkB k (List.mem_reverse.mp hk)
    -- both certificates
    refine ⟨fun σ' H' => ∃ (b : Bool) (q0 q1 : Addr) (v0 v1 : V), σ' = [some (.ref a), some (.ref r), some (.ref p), some (.ref W), some (.ref R), some (.str (A.show m)), some (.ref q0), some v0, some (.ref q1), some v1, none, none] ∧ Same H3 H' ∧ (b = true ↔ ColOk A.us A.d A.s A.c A.l ks (some (A.placed m))) ∧
      Cl4 K H' q0 (colW b) A ks (A.placed m) ∧ Cl4 K H' q1 (colW b) A ks.reverse (A.placed m) ∧ (Pap.tup (colP A ks (A.placed m) b)).At K H' v0 ∧ (Pap.tup (colP A ks.reverse (A.placed m) b)).At K H' v1, ?_, ?_⟩
    · refine ⟨_, rfl, _, rfl, _, rfl, p, R, A, ks, A.placed m, rfl, X3.l, g, hR3, hkl, hkA, hkk, fun b pr0 q0 v0 H4 s4 hb hp0 hq0 hv0 => ?_⟩
      refine ⟨_, rfl, _, rfl, R, _, rfl, same_sqt s4 hR3, fun R2 nR2 => ?_⟩
      have s5 := same_upd nR2 (o := .tup ((ks.map fun k => V.str (textK A.us A.d k)).reverse))
      have hR2' : SqT K (upd H4 R2 (.tup ((ks.map fun k => V.str (textK A.us A.d k)).reverse))) R2 (ks.reverse.map fun k => V.str (textK A.us A.d k)) := by
        rw [List.map_reverse]
        exact SqT.of upd_same
      generalize upd H4 R2 (.tup ((ks.map fun k => V.str (textK A.us A.d k)).reverse)) = H5 at s5 hR2' ⊢
      refine ⟨_, rfl, p, R2, A, ks.reverse, A.placed m, rfl, LadAt.same (s4.trans s5) X3.l, g, hR2', hkl', hkA', hkk, fun b' pr1 q1 v1 H6 s6 hb' hp1 hq1 hv1 => ?_⟩
      have ebb : b' = b := by
        rw [Bool.eq_iff_iff, hb, hb']
        exact ⟨fun z => by have := colok_rev z; rw [List.reverse_reverse] at this; exact this, colok_rev⟩
      subst ebb
      refine ⟨by show 2 ≤ sizeLine; decide, fun T nT => ?_⟩
      have s7 := same_upd nT (o := .tup [.ref pr0, .ref pr1])
      have s47 := (s5.trans s6).trans s7
      refine ⟨T, _, rfl, SqT.of upd_same, rfl, _, _, rfl, ⟨pr0, _, rfl, same_sqt s47 hp0, rfl, _, _, rfl, _, _, rfl, rfl, _, _, rfl, ⟨pr1, _, rfl, same_sqt s7 hp1, rfl, _, _, rfl, _, _, rfl, rfl, rfl, ?_⟩⟩⟩
      obtain ⟨tA, tB, z1, z2, z3⟩ := hq0
      obtain ⟨tA', tB', z1', z2', z3'⟩ := hq1
      exact ⟨b', q0, q1, v0, v1, rfl, s4.trans s47, hb, ⟨tA, tB, same_sqt s47 z1, ToldAt.same s47 z2, same_sqt s47 z3⟩, ⟨tA', tB', same_sqt s7 z1', ToldAt.same s7 z2', same_sqt s7 z3'⟩, hv0.same s47, hv1.same s7⟩
    rintro σ' H4 ⟨b, q0, q1, v0, v1, rfl, s4, hb, hq0, hq1, hv0, hv1⟩
    have X4 := X3.same s4
    refine ⟨fun σ' H' => σ' = [some (.ref a), some (.ref r), some (.ref p), some (.ref W), some (.ref R), some (.str (A.show m)), some (.ref q0), some v0, some (.ref q1), some v1, none, none] ∧ H' = H4, ?_, ?_⟩
    · obtain ⟨tA, tB, z1, z2, z3⟩ := hq0
      obtain ⟨tA', tB', z1', z2', z3'⟩ := hq1
      exact ⟨_, rfl, q0, _, 0, _, rfl, rfl, z1, rfl, _, rfl, q1, _, 0, _, rfl, rfl, z1', rfl, rfl, _, rfl, iteNS rfl ⟨rfl, rfl⟩⟩
    rintro σ' H4' ⟨rfl, rfl⟩
    -- each paper turned about
    have back : ∀ {ks : List FKey} {q1 F2 : Addr} {H' : Hp} {Q1 : VK}, ks.length ≤ 12 → (∀ k ∈ ks, KeyOk A.us k) → (∀ k ∈ ks, highK A.us A.d A.s A.c A.l k ≤ 5000000000000000000000) → (b = true → ColOk A.us A.d A.s A.c A.l ks (some (A.placed m))) → (b = false → ¬ ColOk A.us A.d A.s A.c A.l ks (some (A.placed m))) →
        Cl4 K H' q1 (colW b) A ks.reverse (A.placed m) → (Pap.tup (colP A ks (A.placed m) b).reverse).At K H' (.ref F2) → (∀ H2, Same H' H2 → Q1 (.bl true) H2) → spHAll K C [.ref q1, .ref F2] H' Q1 E0 := fun {ks q1 F2 H' Q1} hkl hkA hkB hy hn hq hp hQ => by
      have hkl' : ks.reverse.length ≤ 12 := by rw [List.length_reverse]; exact hkl
      have hkA' : ∀ k ∈ ks.reverse, KeyOk A.us k := fun k hk => hkA k (List.mem_reverse.mp hk)
      cases b with
      | true =>
        have hc := hy rfl
        obtain ⟨nb, nb0, nb1⟩ := nums_bnd g hkA hkB hkl hc
        obtain ⟨e1, e2, _⟩ := ansP1 g hkk hkA hkB hkl hc
        have hp : (Pap.tup (numsK A.us A.d A.s A.c A.l ks (A.placed m)).reverse).At K H' (.ref F2) := hp
        refine .inr (.inr (.inr (.inr (.inr (.inr (.inl (ask4 hq g hkl' hkA' hkk hp ⟨fun n hn => by have := nb n (List.mem_reverse.mp hn); omega, by rw [sum_revX]; omega⟩ (ansP_of ?_ ?_ fun n hn => (nb n (List.mem_reverse.mp hn)).1) hQ)))))))
        · rw [List.map_reverse, List.map_reverse, e1]
        · rw [sum_revX]
          exact e2
      | false =>
        have hp : (Pap.tup []).At K H' (.ref F2) := hp
        have hnr : ¬ ColOk A.us A.d A.s A.c A.l ks.reverse (some (A.placed m)) := fun z => hn rfl (by have := colok_rev z; rw [List.reverse_reverse] at this; exact this)
        exact .inr (.inr (.inr (.inr (.inr (.inr (.inr (ask4 hq g hkl' hkA' hkk hp ⟨(fun _ h => nomatch h), by decide⟩ (ansI0 hnr) hQ)))))))
    obtain ⟨F0, rfl, hF0, hl0⟩ := hv0
    obtain ⟨F1, rfl, hF1, hl1⟩ := hv1
    have hbn : b = false → ¬ ColOk A.us A.d A.s A.c A.l ks (some (A.placed m)) := fun e z => by rw [hb.mpr z] at e; cases e
    refine ⟨_, rfl, _, rfl, F0, _, rfl, hF0, fun F2 nF2 => ?_⟩
    have s5 := same_upd nF2 (o := .tup ((colP A ks (A.placed m) b).map V.int).reverse)
    have hF2 : (Pap.tup (colP A ks (A.placed m) b).reverse).At K (upd H4' F2 (.tup ((colP A ks (A.placed m) b).map V.int).reverse)) (.ref F2) := ⟨F2, rfl, by rw [List.map_reverse]; exact SqT.of upd_same, by rw [List.length_reverse]; exact hl0⟩
    generalize upd H4' F2 (.tup ((colP A ks (A.placed m) b).map V.int).reverse) = H5 at s5 hF2 ⊢
    obtain ⟨tA', tB', z1', z2', z3'⟩ := hq1
    refine nil_go ?_
    refine back hkl hkA hkB hb.mp hbn ⟨tA', tB', same_sqt s5 z1', ToldAt.same s5 z2', same_sqt s5 z3'⟩ hF2 fun H6 s6 => ?_
    refine ⟨true, true, rfl, rfl, _, rfl, iteT ?_⟩
    have s46 := s5.trans s6
    refine ⟨_, rfl, _, rfl, F1, _, rfl, same_sqt s46 hF1, fun F3 nF3 => ?_⟩
    have s7 := same_upd nF3 (o := .tup ((colP A ks.reverse (A.placed m) b).map V.int).reverse)
    have hF3 : (Pap.tup (colP A ks.reverse (A.placed m) b).reverse).At K (upd H6 F3 (.tup ((colP A ks.reverse (A.placed m) b).map V.int).reverse)) (.ref F3) := ⟨F3, rfl, by rw [List.map_reverse]; exact SqT.of upd_same, by rw [List.length_reverse]; exact hl1⟩
    generalize upd H6 F3 (.tup ((colP A ks.reverse (A.placed m) b).map V.int).reverse) = H7 at s7 hF3 ⊢
    obtain ⟨tA, tB, z1, z2, z3⟩ := hq0
    have s47 := s46.trans s7
    refine nil_go ?_
    refine back (ks := ks.reverse) hkl' hkA' hkB' (fun e => colok_rev (hb.mp e)) (fun e z => hbn e (by have := colok_rev z; rw [List.reverse_reverse] at this; exact this)) ?_ hF3 fun H8 s8 => ?_
    · rw [List.reverse_reverse]
      exact ⟨tA, tB, same_sqt s47 z1, ToldAt.same s47 z2, same_sqt s47 z3⟩
    · have X8 := X4.same (s47.trans s8)
      exact ⟨true, true, rfl, rfl, q H8 X8.b X8.s⟩
theorem unl_sym {A B : Lad} {r r' : Option Int} (h : Unlike A B r) (h' : Unlike B A r') : r' = r := unlike_one (unlike_symm h') h
theorem chg_alike {A B : Lad} (gA : A.Ok) (gB : B.Ok) (h : Unlike A B none) {n : Int} (n1 : 1 ≤ n) (n2 : n ≤ 100000000000000000000000) : A.Chg n ↔ B.Chg n := by
  have e1 := h (n - 1) (by omega) (by omega)
  have e2 := h n (by omega) (by omega)
  have a := shown_same' (c := A.c) gA (show 0 ≤ n - 1 by omega) (show 0 ≤ n by omega) (by omega) (by omega)
  have b := shown_same' (c := B.c) gB (show 0 ≤ n - 1 by omega) (show 0 ≤ n by omega) (by omega) (by omega)
  show ¬ _ ↔ ¬ _
  rw [← a, ← b, show shown A.us A.d A.s A.c A.l (n - 1) = shown B.us B.d B.s B.c B.l (n - 1) from e1, show shown A.us A.d A.s A.c A.l n = shown B.us B.d B.s B.c B.l n from e2]
theorem untold_alk {A B T : Lad} (gA : A.Ok) (gB : B.Ok) (gT : T.Ok) (h : Unlike A B none) {r r' : Option Int} (h1 : Untold A T r) (h2 : Untold B T r') : r = r' := by
  cases r with
  | none =>
    cases r' with
    | none => rfl
    | some m =>
      obtain ⟨m1, m2, mT, mB, _⟩ := h2
      exact absurd ((chg_alike gA gB h m1 m2).mp (h1 m m1 mT)) mB
  | some n =>
    obtain ⟨n1, n2, nT, nA, nmin⟩ := h1
    cases r' with
    | none => exact absurd ((chg_alike gA gB h n1 n2).mpr (h2 n n1 nT)) nA
    | some m =>
      obtain ⟨m1, m2, mT, mB, mmin⟩ := h2
      rcases Int.lt_trichotomy n m with y | y | y
      · exact absurd ((chg_alike gA gB h n1 n2).mpr (mmin n n1 y nT)) nA
      · rw [y]
      · exact absurd ((chg_alike gA gB h m1 m2).mp (nmin m m1 y mT)) mB
theorem cl2_same {K : PySem.W.Frag} {H H' : Hp} {q : Addr} {w : Str} {A B : Lad} (k : Same H H') (h : Cl2 K H q w A B) : Cl2 K H' q w A B := by
  obtain ⟨ta, tb, z1, z2, z3⟩ := h
  exact ⟨ta, tb, same_sqt k z1, ToldAt.same k z2, ToldAt.same k z3⟩
theorem pt_small {n : Int} (n1 : 1 ≤ n) (n2 : n ≤ 100000000000000000000000) : (Pap.tup [n - 1, n]).ok := by
  refine ⟨fun m hm => ?_, ?_⟩
  · rcases List.mem_cons.mp hm with e | hm
    · omega
    · have := List.mem_singleton.mp hm
      omega
  · show n - 1 + (n + 0) ≤ _
    omega
theorem neD {K : PySem.W.Frag} {x y : V} {H : Hp} {Q : VK} {d e : PyData} (hd : Dp K H x d) (he : Dp K H y e) (sd : SeqAt.shaped d = true) (se : SeqAt.shaped e = true) (ev : PyData.eqv d e = true) (q : Q (.bl false) H) : rNeD K x y H Q := by
  refine ⟨d, e, hd, he, sd, se, ?_⟩
  rw [ev]
  exact q
theorem ok_right {C : Addr} (d : Dd K mg "_law_right" sRight50 ["_law_spring_here"]) (dGu : Dd K mg "_law_gulp" sGulp ["_law_spring_here", "_law_many"]) (dTo : Dd K mg "_law_told" sTold ["_law_spring_here", "_law_small"]) (dNe : Dd K mg "_law_near" sNear ["_law_spring_here", "_law_told_here"]) (dMa : Dd K mg "_law_made" sMade ["_law_told_here"])
    (dCA : Dd K mg "certify_alike" sCertA ["ladder", "other"]) (dCS : Dd K mg "certify_steady" sCertS ["ladder"]) (dCT : Dd K mg "certify_tells" sCertT ["ladder", "other"]) (dH : Dd K mg "holds" sHolds ["claim", "paper"]) (dCR : Dd K mg "_law_column_right" sColR50 ["_law_spring_here", "_law_told_here", "_law_made_here"]) (B0 : Bt mg)
    (GTo : FnOk P w K mg base CX0 4 dTo.f dTo.fd ["_law_spring_here", "_law_small"] (spTold K)) (GNe : FnOk P w K mg base CX0 4 dNe.f dNe.fd ["_law_spring_here", "_law_told_here"] (spNear K)) (GMa : FnOk P w K mg base CX0 7 dMa.f dMa.fd ["_law_told_here"] (spMade K C))
    (GCA : FnOk P w K mg base CX0 8 dCA.f dCA.fd ["ladder", "other"] (spCertA K C)) (GCS : FnOk P w K mg base CX0 6 dCS.f dCS.fd ["ladder"] (spCertS K C)) (GCT : FnOk P w K mg base CX0 8 dCT.f dCT.fd ["ladder", "other"] (spCertT K C)) (GH : FnOk P w K mg base CX0 10 dH.f dH.fd ["claim", "paper"] (spHAll K C)) (GCR : FnOk P w K mg base CX0 11 dCR.f dCR.fd ["_law_spring_here", "_law_told_here", "_law_made_here"] (spColR K C)) :
    FnOk P w K mg base CX0 12 d.f d.fd ["_law_spring_here"] spRight := by
  have GGu : FnOk P w K mg base CX0 2 dGu.f dGu.fd ["_law_spring_here", "_law_many"] spGulp := ok_gulp dGu.F B0
  refine d.F.ok scRight50 (fun vs H Q E h => ?_) (fun cdv A0 outer s H vs Q E hr h => ?_)
  · obtain ⟨_, rfl, _⟩ := h
    rfl
  · obtain ⟨a, rfl, hS, q⟩ := h
    have nd := scRight50.nd
    have hr2 : Room 2 _ := hr.mono (by decide)
    have hr4 : Room 4 _ := hr.mono (by decide)
    have hrS : Room 6 _ := hr.mono (by decide)
    have hr7 : Room 7 _ := hr.mono (by decide)
    have hr8 : Room 8 _ := hr.mono (by decide)
    have hr10 : Room 10 _ := hr.mono (by decide)
    have hu : (A0.deeper (envOfC "_law_right" (defScope sRight50) s.heap.objs.size d.f cdv)).units + 64 < cLine := by have := hr.un; omega
    refine ⟨_, (Evl.pss_cut (ps_for PassesOwn.never rfl (pi_range1 (by rfl) B0.range (pa_cons pe_int pa_nil)) (pg_name (i := 1) nd rfl (Or.inl rfl))
  (Evl.pss_cut (ps_set (i := 2) nd rfl (.inl rfl) (pe_call GTo hr4 (by rfl) dTo.g dTo.F.kp dTo.b .nil pass0 (pa_cons (pv 0) (pa_cons (pe_cmpR op_eq (pe_call GGu hr2 (by rfl) dGu.g dGu.F.kp dGu.b .nil pass0 (pa_cons (pv 0) (pa_cons pe_int pa_nil))) pe_int (nomark _)) pa_nil))))
  (Evl.pss_cut (ps_set (i := 3) nd rfl (.inl rfl) (pe_call GNe hr4 (by rfl) dNe.g dNe.F.kp dNe.b .nil pass0 (pa_cons (pv 0) (pa_cons (pv 2) pa_nil))))
  (Evl.pss_cut (ps_set (i := 4) nd rfl (.inl rfl) (pe_call GNe hr4 (by rfl) dNe.g dNe.F.kp dNe.b .nil pass0 (pa_cons (pv 0) (pa_cons (pv 3) pa_nil))))
  (Evl.pss_cut (ps_par3 (i := 5) (j := 6) (l := 7) rfl nd rfl rfl rfl (by decide) (by decide) (by decide) rfl rfl rfl (pa_cons (pe_call GMa hr7 (by rfl) dMa.g dMa.F.kp dMa.b .nil pass0 (pa_cons (pv 2) pa_nil)) (pa_cons (pe_call GMa hr7 (by rfl) dMa.g dMa.F.kp dMa.b .nil pass0 (pa_cons (pv 3) pa_nil)) (pa_cons (pe_call GMa hr7 (by rfl) dMa.g dMa.F.kp dMa.b .nil pass0 (pa_cons (pv 4) pa_nil)) pa_nil))) rfl)
  (Evl.pss_cut (ps_asg (pe_call GCA hr8 (by rfl) dCA.g dCA.F.kp dCA.b .nil pass0 (pa_cons (pv 5) (pa_cons (pv 6) pa_nil))) (pg_tup rfl (pgs_cons (pg_name (i := 8) nd rfl (Or.inl rfl)) (pgs_cons (pg_name (i := 9) nd rfl (Or.inl rfl)) pgs_nil))))
  (Evl.pss_cut (ps_if (PW.pt (pw_or (pt_cmpR (r := rNeD K) (op_neD hu) (pe_call GCA hr8 (by rfl) dCA.g dCA.F.kp dCA.b .nil pass0 (pa_cons (pv 6) (pa_cons (pv 5) pa_nil))) (pe_tup (pa_cons (pe_tup (pa_cons (pe_ix (r := rIxT K) ix_tup (pv 8) pe_int (fun _ _ => rfl)) (pa_cons (pv 3) (pa_cons (pv 2) pa_nil)))) (pa_cons (pv 9) pa_nil))) (by rfl)) (pw_or1 (pt_cmpR op_notBl (pe_call GH hr10 (by rfl) dH.g dH.F.kp dH.b .nil pass0 (pa_cons (pe_tup (pa_cons (pe_ix (r := rIxT K) ix_tup (pv 8) pe_int (fun _ _ => rfl)) (pa_cons (pv 3) (pa_cons (pv 2) pa_nil)))) (pa_cons (pv 9) pa_nil))) pe_bl (nomark _))))) (pss_one (ps_ret pe_bl)) pss_nil)
  (Evl.pss_cut (ps_if (pt_cmpR op_eq (pe_ix (r := rIxT K) ix_tup (pv 8) pe_int (fun _ _ => rfl)) pe_str (nomark _)) (Evl.pss_cut (ps_if (PW.pt (pw_or (pt_cmpR (r := rNeD K) (op_neD hu) (pe_ix (r := rIxT K) ix_tup (pe_call GCS hrS (by rfl) dCS.g dCS.F.kp dCS.b .nil pass0 (pa_cons (pv 5) pa_nil)) pe_int (fun _ _ => rfl)) (pe_ix (r := rIxT K) ix_tup (pe_call GCS hrS (by rfl) dCS.g dCS.F.kp dCS.b .nil pass0 (pa_cons (pv 6) pa_nil)) pe_int (fun _ _ => rfl)) (by rfl)) (pw_or1 (pt_cmpR (r := rNeD K) (op_neD hu) (pe_ix (r := rIxT K) ix_tup (pe_call GCA hr8 (by rfl) dCA.g dCA.F.kp dCA.b .nil pass0 (pa_cons (pv 5) (pa_cons (pv 7) pa_nil))) pe_int (fun _ _ => rfl)) (pe_ix (r := rIxT K) ix_tup (pe_call GCA hr8 (by rfl) dCA.g dCA.F.kp dCA.b .nil pass0 (pa_cons (pv 6) (pa_cons (pv 7) pa_nil))) pe_int (fun _ _ => rfl)) (by rfl))))) (pss_one (ps_ret pe_bl)) pss_nil)
  (pss_one (ps_if (pt_cmpR (r := rNeD K) (op_neD hu) (pe_ix (r := rIxT K) ix_tup (pe_call GCT hr8 (by rfl) dCT.g dCT.F.kp dCT.b .nil pass0 (pa_cons (pv 5) (pa_cons (pv 7) pa_nil))) pe_int (fun _ _ => rfl)) (pe_ix (r := rIxT K) ix_tup (pe_call GCT hr8 (by rfl) dCT.g dCT.F.kp dCT.b .nil pass0 (pa_cons (pv 6) (pa_cons (pv 7) pa_nil))) pe_int (fun _ _ => rfl)) (by rfl)) (pss_one (ps_ret pe_bl)) pss_nil))) pss_nil)
  (Evl.pss_cut (ps_asg (pe_tup (pa_cons (pe_call GCT hr8 (by rfl) dCT.g dCT.F.kp dCT.b .nil pass0 (pa_cons (pv 5) (pa_cons (pv 6) pa_nil))) (pa_cons (pe_call GCT hr8 (by rfl) dCT.g dCT.F.kp dCT.b .nil pass0 (pa_cons (pv 6) (pa_cons (pv 7) pa_nil))) pa_nil))) (pg_tup rfl (pgs_cons (pg_tup rfl (pgs_cons (pg_name (i := 10) nd rfl (Or.inl rfl)) (pgs_cons (pg_name (i := 11) nd rfl (Or.inl rfl)) pgs_nil))) (pgs_cons (pg_tup rfl (pgs_cons (pg_name (i := 12) nd rfl (Or.inl rfl)) (pgs_cons (pg_name (i := 13) nd rfl (Or.inl rfl)) pgs_nil))) pgs_nil))))
  (Evl.pss_cut (ps_if (PW.pt (pw_and (pt_cmpR op_eq (pe_ix (r := rIxT K) ix_tup (pv 10) pe_int (fun _ _ => rfl)) pe_str (nomark _)) (pw_and (pt_cmpR op_eq (pe_ix (r := rIxT K) ix_tup (pv 12) pe_int (fun _ _ => rfl)) pe_str (nomark _)) (pw_and1 (pt_cmpR op_ne (pe_ix (r := rIxT K) ix_tup (pe_ix (r := rIxT K) ix_tup (pe_call GCT hr8 (by rfl) dCT.g dCT.F.kp dCT.b .nil pass0 (pa_cons (pv 5) (pa_cons (pv 7) pa_nil))) pe_int (fun _ _ => rfl)) pe_int (fun _ _ => rfl)) pe_str (nomark _)))))) (pss_one (ps_ret pe_bl)) pss_nil)
  (Evl.pss_cut (ps_if (PW.pt (pw_and (pt_cmpR op_eq (pe_ix (r := rIxT K) ix_tup (pv 10) pe_int (fun _ _ => rfl)) pe_str (nomark _)) (pw_and1 (pt_cmpR op_eq (pe_ix (r := rIxT K) ix_tup (pe_ix (r := rIxT K) ix_tup (pe_call GCT hr8 (by rfl) dCT.g dCT.F.kp dCT.b .nil pass0 (pa_cons (pv 5) (pa_cons (pv 7) pa_nil))) pe_int (fun _ _ => rfl)) pe_int (fun _ _ => rfl)) pe_str (nomark _))))) (Evl.pss_cut (ps_set (i := 14) nd rfl (.inl rfl) (pe_ix (r := rIxT K) ix_tup (pe_call GCT hr8 (by rfl) dCT.g dCT.F.kp dCT.b .nil pass0 (pa_cons (pv 5) (pa_cons (pv 7) pa_nil))) pe_int (fun _ _ => rfl)))
  (pss_one (ps_if (pt_cmpR op_notBl (pe_call GH hr10 (by rfl) dH.g dH.F.kp dH.b .nil pass0 (pa_cons (pe_tup (pa_cons pe_str (pa_cons (pv 3) (pa_cons (pv 4) pa_nil)))) (pa_cons (pv 14) pa_nil))) pe_bl (nomark _)) (pss_one (ps_ret pe_bl)) pss_nil))) pss_nil)
  (pss_one (ps_if (pt_not (pt_val (pe_call GCR hr (by rfl) dCR.g dCR.F.kp dCR.b .nil pass0 (pa_cons (pv 0) (pa_cons (pv 2) (pa_cons (pv 5) pa_nil)))))) (pss_one (ps_ret pe_bl)) pss_nil)))))))))))))
  (pss_one (ps_ret pe_bl))), ?_⟩
    refine ⟨fun σ' H' => ∃ v1 v2 v3 v4 v5 v6 v7 v8 v9 v10 v11 v12 v13 v14, σ' = [some (.ref a), v1, v2, v3, v4, v5, v6, v7, v8, v9, v10, v11, v12, v13, v14] ∧ But a H H', ?_, fun σ' H' ⟨_, _, _, _, _, _, _, _, _, _, _, _, _, _, _, b⟩ => q H' b⟩
    refine ⟨4, rfl, by decide, by decide, for_range (lo := 0) (n := 4) (fun i σ H' => (∃ v1 v2 v3 v4 v5 v6 v7 v8 v9 v10 v11 v12 v13 v14, σ = [some (.ref a), v1, v2, v3, v4, v5, v6, v7, v8, v9, v10, v11, v12, v13, v14]) ∧ But a H H' ∧ Spr H' a) ⟨⟨_, _, _, _, _, _, _, _, _, _, _, _, _, _, rfl⟩, But.refl _ _, hS⟩ ?_ (fun σ H' ⟨⟨v1, v2, v3, v4, v5, v6, v7, v8, v9, v10, v11, v12, v13, v14, e⟩, b, _⟩ => ⟨v1, v2, v3, v4, v5, v6, v7, v8, v9, v10, v11, v12, v13, v14, e, b⟩)⟩
    rintro i σ H1 hi ⟨⟨v1, v2, v3, v4, v5, v6, v7, v8, v9, v10, v11, v12, v13, v14, rfl⟩, b1, s1⟩
    -- the ladders
    refine ⟨fun σ' H' => ∃ (r1 : Addr) (A : Lad), σ' = [some (.ref a), some (.int (0 + (i : Int))), some (.ref r1), v3, v4, v5, v6, v7, v8, v9, v10, v11, v12, v13, v14] ∧ But a H H' ∧ Spr H' a ∧ A.Told K H' r1 ∧ A.Ok ∧ A.l ≤ 100 ∧ ∀ u ∈ A.us, u.2 ≤ 1000000000000, ?_, ?_⟩
    · refine ⟨_, rfl, _, rfl, a, 3, rfl, s1, by decide, by decide, fun k H2 k0 k1 s2 b2 => ⟨rfl, a, _, rfl, s2, fun r us dn z c l H3 b3 s3 hT g hone hl => ?_⟩⟩
      exact ⟨r, ⟨us, dn, z, c, l⟩, rfl, (b1.trans b2).trans b3, s3, hT, g, hl, fun u hu => (hone u hu).2⟩
    clear b1 s1
    rintro σ' H2 ⟨r1, A, rfl, b2, s2, tA, gA, hlA, hzA⟩
    refine ⟨fun σ' H' => ∃ (r2 : Addr) (B : Lad), σ' = [some (.ref a), some (.int (0 + (i : Int))), some (.ref r1), some (.ref r2), v4, v5, v6, v7, v8, v9, v10, v11, v12, v13, v14] ∧ But a H H' ∧ Spr H' a ∧ A.Told K H' r1 ∧ B.Told K H' r2 ∧ B.Ok ∧ B.l ≤ 100 ∧ (∀ u ∈ B.us, u.2 ≤ 2000000000000) ∧ NearR A.us A.d B.us B.d ∧ (B.s = A.s ∧ B.c = A.c ∧ B.l = A.l ∨ B.us = A.us ∧ B.d = A.d), ?_, ?_⟩
    · refine ⟨_, rfl, _, rfl, a, r1, A.us, A.d, A.s, A.c, A.l, 1000000000000, rfl, s2, tA, gA, hlA, hzA, by decide, fun r2 us2 d2 z2 c2 l2 H3 b3 s3 hT2 g2 hl2 hz2 hh2 hn2 hs2 => ?_⟩
      exact ⟨r2, ⟨us2, d2, z2, c2, l2⟩, rfl, b2.trans b3, s3, ToldAt.but s2 b3 tA, hT2, g2, hl2, hz2, hn2, hs2⟩
    clear b2 s2 tA
    rintro σ' H3 ⟨r2, B, rfl, b3, s3, tA, tB, gB, hlB, hzB, hnear, hsame⟩
    refine ⟨fun σ' H' => ∃ (r3 : Addr) (D : Lad), σ' = [some (.ref a), some (.int (0 + (i : Int))), some (.ref r1), some (.ref r2), some (.ref r3), v5, v6, v7, v8, v9, v10, v11, v12, v13, v14] ∧ But a H H' ∧ Spr H' a ∧ A.Told K H' r1 ∧ B.Told K H' r2 ∧ D.Told K H' r3 ∧ D.Ok, ?_, ?_⟩
    · refine ⟨_, rfl, _, rfl, a, r2, B.us, B.d, B.s, B.c, B.l, 2000000000000, rfl, s3, tB, gB, hlB, hzB, by decide, fun r3 us2 d2 z2 c2 l2 H4 b4 s4 hT2 g2 hl2 hz2 hh2 _ _ => ?_⟩
      exact ⟨r3, ⟨us2, d2, z2, c2, l2⟩, rfl, b3.trans b4, s4, ToldAt.but s3 b4 tA, ToldAt.but s3 b4 tB, hT2, g2⟩
    clear b3 s3 tA tB
    rintro σ' H4 ⟨r3, D, rfl, b4, s4, tA, tB, tD, gD⟩
    refine ⟨fun σ' H' => ∃ p1 p2 p3 : Addr, σ' = [some (.ref a), some (.int (0 + (i : Int))), some (.ref r1), some (.ref r2), some (.ref r3), some (.ref p1), some (.ref p2), some (.ref p3), v8, v9, v10, v11, v12, v13, v14] ∧ DBT K C a H H' r1 r2 r3 p1 p2 p3 A B D, ?_, ?_⟩
    · refine ⟨_, rfl, r1, A.us, A.d, A.s, A.c, A.l, rfl, tA, gA, fun p1 H5 s5 h1 => ?_⟩
      refine ⟨_, rfl, r2, B.us, B.d, B.s, B.c, B.l, rfl, tB.same s5, gB, fun p2 H6 s6 h2 => ?_⟩
      refine ⟨_, rfl, r3, D.us, D.d, D.s, D.c, D.l, rfl, (tD.same s5).same s6, gD, fun p3 H7 s7 h3 => ?_⟩
      have s57 := (s5.trans s6).trans s7
      exact ⟨_, _, _, rfl, p1, p2, p3, rfl, ⟨b4.trans (Same.but s57), s4.same s57, tA.same s57, tB.same s57, tD.same s57, LadAt.same (s6.trans s7) h1, LadAt.same s7 h2, h3⟩⟩
    clear b4 s4 tA tB tD
    rintro σ' H4 ⟨p1, p2, p3, rfl, X4⟩
    have ok0 : (Pap.tup []).ok := ⟨(fun _ h => nomatch h), by decide⟩
    -- alike?
    refine ⟨fun σ' H' => ∃ (fd : Option Int) (q0 : Addr) (v0 : V), σ' = [some (.ref a), some (.int (0 + (i : Int))), some (.ref r1), some (.ref r2), some (.ref r3), some (.ref p1), some (.ref p2), some (.ref p3), some (.ref q0), some v0, v10, v11, v12, v13, v14] ∧ DBT K C a H H' r1 r2 r3 p1 p2 p3 A B D ∧ Unlike A B fd ∧ Cl2 K H' q0 (wd fd "alike" "unlike") A B ∧ (papO fd).At K H' v0, ?_, ?_⟩
    · refine ⟨_, rfl, _, rfl, p1, p2, A, B, rfl, X4.l1, X4.l2, gA, gB, fun fd pr q0 v0 H5 s5 hu' hpr hq hv => ?_⟩
      refine ⟨pr, _, rfl, hpr, rfl, _, _, rfl, _, _, rfl, rfl, fd, q0, v0, rfl, X4.same s5, hu', ?_, hv⟩
      cases fd with
      | none => exact hq
      | some n => exact hq
    clear X4
    rintro σ' H5 ⟨fd, q0, v0, rfl, X5, hun, hq0, hv0⟩
    refine ⟨fun σ' H' => σ' = [some (.ref a), some (.int (0 + (i : Int))), some (.ref r1), some (.ref r2), some (.ref r3), some (.ref p1), some (.ref p2), some (.ref p3), some (.ref q0), some v0, v10, v11, v12, v13, v14] ∧ Same H5 H', ?_, ?_⟩
    · refine ⟨_, rfl, _, rfl, p2, p1, B, A, rfl, X5.l2, X5.l1, gB, gA, fun fd' pr q1 v1 H6 s6 hu' hpr hq1 hv1 => ?_⟩
      obtain rfl := unl_sym hun hu'
      have X6 := X5.same s6
      obtain ⟨tA0, tB0, z1, z2, z3⟩ := cl2_same s6 hq0
      obtain ⟨tA1, tB1, y1, y2, y3⟩ := hq1
      refine ⟨_, rfl, q0, _, 0, _, rfl, rfl, z1, rfl, _, rfl, _, rfl, by show 3 ≤ sizeLine; decide, fun c nc => ?_⟩
      have s7 := same_upd nc (o := .tup [.str (wd fd' "alike" "unlike"), .ref r2, .ref r1])
      have hc : SqT K (upd H6 c (.tup [.str (wd fd' "alike" "unlike"), .ref r2, .ref r1])) c [.str (wd fd' "alike" "unlike"), .ref r2, .ref r1] := SqT.of upd_same
      generalize upd H6 c (.tup [.str (wd fd' "alike" "unlike"), .ref r2, .ref r1]) = H7 at s7 hc ⊢
      refine ⟨_, rfl, by show 2 ≤ sizeLine; decide, fun c2 nc2 => ?_⟩
      have s8 := same_upd nc2 (o := .tup [.ref c, v0])
      have hc2 : SqT K (upd H7 c2 (.tup [.ref c, v0])) c2 [.ref c, v0] := SqT.of upd_same
      generalize upd H7 c2 (.tup [.ref c, v0]) = H8 at s8 hc2 ⊢
      have s68 := s7.trans s8
      have X8 := X6.same s68
      have hw : PyData.strOk (wd fd' "alike" "unlike") = true := by
        cases fd' with
        | none => exact (by decide +kernel : PyData.strOk "alike" = true)
        | some n => exact (by decide +kernel : PyData.strOk "unlike" = true)
      obtain ⟨c1, c3⟩ := cert_shaped (o := papO fd') hw gB gA
      have ew : (if fd'.isNone = true then ("alike" : Str) else "unlike") = wd fd' "alike" "unlike" := by cases fd' <;> rfl
      rw [ew] at y1
      refine neD (d := certD (wd fd' "alike" "unlike") B A (papO fd')) (e := certD (wd fd' "alike" "unlike") B A (papO fd')) (.tup (same_sqt s68 hpr) (.cons (.tup (same_sqt s68 y1) (.cons (.str _) (.cons (told_dp (ToldAt.same s68 y2)) (.cons (told_dp (ToldAt.same s68 y3)) .nil)))) (.cons (pap_dp (hv1.same s68)) .nil)))
        (.tup hc2 (.cons (.tup (same_sqt s8 hc) (.cons (.str _) (.cons (told_dp X8.t2) (.cons (told_dp X8.t1) .nil)))) (.cons (pap_dp (hv0.same (s6.trans s68))) .nil))) c1 c1 c3 ⟨_, rfl, iteF ?_⟩
      refine ⟨_, rfl, q0, _, 0, _, rfl, rfl, same_sqt s68 z1, rfl, _, rfl, _, rfl, by show 3 ≤ sizeLine; decide, fun c' nc' => ?_⟩
      have s9 := same_upd nc' (o := .tup [.str (wd fd' "alike" "unlike"), .ref r2, .ref r1])
      have hc' : SqT K (upd H8 c' (.tup [.str (wd fd' "alike" "unlike"), .ref r2, .ref r1])) c' [.str (wd fd' "alike" "unlike"), .ref r2, .ref r1] := SqT.of upd_same
      generalize upd H8 c' (.tup [.str (wd fd' "alike" "unlike"), .ref r2, .ref r1]) = H9 at s9 hc' ⊢
      have X9 := X8.same s9
      have hv9 := hv0.same ((s6.trans s68).trans s9)
      refine ⟨_, rfl, ?_⟩
      refine nil_go ?_
      have us := unlike_symm hun
      cases fd' with
      | none => exact .inl (ask2 ⟨r2, r1, hc', X9.t2, X9.t1⟩ gB gA hv9 ok0 (ansA0 us) fun H10 s10 => ⟨true, true, rfl, rfl, _, rfl, iteF ⟨rfl, ((s6.trans s68).trans s9).trans s10⟩⟩)
      | some n => exact .inr (.inl (ask2 ⟨r2, r1, hc', X9.t2, X9.t1⟩ gB gA hv9 (by show n ≤ 1000000000000000000000000000000; have := hun.2.1; omega) (ansU1 us) fun H10 s10 => ⟨true, true, rfl, rfl, _, rfl, iteF ⟨rfl, ((s6.trans s68).trans s9).trans s10⟩⟩))
    rintro σ' H6 ⟨rfl, s6⟩
    have X6 := X5.same s6
    have hq6 := cl2_same s6 hq0
    clear X5 hv0
    -- what alike ladders have in common
    refine ⟨fun σ' H' => σ' = [some (.ref a), some (.int (0 + (i : Int))), some (.ref r1), some (.ref r2), some (.ref r3), some (.ref p1), some (.ref p2), some (.ref p3), some (.ref q0), some v0, v10, v11, v12, v13, v14] ∧ Same H6 H', ?_, ?_⟩
    · obtain ⟨tA0, tB0, z1, z2, z3⟩ := hq6
      refine ⟨_, rfl, q0, _, 0, _, rfl, rfl, z1, rfl, rfl, _, rfl, ?_⟩
      cases fd with
      | some n => exact iteE (by show decide (V.str "unlike" = V.str "alike") = false; decide +kernel) ⟨rfl, Same.refl _⟩
      | none =>
        refine iteT ?_
        refine ⟨fun σ' H' => σ' = [some (.ref a), some (.int (0 + (i : Int))), some (.ref r1), some (.ref r2), some (.ref r3), some (.ref p1), some (.ref p2), some (.ref p3), some (.ref q0), some v0, v10, v11, v12, v13, v14] ∧ Same H6 H', ?_, ?_⟩
        · refine ⟨_, rfl, p1, A, rfl, X6.l1, gA, fun ra pr qa va H7 s7 ha hpr hqa hva => ⟨pr, _, 1, _, rfl, rfl, hpr, rfl, ?_⟩⟩
          refine ⟨_, rfl, p2, B, rfl, (X6.same s7).l2, gB, fun rb pr' qb vb H8 s8 hb hpr' hqb hvb => ⟨pr', _, 1, _, rfl, rfl, hpr', rfl, ?_⟩⟩
          obtain rfl := near_steady gA gB hnear hsame hun ha hb
          have s78 := s7.trans s8
          refine neD (d := papD (papO ra)) (e := papD (papO ra)) (pap_dp (hva.same s8)) (pap_dp hvb) pap_shaped pap_shaped (pap_eqv _) ⟨_, rfl, iteF ?_⟩
          refine ⟨_, rfl, _, rfl, p1, p3, A, D, rfl, (X6.same s78).l1, (X6.same s78).l3, gA, gD, fun rc prc qc vc H9 s9 hc hprc hqc hvc => ⟨prc, _, 1, _, rfl, rfl, hprc, rfl, ?_⟩⟩
          have s79 := s78.trans s9
          refine ⟨_, rfl, _, rfl, p2, p3, B, D, rfl, (X6.same s79).l2, (X6.same s79).l3, gB, gD, fun rd prd qd vd H10 s10 hd hprd hqd hvd => ⟨prd, _, 1, _, rfl, rfl, hprd, rfl, ?_⟩⟩
          obtain rfl := unlike_same hun hc hd
          refine neD (d := papD (papO rc)) (e := papD (papO rc)) (pap_dp (hvc.same s10)) (pap_dp hvd) pap_shaped pap_shaped (pap_eqv _) ⟨_, rfl, iteF ⟨rfl, s79.trans s10⟩⟩
        rintro σ' H7 ⟨rfl, s7⟩
        have X7 := X6.same s7
        refine ⟨_, rfl, _, rfl, p1, p3, A, D, rfl, X7.l1, X7.l3, gA, gD, fun rc prc qc vc H9 s9 hc hprc hqc hvc => ⟨prc, _, 1, _, rfl, rfl, hprc, rfl, ?_⟩⟩
        refine ⟨_, rfl, _, rfl, p2, p3, B, D, rfl, (X7.same s9).l2, (X7.same s9).l3, gB, gD, fun rd prd qd vd H10 s10 hd hprd hqd hvd => ⟨prd, _, 1, _, rfl, rfl, hprd, rfl, ?_⟩⟩
        obtain rfl := untold_alk gA gB gD hun hc hd
        refine neD (d := papD (papT rc)) (e := papD (papT rc)) (pap_dp (hvc.same s10)) (pap_dp hvd) pap_shaped pap_shaped (pap_eqv _) ⟨_, rfl, iteF ⟨rfl, (s7.trans s9).trans s10⟩⟩
    clear hq6 hq0 s6
    rintro σ' H7 ⟨rfl, s7⟩
    have X7 := X6.same s7
    clear X6 s7
    -- what tells
    refine ⟨fun σ' H' => ∃ (f1 f2 : Option Int) (q1 q2 : Addr) (w1 w2 : V), σ' = [some (.ref a), some (.int (0 + (i : Int))), some (.ref r1), some (.ref r2), some (.ref r3), some (.ref p1), some (.ref p2), some (.ref p3), some (.ref q0), some v0, some (.ref q1), some w1, some (.ref q2), some w2, v14] ∧ DBT K C a H H' r1 r2 r3 p1 p2 p3 A B D ∧ Untold A B f1 ∧ Untold B D f2 ∧ Cl2 K H' q1 (wd f1 "tells" "hides") A B ∧ Cl2 K H' q2 (wd f2 "tells" "hides") B D, ?_, ?_⟩
    · refine ⟨_, rfl, _, rfl, p1, p2, A, B, rfl, X7.l1, X7.l2, gA, gB, fun f1 pr1 q1 w1 H8 s8 h1 hp1 hq1 hv1 => ?_⟩
      refine ⟨_, rfl, _, rfl, p2, p3, B, D, rfl, (X7.same s8).l2, (X7.same s8).l3, gB, gD, fun f2 pr2 q2 w2 H9 s9 h2 hp2 hq2 hv2 => ?_⟩
      refine ⟨by show 2 ≤ sizeLine; decide, fun T nT => ?_⟩
      have s10 := same_upd nT (o := .tup [.ref pr1, .ref pr2])
      have s910 := s9.trans s10
      refine ⟨T, _, rfl, SqT.of upd_same, rfl, _, _, rfl, ⟨pr1, _, rfl, same_sqt s910 hp1, rfl, _, _, rfl, _, _, rfl, rfl, _, _, rfl, ⟨pr2, _, rfl, same_sqt s10 hp2, rfl, _, _, rfl, _, _, rfl, rfl, rfl, ?_⟩⟩⟩
      refine ⟨f1, f2, q1, q2, w1, w2, rfl, X7.same (s8.trans s910), h1, h2, ?_, ?_⟩
      · refine cl2_same s910 ?_
        cases f1 <;> exact hq1
      · refine cl2_same s10 ?_
        cases f2 <;> exact hq2
    clear X7
    rintro σ' H8 ⟨f1, f2, q1, q2, w1, w2, rfl, X8, h1, h2, hq1, hq2⟩
    refine ⟨fun σ' H' => σ' = [some (.ref a), some (.int (0 + (i : Int))), some (.ref r1), some (.ref r2), some (.ref r3), some (.ref p1), some (.ref p2), some (.ref p3), some (.ref q0), some v0, some (.ref q1), some w1, some (.ref q2), some w2, v14] ∧ Same H8 H', ?_, ?_⟩
    · obtain ⟨tA0, tB0, z1, z2, z3⟩ := id hq1
      obtain ⟨tA1, tB1, y1, y2, y3⟩ := id hq2
      refine ⟨_, rfl, q1, _, 0, _, rfl, rfl, z1, rfl, rfl, _, rfl, ?_⟩
      cases f1 with
      | some n => exact iteE (by show decide (V.str "hides" = V.str "tells") = false; decide +kernel) (iteF ⟨rfl, Same.refl _⟩)
      | none =>
        refine iteT ⟨_, rfl, q2, _, 0, _, rfl, rfl, y1, rfl, rfl, _, rfl, ?_⟩
        cases f2 with
        | some n => exact iteE (by show decide (V.str "hides" = V.str "tells") = false; decide +kernel) (iteF ⟨rfl, Same.refl _⟩)
        | none =>
          refine iteT ⟨_, rfl, _, rfl, p1, p3, A, D, rfl, X8.l1, X8.l3, gA, gD, fun rc prc qc vc H9 s9 hc hprc hqc hvc => ⟨prc, _, 0, _, rfl, rfl, hprc, rfl, ?_⟩⟩
          obtain rfl : rc = none := untold_one hc fun x x1 hx => h1 x x1 (h2 x x1 hx)
          obtain ⟨u1, u2, x1, x2, x3⟩ := hqc
          exact ⟨qc, _, 0, _, rfl, rfl, x1, rfl, rfl, _, rfl, iteF ⟨rfl, s9⟩⟩
    rintro σ' H9 ⟨rfl, s9⟩
    have X9 := X8.same s9
    have hq9 := cl2_same s9 hq1
    clear X8 hq2 hq1 s9
    refine ⟨fun σ' H' => ∃ w14, σ' = [some (.ref a), some (.int (0 + (i : Int))), some (.ref r1), some (.ref r2), some (.ref r3), some (.ref p1), some (.ref p2), some (.ref p3), some (.ref q0), some v0, some (.ref q1), some w1, some (.ref q2), some w2, w14] ∧ Same H9 H', ?_, ?_⟩
    · obtain ⟨tA0, tB0, z1, z2, z3⟩ := id hq9
      refine ⟨_, rfl, q1, _, 0, _, rfl, rfl, z1, rfl, rfl, _, rfl, ?_⟩
      cases f1 with
      | some n => exact iteE (by show decide (V.str "hides" = V.str "tells") = false; decide +kernel) (iteF ⟨_, rfl, Same.refl _⟩)
      | none =>
        refine iteT ⟨_, rfl, _, rfl, p1, p3, A, D, rfl, X9.l1, X9.l3, gA, gD, fun rc prc qc vc H10 s10 hc hprc hqc hvc => ⟨prc, _, 0, _, rfl, rfl, hprc, rfl, ?_⟩⟩
        obtain ⟨u1, u2, x1, x2, x3⟩ := hqc
        refine ⟨qc, _, 0, _, rfl, rfl, x1, rfl, rfl, _, rfl, ?_⟩
        cases rc with
        | none => exact iteE (by show decide (V.str "tells" = V.str "hides") = false; decide +kernel) ⟨_, rfl, s10⟩
        | some n =>
          refine iteT ?_
          have X10 := X9.same s10
          refine ⟨fun σ' H' => ∃ (m : Int) (w14 : V), σ' = [some (.ref a), some (.int (0 + (i : Int))), some (.ref r1), some (.ref r2), some (.ref r3), some (.ref p1), some (.ref p2), some (.ref p3), some (.ref q0), some v0, some (.ref q1), some w1, some (.ref q2), some w2, some w14] ∧ Same H9 H' ∧ Untold A D (some m) ∧ (papT (some m)).At K H' w14, ?_, ?_⟩
          · refine ⟨_, rfl, _, rfl, p1, p3, A, D, rfl, X10.l1, X10.l3, gA, gD, fun rd prd qd vd H11 s11 hd hprd hqd hvd => ⟨prd, _, 1, _, rfl, rfl, hprd, rfl, ?_⟩⟩
            obtain rfl := untold_one hc hd
            exact ⟨n, vd, rfl, s10.trans s11, hd, hvd⟩
          rintro σ' H11 ⟨m, w14, rfl, s11, hm, hw14⟩
          have X11 := X9.same s11
          refine ⟨_, rfl, _, rfl, by show 3 ≤ sizeLine; decide, fun c nc => ?_⟩
          have s12 := same_upd nc (o := .tup [.str "hides", .ref r2, .ref r3])
          have hc2 : SqT K (upd H11 c (.tup [.str "hides", .ref r2, .ref r3])) c [.str "hides", .ref r2, .ref r3] := SqT.of upd_same
          generalize upd H11 c (.tup [.str "hides", .ref r2, .ref r3]) = H12 at s12 hc2 ⊢
          have X12 := X11.same s12
          obtain ⟨m1, m2, mD, mA, mmin⟩ := hm
          have mB : ¬ B.Chg m := fun z => mA (h1 m m1 z)
          have ans : ∀ y, valH B D (.tup [m - 1, m]) y → y = true := fun y hy => by
            rcases hy with ⟨e, _⟩ | ⟨x, x', e, _, _, rfl⟩
            · have e' : (decide ((2 : Int) = 2) && ([m - 1, m].all fun n => decide (0 ≤ n))) = false := e
              rw [show ([m - 1, m].all fun n => decide (0 ≤ n)) = true from by simp; omega] at e'
              cases e'
            · cases e
              have k1 : B.show (m - 1) = B.show m := (shown_same' gB (by omega) (by omega) (by omega) (by omega)).mpr (Classical.not_not.mp mB)
              have k2 : ¬ D.show (m - 1) = D.show m := fun z => mD ((shown_same' gD (by omega) (by omega) (by omega) (by omega)).mp z)
              rw [decide_eq_true (congrArg V.str k1), decide_eq_false fun z => k2 (V.str.inj z)]
              rfl
          refine ⟨_, rfl, ?_⟩
          refine nil_go ?_
          exact .inr (.inr (.inr (.inr (.inr (.inl (ask2 ⟨r2, r3, hc2, X12.t2, X12.t3⟩ gB gD (hw14.same s12) (pt_small m1 m2) ans fun H13 s13 => ⟨true, true, rfl, rfl, _, rfl, iteF ⟨_, rfl, (s11.trans s12).trans s13⟩⟩))))))
    rintro σ' H10 ⟨w14, rfl, s10⟩
    have X10 := X9.same s10
    refine ⟨_, rfl, _, rfl, _, rfl, a, r1, p1, A, rfl, X10.s, X10.t1, X10.l1, gA, fun H11 b11 s11 => ⟨_, rfl, iteF ⟨⟨_, _, _, _, _, _, _, _, _, _, _, _, _, _, rfl⟩, X10.b.trans b11, s11⟩⟩⟩
end
end My

namespace My
open PySem PySem.Spec PyProof.Rows L2
/-! ### the dict of forms -/
structure FormsAll (K : PySem.W.Frag) (w : World) (mg : Str → Option Value) (f1 f2 f4 sA sU sS sD sT sH sP sI : Addr) : Prop where
  ex : ∃ aF es n, mg "FORMS" = some (.ref aF) ∧ KDict K w aF es n ∧ FormK K w aF "alike" 3 f2 sA ∧ FormK K w aF "unlike" 3 f2 sU ∧ FormK K w aF "steady" 2 f1 sS ∧ FormK K w aF "drifts" 2 f1 sD ∧ FormK K w aF "tells" 3 f2 sT ∧ FormK K w aF "hides" 3 f2 sH ∧ FormK K w aF "possible" 4 f4 sP ∧ FormK K w aF "impossible" 4 f4 sI
theorem mkFormK {K : PySem.W.Frag} {w : World} {aF tu : Addr} {es : Array DictEntry} {n n' : Nat} {word : Str} {many : Int} {fr fs : Addr} {dd : Option Addr} {sl : Array (Option Value)} {tk : Tok} (hl : K.lookup aF = some ⟨.type "dict", none, .dict es n, #[]⟩) (hk : PySem.W.KeysLit w.params es.toList) (hw : PySem.W.nsIn K aF word = some (some (.ref tu)))
    (ht : K.lookup tu = some ⟨.type "tuple", dd, .seq #[.int many tk, .ref fr, .ref fs] n', sl⟩) : FormK K w aF word many fr fs :=
  ⟨⟨tu, ⟨es, n, _, hl, hk, hw, rfl⟩, fun H => .inr ⟨_, _, _, ht, rfl, rfl, (by show 3 ≤ sizeLine; decide), .cons ⟨_, rfl⟩ (.cons rfl (.cons rfl .nil))⟩⟩, _, hw⟩
theorem mkForms {K : PySem.W.Frag} {w : World} {mg : Str → Option Value} {h : Heap} {f1 f2 f4 sA sU sS sD sT sH sP sI aF t1 t2 t3 t4 t5 t6 t7 t8 : Addr} {es : Array DictEntry} {n n1 n2 n3 n4 n5 n6 n7 n8 : Nat} {d1 d2 d3 d4 d5 d6 d7 d8 : Option Addr} {s1 s2 s3 s4 s5 s6 s7 s8 : Array (Option Value)} {k1 k2 k3 k4 k5 k6 k7 k8 : Tok} (X : K.In h) (G : h.Ns mainGlobals mg)
    (ha : PySem.W.nsIn K mainGlobals "FORMS" = some (some (.ref aF))) (hl : K.lookup aF = some ⟨.type "dict", none, .dict es n, #[]⟩) (hk : PySem.W.KeysLit w.params es.toList) (lo : (aF == sysModules) = false)
    (w1 : PySem.W.nsIn K aF "alike" = some (some (.ref t1))) (l1 : K.lookup t1 = some ⟨.type "tuple", d1, .seq #[.int 3 k1, .ref f2, .ref sA] n1, s1⟩)
    (w2 : PySem.W.nsIn K aF "unlike" = some (some (.ref t2))) (l2 : K.lookup t2 = some ⟨.type "tuple", d2, .seq #[.int 3 k2, .ref f2, .ref sU] n2, s2⟩)
    (w3 : PySem.W.nsIn K aF "steady" = some (some (.ref t3))) (l3 : K.lookup t3 = some ⟨.type "tuple", d3, .seq #[.int 2 k3, .ref f1, .ref sS] n3, s3⟩)
    (w4 : PySem.W.nsIn K aF "drifts" = some (some (.ref t4))) (l4 : K.lookup t4 = some ⟨.type "tuple", d4, .seq #[.int 2 k4, .ref f1, .ref sD] n4, s4⟩)
    (w5 : PySem.W.nsIn K aF "tells" = some (some (.ref t5))) (l5 : K.lookup t5 = some ⟨.type "tuple", d5, .seq #[.int 3 k5, .ref f2, .ref sT] n5, s5⟩)
    (w6 : PySem.W.nsIn K aF "hides" = some (some (.ref t6))) (l6 : K.lookup t6 = some ⟨.type "tuple", d6, .seq #[.int 3 k6, .ref f2, .ref sH] n6, s6⟩)
    (w7 : PySem.W.nsIn K aF "possible" = some (some (.ref t7))) (l7 : K.lookup t7 = some ⟨.type "tuple", d7, .seq #[.int 4 k7, .ref f4, .ref sP] n7, s7⟩)
    (w8 : PySem.W.nsIn K aF "impossible" = some (some (.ref t8))) (l8 : K.lookup t8 = some ⟨.type "tuple", d8, .seq #[.int 4 k8, .ref f4, .ref sI] n8, s8⟩) : FormsAll K w mg f1 f2 f4 sA sU sS sD sT sH sP sI :=
  ⟨aF, es, n, PySem.W.mg_of X G ha, ⟨hl, hk, lo⟩, mkFormK hl hk w1 l1, mkFormK hl hk w2 l2, mkFormK hl hk w3 l3, mkFormK hl hk w4 l4, mkFormK hl hk w5 l5, mkFormK hl hk w6 l6, mkFormK hl hk w7 l7, mkFormK hl hk w8 l8⟩
theorem mkCls {K : PySem.W.Frag} {mg : Str → Option Value} {h : Heap} {x : Str} {C : Addr} (X : K.In h) (G : h.Ns mainGlobals mg) (a : PySem.W.nsIn K mainGlobals x = some (some (.ref C))) : ∃ C, mg x = some (.ref C) := ⟨C, PySem.W.mg_of X G a⟩
/-- holds, of all words -/
theorem ok_hall {P : Program} {w : World} {K : PySem.W.Frag} {mg : Str → Option Value} {base : Heap} {C : Addr} (d : Dd K mg "holds" sHolds ["claim", "paper"]) (dOneL : Dd K mg "one_ladder" sOneL ["told"]) (dTwoL : Dd K mg "two_ladders" sTwoL ["told", "other_told"]) (dLCol : Dd K mg "ladder_and_column" sLCol ["told", "texts", "total"])
    (dShA : Dd K mg "shows_alike" sShA ["paper", "ladder", "other"]) (dShU : Dd K mg "shows_unlike" sShU ["paper", "ladder", "other"]) (dShS : Dd K mg "shows_steady" sShS ["paper", "ladder"]) (dShD : Dd K mg "shows_drifting" sShD ["paper", "ladder"]) (dShT : Dd K mg "shows_telling" sShT ["paper", "ladder", "other"]) (dShH : Dd K mg "shows_hiding" sShH ["paper", "ladder", "other"]) (dShP : Dd K mg "shows_possible" sShP ["paper", "ladder", "texts", "total"]) (dShI : Dd K mg "shows_impossible" sShI ["paper", "ladder", "texts", "total"])
    (B : Bt mg) (FM : FormsAll K w mg dOneL.f dTwoL.f dLCol.f dShA.f dShU.f dShS.f dShD.f dShT.f dShH.f dShP.f dShI.f) (gE : ∃ CE, mg "InputError" = some (.ref CE))
    (G1 : FnOk P w K mg base CX0 8 dOneL.f dOneL.fd ["told"] (spOneL K C)) (G2 : FnOk P w K mg base CX0 8 dTwoL.f dTwoL.fd ["told", "other_told"] (spTwoL K C)) (G4 : FnOk P w K mg base CX0 8 dLCol.f dLCol.fd ["told", "texts", "total"] (spLCol K C))
    (GA : FnOk P w K mg base CX0 9 dShA.f dShA.fd ["paper", "ladder", "other"] (spSh2 K C valA)) (GU : FnOk P w K mg base CX0 6 dShU.f dShU.fd ["paper", "ladder", "other"] (spSh2 K C valU)) (GS : FnOk P w K mg base CX0 7 dShS.f dShS.fd ["paper", "ladder"] (spSh1 K C valS)) (GD : FnOk P w K mg base CX0 5 dShD.f dShD.fd ["paper", "ladder"] (spSh1 K C valD)) (GT : FnOk P w K mg base CX0 9 dShT.f dShT.fd ["paper", "ladder", "other"] (spSh2 K C valT)) (GH : FnOk P w K mg base CX0 6 dShH.f dShH.fd ["paper", "ladder", "other"] (spSh2 K C valH)) (GP : FnOk P w K mg base CX0 6 dShP.f dShP.fd ["paper", "ladder", "texts", "total"] (spSh4 K C valP)) (GI : FnOk P w K mg base CX0 8 dShI.f dShI.fd ["paper", "ladder", "texts", "total"] (spSh4 K C valI)) :
    FnOk P w K mg base CX0 10 d.f d.fd ["claim", "paper"] (spHAll K C) := by
  obtain ⟨aF, es, n, gF, KD, k1, k2, k3, k4, k5, k6, k7, k8⟩ := FM
  have mkR : ∀ {x : Str} {st : Stmt} {ps : List Str} {k : Nat} {sp : Sp} (d : Dd K mg x st ps), FnOk P w K mg base CX0 k d.f d.fd ps sp → k ≤ 9 → PySem.W.keepIn K (.ref d.f) = true ∧ FnR P w K mg base CX0 9 d.f sp := fun {x st ps k sp} d F h => by
    refine ⟨d.F.kp, ?_⟩
    have z := FnOk.raw (FnOk.mono F h) d.b .nil
    have e : (fun (vs : List V) (H : Hp) (Q : VK) (E : XK) => sp (vs ++ []) H Q E) = sp := by
      funext vs H Q E
      rw [List.append_nil]
    rw [e] at z
    exact z
  have R1 := mkR dOneL G1 (by decide)
  have R2 := mkR dTwoL G2 (by decide)
  have R4 := mkR dLCol G4 (by decide)
  exact fn_or (ok_holds d B gF KD k1 gE R2 (mkR dShA GA (by decide))) (fn_or (ok_holds d B gF KD k2 gE R2 (mkR dShU GU (by decide))) (fn_or (ok_holds d B gF KD k3 gE R1 (mkR dShS GS (by decide))) (fn_or (ok_holds d B gF KD k4 gE R1 (mkR dShD GD (by decide)))
    (fn_or (ok_holds d B gF KD k5 gE R2 (mkR dShT GT (by decide))) (fn_or (ok_holds d B gF KD k6 gE R2 (mkR dShH GH (by decide))) (fn_or (ok_holds d B gF KD k7 gE R4 (mkR dShP GP (by decide))) (ok_holds d B gF KD k8 gE R4 (mkR dShI GI (by decide)))))))))
end My

namespace My
open PySem PySem.Spec PyProof.Rows L2
def mkD {K : PySem.W.Frag} {mg : Str → Option Value} {h : Heap} {x : Str} {st : Stmt} {ps : List Str} {f : Addr} {oc : Value} {od an : Option Addr} {sl : Array (Option Value)} {kV dc pm cd ct : Value} (X : K.In h) (G : h.Ns mainGlobals mg)
    (b : ∀ (kV doc pm : Value) (an : Option Addr) (cdv ct : Value) (us : List Value), us.length = ps.length → bindArgs (PySem.W.fnOf x x (defArgs st) (defBody st) (defScope st) .none kV doc pm an cdv ct) ⟨us, []⟩ = pure (ps.zip us))
    (a : PySem.W.nsIn K mainGlobals x = some (some (.ref f))) (l : K.lookup f = some ⟨oc, od, .func (PySem.W.fnOf x x (defArgs st) (defBody st) (defScope st) .none kV dc pm an cd ct), sl⟩) (c : PySem.W.codeIn K cd x = true) (k : PySem.W.keepIn K (.ref f) = true) : Dd K mg x st ps :=
  ⟨f, _, fun_mk l c k, (fun_mk l c k).binds b, PySem.W.mg_of X G a⟩
def mkL {K : PySem.W.Frag} {mg : Str → Option Value} {h : Heap} {C f : Addr} {oc : Value} {od an : Option Addr} {sl : Array (Option Value)} {kV dc pm cd ct : Value} (X : K.In h) (G : h.Ns mainGlobals mg)
    (aC : PySem.W.nsIn K mainGlobals "Ladder" = some (some (.ref C))) (a : PySem.W.findIn K (.ref C) "__init__" = some (some (.ref f))) (i : PySem.W.isFn K (.ref f) = true)
    (l : K.lookup f = some ⟨oc, od, .func (PySem.W.fnOf "__init__" "Ladder.__init__" (defArgs sLInit) (defBody sLInit) (defScope sLInit) .none kV dc pm an cd ct), sl⟩) (c : PySem.W.codeIn K cd "Ladder.__init__" = true) (k : PySem.W.keepIn K (.ref f) = true)
    (pg : PySem.W.plainGet K C Str.empty = true) (hd : PySem.W.hasDictIn K C = true) (po : PySem.W.plainOver K C = true) (sa : PySem.W.findIn K (.ref C) "__setattr__" = some (some (.builtin "object.__setattr__"))) (mk : PySem.W.makesIn K C = true) (kc : PySem.W.keepIn K (.ref C) = true)
    (n1 : PySem.W.findIn K (.ref C) "units" = some none) (n2 : PySem.W.findIn K (.ref C) "decimals" = some none) (n3 : PySem.W.findIn K (.ref C) "rounding" = some none) (n4 : PySem.W.findIn K (.ref C) "carry" = some none) (n5 : PySem.W.findIn K (.ref C) "least" = some none) (n6 : PySem.W.findIn K (.ref C) "told" = some none) (n7 : PySem.W.findIn K (.ref C) "steps" = some none) (n8 : PySem.W.findIn K (.ref C) "thresholds" = some none)
    (i1 : PySem.W.findIn K (.ref C) "__class__" = some (some (.builtin "object.__class__"))) (i2 : PySem.W.specialIn K (.builtin "object.__class__") "__get__" = some (some (.builtin "getset_descriptor.__get__"))) (i3 : PySem.W.takesIn K (.builtin "object.__class__") = some true)
    (i4 : PySem.W.mroIn K C (.type "object") = some true) : { L : LadC K mg // LadI K L.C } :=
  ⟨⟨C, f, _, fun_mk l c k, ⟨mk, a, i, kc⟩, PySem.W.mg_of X G aC, ⟨pg, hd, po, sa⟩, n1, n2, n3, n4, n5, n6, n7, n8⟩, ⟨i1, i2, i3, i4, (by unfold PySem.W.kitOne; rw [if_pos (beq_self_eq_true _)])⟩⟩
theorem mkParts {K : PySem.W.Frag} {mg : Str → Option Value} {h : Heap} {a : Addr} {dd : Option Addr} {sl : Array (Option Value)} {n : Nat} {t1 t2 t3 t4 : Tok} (X : K.In h) (G : h.Ns mainGlobals mg) (ha : PySem.W.nsIn K mainGlobals "PARTS" = some (some (.ref a)))
    (l : K.lookup a = some ⟨.type "tuple", dd, .seq #[.int 1 t1, .int 10 t2, .int 100 t3, .int 1000 t4] n, sl⟩) : ∃ a, mg "PARTS" = some (.ref a) ∧ ∀ H, SqT K H a [.int 1, .int 10, .int 100, .int 1000] :=
  ⟨a, PySem.W.mg_of X G ha, fun H => .inr ⟨_, _, _, l, rfl, rfl, (by show 4 ≤ sizeLine; decide), .cons ⟨_, rfl⟩ (.cons ⟨_, rfl⟩ (.cons ⟨_, rfl⟩ (.cons ⟨_, rfl⟩ .nil)))⟩⟩
theorem mkRounds {K : PySem.W.Frag} {mg : Str → Option Value} {h : Heap} {a : Addr} {dd : Option Addr} {sl : Array (Option Value)} {n : Nat} {t1 t2 t3 t4 : Tok} (X : K.In h) (G : h.Ns mainGlobals mg) (ha : PySem.W.nsIn K mainGlobals "ROUNDINGS" = some (some (.ref a)))
    (l : K.lookup a = some ⟨.type "tuple", dd, .seq #[.str "down" t1, .str "up" t2, .str "near" t3, .str "even" t4] n, sl⟩) : ∃ a, mg "ROUNDINGS" = some (.ref a) ∧ ∀ H, SqT K H a [.str "down", .str "up", .str "near", .str "even"] :=
  ⟨a, PySem.W.mg_of X G ha, fun H => .inr ⟨_, _, _, l, rfl, rfl, (by show 4 ≤ sizeLine; decide), .cons ⟨_, rfl⟩ (.cons ⟨_, rfl⟩ (.cons ⟨_, rfl⟩ (.cons ⟨_, rfl⟩ .nil)))⟩⟩
theorem mkG {K : PySem.W.Frag} {mg : Str → Option Value} {h : Heap} {x : Str} {v u : Value} (X : K.In h) (G : h.Ns mainGlobals mg) (a : PySem.W.nsIn K mainGlobals x = some (some v)) (e : v = u) : mg x = some u := e ▸ PySem.W.mg_of X G a
theorem mkN {K : PySem.W.Frag} {mg : Str → Option Value} {h : Heap} {x : Str} (X : K.In h) (G : h.Ns mainGlobals mg) (a : PySem.W.nsIn K mainGlobals x = some none) : mg x = none := PySem.W.mg_none_of X G a
/-- all together -/
theorem all_mk {l : PySem.W.OpenLaw} {w : World} {K : PySem.W.Frag} {h : Heap} {mg : Str → Option Value} {fa : Addr} (X : K.In h) (G : h.Ns mainGlobals mg) (hfa : mg "law" = some (.ref fa))
    {fl : Addr} {oc : Value} {od an : Option Addr} {sl : Array (Option Value)} {kV dc pm cd ct : Value}
    (la : PySem.W.nsIn K mainGlobals "law" = some (some (.ref fl))) (ll : K.lookup fl = some ⟨oc, od, .func (PySem.W.fnOf "law" "law" (defArgs sLaw) (defBody sLaw) (defScope sLaw) .none kV dc pm an cd ct), sl⟩) (lc : PySem.W.codeIn K cd "law" = true) (lk : PySem.W.keepIn K (.ref fl) = true)
    (B : Bt mg) (Gk : Gc K mg) (L : { L : LadC K mg // LadI K L.C }) (gM : ∃ t, mg "MOST_DIGITS" = some (.int 24 t)) (b_sum : mg "sum" = none) (c_MOST_ROWS : ∃ t, mg "MOST_ROWS" = some (.int 12 t)) (c_MOST_TOLD : ∃ t, mg "MOST_TOLD" = some (.int 5 t)) (c_ENOUGH_CHANGES_alike : ∃ t, mg "ENOUGH_CHANGES_alike" = some (.int 3 t)) (c_ENOUGH_CHANGES_tells : ∃ t, mg "ENOUGH_CHANGES_tells" = some (.int 6 t))
    (dInteger : Dd K mg "is_integer" sInteger ["value"])
    (dWithin : Dd K mg "is_within" sWithin ["value", "low", "high"])
    (dUnit : Dd K mg "is_unit" sUnit ["unit"])
    (dUName : Dd K mg "is_unit_name" sUName ["name"])
    (dFits : Dd K mg "fits_behind" sFits ["before", "unit"])
    (dCUnits : Dd K mg "check_units" sCUnits ["units"])
    (dCDec : Dd K mg "check_decimals" sCDec ["units", "decimals"])
    (dCRnd : Dd K mg "check_rounding" sCRnd ["rounding"])
    (dPlaced : Dd K mg "placed" sPlaced ["ladder", "number"])
    (dRounded : Dd K mg "rounded" sRounded ["number", "step", "rounding"])
    (dGoes : Dd K mg "goes_up" sGoes ["below", "rest", "step", "rounding"])
    (dCar : Dd K mg "is_carried" sCar ["ladder", "place", "mark"])
    (dWritten : Dd K mg "written" sWritten ["ladder", "place", "mark"])
    (dFigOf : Dd K mg "figure_of" sFigOf ["ladder", "number"])
    (dCLad : Dd K mg "check_ladder" sCLad ["ladder"])
    (dPFig : Dd K mg "parts_of_figure" sPFig ["ladder", "text"])
    (dPartsOf : Dd K mg "parts_of" sPartsOf ["ladder", "text"])
    (dPlaceU : Dd K mg "place_of_unit" sPlaceU ["ladder", "name"])
    (dIsMark : Dd K mg "is_mark" sIsMark ["digits"])
    (dFirstR : Dd K mg "first_rounded" sFirstR ["mark", "step", "rounding"])
    (dStartOf : Dd K mg "start_of" sStartOf ["ladder", "place"])
    (dNums : Dd K mg "numbers_shown" sNums ["ladder", "place", "mark"])
    (dLastMark : Dd K mg "last_mark" sLastMark ["ladder", "place"])
    (dStarts : Dd K mg "starts_of" sStarts ["ladder"])
    (dNextC : Dd K mg "next_changes" sNextC ["ladder", "number", "many"])
    (dPoss : Dd K mg "possible_first_ones" sPoss ["ladder", "other"])
    (dFirstU : Dd K mg "first_unlike" sFirstU ["ladder", "other"])
    (dAlike : Dd K mg "are_alike" sAlike ["ladder", "other"])
    (dFirstD : Dd K mg "first_drift" sFirstD ["ladder"])
    (dSteady : Dd K mg "is_steady" sSteady ["ladder"])
    (dIsChg : Dd K mg "is_change" sIsChg ["ladder", "number"])
    (dPossC : Dd K mg "possible_changes" sPossC ["ladder", "other"])
    (dFirstT : Dd K mg "first_untold" sFirstT ["ladder", "other"])
    (dTells : Dd K mg "tells" sTells ["ladder", "other"])
    (dCTexts : Dd K mg "check_texts" sCTexts ["ladder", "texts"])
    (dRangesOf : Dd K mg "ranges_of" sRangesOf ["ladder", "texts"])
    (dAddedUp : Dd K mg "added_up" sAddedUp ["ranges"])
    (dNarrowed : Dd K mg "narrowed" sNarrowed ["ranges", "wanted"])
    (dToldC : Dd K mg "told_column" sToldC ["ladder", "texts", "total"])
    (dCheckC : Dd K mg "check_column" sCheckC ["ladder", "texts", "total"])
    (dColumn : Dd K mg "column" sColumn ["ladder", "texts", "total"])
    (dNumF : Dd K mg "numbers_for" sNumF ["ladder", "texts", "total"])
    (dZeroI : Dd K mg "is_from_zero" sZeroI ["value"])
    (dZeros : Dd K mg "are_from_zero" sZeros ["paper", "many"])
    (dLadOf : Dd K mg "ladder_of" sLadOf ["told"])
    (dOneL : Dd K mg "one_ladder" sOneL ["told"])
    (dTwoL : Dd K mg "two_ladders" sTwoL ["told", "other_told"])
    (dLCol : Dd K mg "ladder_and_column" sLCol ["told", "texts", "total"])
    (dShA : Dd K mg "shows_alike" sShA ["paper", "ladder", "other"])
    (dShU : Dd K mg "shows_unlike" sShU ["paper", "ladder", "other"])
    (dShS : Dd K mg "shows_steady" sShS ["paper", "ladder"])
    (dShD : Dd K mg "shows_drifting" sShD ["paper", "ladder"])
    (dShT : Dd K mg "shows_telling" sShT ["paper", "ladder", "other"])
    (dShH : Dd K mg "shows_hiding" sShH ["paper", "ladder", "other"])
    (dShP : Dd K mg "shows_possible" sShP ["paper", "ladder", "texts", "total"])
    (dShI : Dd K mg "shows_impossible" sShI ["paper", "ladder", "texts", "total"])
    (dHolds : Dd K mg "holds" sHolds ["claim", "paper"])
    (dCertA : Dd K mg "certify_alike" sCertA ["ladder", "other"])
    (dCertS : Dd K mg "certify_steady" sCertS ["ladder"])
    (dCertT : Dd K mg "certify_tells" sCertT ["ladder", "other"])
    (dCertC : Dd K mg "certify_column" sCertC ["ladder", "texts", "total"])
    (dSpring : Dd K mg "_law_spring" sSpring ["_law_script", "_law_k"])
    (dGulp : Dd K mg "_law_gulp" sGulp ["_law_spring_here", "_law_many"])
    (dSome : Dd K mg "_law_some_of" sSome ["_law_spring_here", "_law_things"])
    (dUnits : Dd K mg "_law_units" sUnits ["_law_spring_here", "_law_part", "_law_small"])
    (dTold : Dd K mg "_law_told" sTold ["_law_spring_here", "_law_small"])
    (dNear : Dd K mg "_law_near" sNear ["_law_spring_here", "_law_told_here"])
    (dMade : Dd K mg "_law_made" sMade ["_law_told_here"])
    (dLRnd : Dd K mg "_law_rounded" sLRnd ["_law_sort", "_law_top_here", "_law_step"])
    (dLParts : Dd K mg "_law_parts" sLParts ["_law_told_here", "_law_top_here"])
    (dLWrit : Dd K mg "_law_written" sLWrit ["_law_told_here", "_law_at", "_law_mark"])
    (dLSeen : Dd K mg "_law_seen" sLSeen ["_law_told_here", "_law_top_here"])
    (dTop : Dd K mg "_law_top" sTop ["_law_spring_here", "_law_told_here"])
    (dColR : Dd K mg "_law_column_right" sColR50 ["_law_spring_here", "_law_told_here", "_law_made_here"])
    (dRight : Dd K mg "_law_right" sRight50 ["_law_spring_here"])
    (FM : FormsAll K w mg dOneL.f dTwoL.f dLCol.f dShA.f dShU.f dShS.f dShD.f dShT.f dShH.f dShP.f dShI.f)
    (gE : ∃ CE, mg "InputError" = some (.ref CE)) :
    ∃ fd : FuncData, (∀ (s : Shared) (v : Value), BindsTo s fd ⟨[v], []⟩ [("_law_script", v)]) ∧ ∀ base : Heap, K.In base → base.Ns mainGlobals mg → FnOk l.prog w K mg base CX0 13 fa fd ["_law_script"] (spLaw K) := by
  have e := hfa.symm.trans (PySem.W.mg_of X G la)
  cases e
  obtain ⟨L, I⟩ := L
  refine ⟨_, fun s v => .of_eq rfl, fun base _ _ => ok_law (kR := 10) (fun_mk (st := sLaw) ll lc lk) dSpring.F dSpring.b dSpring.g dRight.F.kp ?_ dRight.b dRight.g B⟩
  have GS := ok_startof (P := l.prog) (w := w) (base := base) dStartOf dFirstR L
  have GSt := ok_starts (P := l.prog) (w := w) (base := base) dStarts dStartOf L rfl B GS
  have GPl := ok_placed (P := l.prog) (w := w) (base := base) dPlaced dRounded dGoes dCar L B
  have GN := ok_nextc (P := l.prog) (w := w) (base := base) dNextC dFirstR dPlaced L rfl B (ok_firstr dFirstR) GPl
  have GP := ok_poss (P := l.prog) (w := w) (base := base) dPoss dStarts dNextC c_ENOUGH_CHANGES_alike GSt GN
  have GC := ok_clad (P := l.prog) (w := w) (base := base) dCLad L I B
  have GFO := ok_figof (P := l.prog) (w := w) (base := base) dFigOf dPlaced dRounded dGoes dCar dWritten L B
  have GU := ok_firstu (P := l.prog) (w := w) (base := base) dFirstU dPoss dCLad dFigOf B GP GC GFO
  have GI := ok_ischg (P := l.prog) (w := w) (base := base) dIsChg dFigOf GFO
  have GPC := ok_possc (P := l.prog) (w := w) (base := base) dPossC dStarts dNextC c_ENOUGH_CHANGES_tells GSt GN
  have GFT := ok_firstt (P := l.prog) (w := w) (base := base) dFirstT dPossC dCLad dIsChg B GPC GC GI
  have GPO := ok_partsof (P := l.prog) (w := w) (base := base) dPartsOf dPlaceU dIsMark dWritten L B Gk gM
  have GF := ok_pfig (P := l.prog) (w := w) (base := base) dPFig dPartsOf GPO
  have GNu := ok_nums (P := l.prog) (w := w) (base := base) dNums dStartOf dFirstR L B
  have GLM := ok_lastmark (P := l.prog) (w := w) (base := base) dLastMark dStartOf dFirstR dRounded dGoes L B
  have GFd := ok_firstd (P := l.prog) (w := w) (base := base) dFirstD dCLad dLastMark dStartOf dNums L B GC GLM GS GNu
  have GRn := ok_rangesof (P := l.prog) (w := w) (base := base) dRangesOf dPartsOf dNums GPO GNu
  have GCT := ok_ctexts (P := l.prog) (w := w) (base := base) dCTexts dPartsOf B c_MOST_ROWS GPO
  have GCC := ok_checkc (P := l.prog) (w := w) (base := base) dCheckC dCLad dCTexts dPFig GC GCT GF
  have GTC := ok_toldc (P := l.prog) (w := w) (base := base) dToldC dRangesOf dAddedUp dNarrowed B b_sum GRn
  have GCo := ok_column (P := l.prog) (w := w) (base := base) dColumn dCheckC dToldC GCC GTC
  have GNf := ok_numf (P := l.prog) (w := w) (base := base) dNumF dColumn dAddedUp B b_sum GCo
  have GLI := ok_linit (P := l.prog) (w := w) (base := base) L dCUnits dUnit dUName ⟨dWithin, dInteger⟩ dFits dCDec dCRnd B Gk
  have GLO := ok_ladof (P := l.prog) (w := w) (base := base) dLadOf L B c_MOST_TOLD GLI
  have GZ := ok_zero (P := l.prog) (w := w) (base := base) dZeroI dInteger B
  have GZs := ok_zeros (P := l.prog) (w := w) (base := base) dZeros dZeroI B GZ
  have GHo := ok_hall (P := l.prog) (w := w) (base := base) (C := L.C) dHolds dOneL dTwoL dLCol dShA dShU dShS dShD dShT dShH dShP dShI B FM gE (ok_onel dOneL dLadOf GLO) (ok_twol dTwoL dLadOf GLO) (ok_lcol dLCol dLadOf dCheckC GLO GCC)
    (ok_sha dShA dZeros dAlike GZs (ok_alike dAlike dFirstU GU)) (ok_shu dShU dZeroI dFigOf GZ GFO) (ok_shs dShS dZeros dSteady GZs (ok_steady dSteady dFirstD GFd)) (ok_shd dShD dZeroI dPlaced L GZ GPl) (ok_sht dShT dZeros dTells GZs (ok_tells dTells dFirstT GFT)) (ok_shh dShH dZeros dFigOf GZs GFO) (ok_shp dShP dZeros dFigOf B b_sum GZs GFO) (ok_shi dShI dZeros dColumn GZs GCo)
  have GCA := ok_certa (P := l.prog) (w := w) (base := base) dCertA dFirstU L GU
  have GCS := ok_certs (P := l.prog) (w := w) (base := base) dCertS dFirstD L GFd
  have GCTl := ok_certt (P := l.prog) (w := w) (base := base) dCertT dFirstT L GFT
  have GCCo := ok_certc (P := l.prog) (w := w) (base := base) dCertC dNumF L GNf
  have GSe := ok_lseen (P := l.prog) (w := w) (base := base) dLSeen dLParts dLWrit dLRnd B
  have GTp := ok_top (P := l.prog) (w := w) (base := base) dTop dSome dGulp B
  have GCR := ok_colr (P := l.prog) (w := w) (base := base) dColR dGulp dSome dTop dLSeen dCertC dHolds B b_sum GTp GSe GCCo GHo
  exact ok_right dRight dGulp dTold dNear dMade dCertA dCertS dCertT dHolds dColR B (ok_told dTold dUnits dSome dGulp B) (ok_near dNear dSome dGulp B) (ok_made dMade L GLI) GCA GCS GCTl GHo GCR
end My

open PySem PySem.W PyProof.Rows
set_option maxRecDepth 100000 in
set_option maxHeartbeats 0 in
theorem PySem.Challenge.cw_shortfigures_k50_whole_claims_and_their_holds : PySem.Challenge.rw_shortfigures_k50_whole_claims_and_their.Holds := by
  w_on; o_law; k_head; (case hw => w_witness2)
  k_fill
  refine L2.walk_of (l := PySem.Challenge.rw_shortfigures_k50_whole_claims_and_their) (n := 63) (k := 13) (x := "_law_script") (CX := fun _ => L2.CX0) (sp := fun w => My.spLaw _) rfl (by decide) rfl ⟨rfl, by decide, by decide⟩ (fun w h Y => PySem.W.kIn_of Y) ?F (fun _ _ a ns hl _ hS => ⟨a, ns, rfl, hS, hl, fun _ => rfl⟩) (fun _ _ _ _ _ h => h)
  case F =>
    intro w mg fa h KX G hmg
    refine' My.all_mk KX G hmg ?la ?ll ?lc ?lk ⟨My.mkN KX G ?b0, My.mkN KX G ?b1, My.mkN KX G ?b2, My.mkN KX G ?b3, My.mkN KX G ?b4, My.mkN KX G ?b5, My.mkN KX G ?b6, My.mkN KX G ?b7, My.mkN KX G ?b8, My.mkN KX G ?b9, My.mkN KX G ?b10, My.mkN KX G ?b11, My.mkN KX G ?b12⟩ ⟨⟨_, My.mkG KX G ?g1 ?e1⟩, ⟨_, My.mkG KX G ?g2 ?e2⟩, ⟨_, My.mkG KX G ?g3 ?e3⟩, ⟨_, My.mkG KX G ?g4 ?e4⟩, ⟨_, My.mkG KX G ?g5 ?e5⟩, ⟨_, My.mkG KX G ?g6 ?e6⟩, My.mkParts KX G ?g7 ?g8, My.mkRounds KX G ?g9 ?g10⟩
      (My.mkL KX G ?LaC ?La ?Li ?Ll ?Lc ?Lk ?Lpg ?Lhd ?Lpo ?Lsa ?Lmk ?Lkc ?Ln1 ?Ln2 ?Ln3 ?Ln4 ?Ln5 ?Ln6 ?Ln7 ?Ln8 ?Li1 ?Li2 ?Li3 ?Li4)
      ⟨_, My.mkG KX G ?gm ?em⟩
      (My.mkN KX G ?b_sum)
      ⟨_, My.mkG KX G ?c_MOST_ROWS ?ce_MOST_ROWS⟩
      ⟨_, My.mkG KX G ?c_MOST_TOLD ?ce_MOST_TOLD⟩
      ⟨_, My.mkG KX G ?c_ENOUGH_CHANGES_alike ?ce_ENOUGH_CHANGES_alike⟩
      ⟨_, My.mkG KX G ?c_ENOUGH_CHANGES_tells ?ce_ENOUGH_CHANGES_tells⟩
      (My.mkD (x := "is_integer") (st := My.sInteger) (ps := ["value"]) KX G (fun _ _ _ _ _ _ us hl => match us, hl with | [_], _ => rfl) ?adInteger ?ldInteger ?cdInteger ?kdInteger)
      (My.mkD (x := "is_within") (st := My.sWithin) (ps := ["value", "low", "high"]) KX G (fun _ _ _ _ _ _ us hl => match us, hl with | [_, _, _], _ => rfl) ?adWithin ?ldWithin ?cdWithin ?kdWithin)
      (My.mkD (x := "is_unit") (st := My.sUnit) (ps := ["unit"]) KX G (fun _ _ _ _ _ _ us hl => match us, hl with | [_], _ => rfl) ?adUnit ?ldUnit ?cdUnit ?kdUnit)
      (My.mkD (x := "is_unit_name") (st := My.sUName) (ps := ["name"]) KX G (fun _ _ _ _ _ _ us hl => match us, hl with | [_], _ => rfl) ?adUName ?ldUName ?cdUName ?kdUName)
      (My.mkD (x := "fits_behind") (st := My.sFits) (ps := ["before", "unit"]) KX G (fun _ _ _ _ _ _ us hl => match us, hl with | [_, _], _ => rfl) ?adFits ?ldFits ?cdFits ?kdFits)
      (My.mkD (x := "check_units") (st := My.sCUnits) (ps := ["units"]) KX G (fun _ _ _ _ _ _ us hl => match us, hl with | [_], _ => rfl) ?adCUnits ?ldCUnits ?cdCUnits ?kdCUnits)
      (My.mkD (x := "check_decimals") (st := My.sCDec) (ps := ["units", "decimals"]) KX G (fun _ _ _ _ _ _ us hl => match us, hl with | [_, _], _ => rfl) ?adCDec ?ldCDec ?cdCDec ?kdCDec)
      (My.mkD (x := "check_rounding") (st := My.sCRnd) (ps := ["rounding"]) KX G (fun _ _ _ _ _ _ us hl => match us, hl with | [_], _ => rfl) ?adCRnd ?ldCRnd ?cdCRnd ?kdCRnd)
      (My.mkD (x := "placed") (st := My.sPlaced) (ps := ["ladder", "number"]) KX G (fun _ _ _ _ _ _ us hl => match us, hl with | [_, _], _ => rfl) ?adPlaced ?ldPlaced ?cdPlaced ?kdPlaced)
      (My.mkD (x := "rounded") (st := My.sRounded) (ps := ["number", "step", "rounding"]) KX G (fun _ _ _ _ _ _ us hl => match us, hl with | [_, _, _], _ => rfl) ?adRounded ?ldRounded ?cdRounded ?kdRounded)
      (My.mkD (x := "goes_up") (st := My.sGoes) (ps := ["below", "rest", "step", "rounding"]) KX G (fun _ _ _ _ _ _ us hl => match us, hl with | [_, _, _, _], _ => rfl) ?adGoes ?ldGoes ?cdGoes ?kdGoes)
      (My.mkD (x := "is_carried") (st := My.sCar) (ps := ["ladder", "place", "mark"]) KX G (fun _ _ _ _ _ _ us hl => match us, hl with | [_, _, _], _ => rfl) ?adCar ?ldCar ?cdCar ?kdCar)
      (My.mkD (x := "written") (st := My.sWritten) (ps := ["ladder", "place", "mark"]) KX G (fun _ _ _ _ _ _ us hl => match us, hl with | [_, _, _], _ => rfl) ?adWritten ?ldWritten ?cdWritten ?kdWritten)
      (My.mkD (x := "figure_of") (st := My.sFigOf) (ps := ["ladder", "number"]) KX G (fun _ _ _ _ _ _ us hl => match us, hl with | [_, _], _ => rfl) ?adFigOf ?ldFigOf ?cdFigOf ?kdFigOf)
      (My.mkD (x := "check_ladder") (st := My.sCLad) (ps := ["ladder"]) KX G (fun _ _ _ _ _ _ us hl => match us, hl with | [_], _ => rfl) ?adCLad ?ldCLad ?cdCLad ?kdCLad)
      (My.mkD (x := "parts_of_figure") (st := My.sPFig) (ps := ["ladder", "text"]) KX G (fun _ _ _ _ _ _ us hl => match us, hl with | [_, _], _ => rfl) ?adPFig ?ldPFig ?cdPFig ?kdPFig)
      (My.mkD (x := "parts_of") (st := My.sPartsOf) (ps := ["ladder", "text"]) KX G (fun _ _ _ _ _ _ us hl => match us, hl with | [_, _], _ => rfl) ?adPartsOf ?ldPartsOf ?cdPartsOf ?kdPartsOf)
      (My.mkD (x := "place_of_unit") (st := My.sPlaceU) (ps := ["ladder", "name"]) KX G (fun _ _ _ _ _ _ us hl => match us, hl with | [_, _], _ => rfl) ?adPlaceU ?ldPlaceU ?cdPlaceU ?kdPlaceU)
      (My.mkD (x := "is_mark") (st := My.sIsMark) (ps := ["digits"]) KX G (fun _ _ _ _ _ _ us hl => match us, hl with | [_], _ => rfl) ?adIsMark ?ldIsMark ?cdIsMark ?kdIsMark)
      (My.mkD (x := "first_rounded") (st := My.sFirstR) (ps := ["mark", "step", "rounding"]) KX G (fun _ _ _ _ _ _ us hl => match us, hl with | [_, _, _], _ => rfl) ?adFirstR ?ldFirstR ?cdFirstR ?kdFirstR)
      (My.mkD (x := "start_of") (st := My.sStartOf) (ps := ["ladder", "place"]) KX G (fun _ _ _ _ _ _ us hl => match us, hl with | [_, _], _ => rfl) ?adStartOf ?ldStartOf ?cdStartOf ?kdStartOf)
      (My.mkD (x := "numbers_shown") (st := My.sNums) (ps := ["ladder", "place", "mark"]) KX G (fun _ _ _ _ _ _ us hl => match us, hl with | [_, _, _], _ => rfl) ?adNums ?ldNums ?cdNums ?kdNums)
      (My.mkD (x := "last_mark") (st := My.sLastMark) (ps := ["ladder", "place"]) KX G (fun _ _ _ _ _ _ us hl => match us, hl with | [_, _], _ => rfl) ?adLastMark ?ldLastMark ?cdLastMark ?kdLastMark)
      (My.mkD (x := "starts_of") (st := My.sStarts) (ps := ["ladder"]) KX G (fun _ _ _ _ _ _ us hl => match us, hl with | [_], _ => rfl) ?adStarts ?ldStarts ?cdStarts ?kdStarts)
      (My.mkD (x := "next_changes") (st := My.sNextC) (ps := ["ladder", "number", "many"]) KX G (fun _ _ _ _ _ _ us hl => match us, hl with | [_, _, _], _ => rfl) ?adNextC ?ldNextC ?cdNextC ?kdNextC)
      (My.mkD (x := "possible_first_ones") (st := My.sPoss) (ps := ["ladder", "other"]) KX G (fun _ _ _ _ _ _ us hl => match us, hl with | [_, _], _ => rfl) ?adPoss ?ldPoss ?cdPoss ?kdPoss)
      (My.mkD (x := "first_unlike") (st := My.sFirstU) (ps := ["ladder", "other"]) KX G (fun _ _ _ _ _ _ us hl => match us, hl with | [_, _], _ => rfl) ?adFirstU ?ldFirstU ?cdFirstU ?kdFirstU)
      (My.mkD (x := "are_alike") (st := My.sAlike) (ps := ["ladder", "other"]) KX G (fun _ _ _ _ _ _ us hl => match us, hl with | [_, _], _ => rfl) ?adAlike ?ldAlike ?cdAlike ?kdAlike)
      (My.mkD (x := "first_drift") (st := My.sFirstD) (ps := ["ladder"]) KX G (fun _ _ _ _ _ _ us hl => match us, hl with | [_], _ => rfl) ?adFirstD ?ldFirstD ?cdFirstD ?kdFirstD)
      (My.mkD (x := "is_steady") (st := My.sSteady) (ps := ["ladder"]) KX G (fun _ _ _ _ _ _ us hl => match us, hl with | [_], _ => rfl) ?adSteady ?ldSteady ?cdSteady ?kdSteady)
      (My.mkD (x := "is_change") (st := My.sIsChg) (ps := ["ladder", "number"]) KX G (fun _ _ _ _ _ _ us hl => match us, hl with | [_, _], _ => rfl) ?adIsChg ?ldIsChg ?cdIsChg ?kdIsChg)
      (My.mkD (x := "possible_changes") (st := My.sPossC) (ps := ["ladder", "other"]) KX G (fun _ _ _ _ _ _ us hl => match us, hl with | [_, _], _ => rfl) ?adPossC ?ldPossC ?cdPossC ?kdPossC)
      (My.mkD (x := "first_untold") (st := My.sFirstT) (ps := ["ladder", "other"]) KX G (fun _ _ _ _ _ _ us hl => match us, hl with | [_, _], _ => rfl) ?adFirstT ?ldFirstT ?cdFirstT ?kdFirstT)
      (My.mkD (x := "tells") (st := My.sTells) (ps := ["ladder", "other"]) KX G (fun _ _ _ _ _ _ us hl => match us, hl with | [_, _], _ => rfl) ?adTells ?ldTells ?cdTells ?kdTells)
      (My.mkD (x := "check_texts") (st := My.sCTexts) (ps := ["ladder", "texts"]) KX G (fun _ _ _ _ _ _ us hl => match us, hl with | [_, _], _ => rfl) ?adCTexts ?ldCTexts ?cdCTexts ?kdCTexts)
      (My.mkD (x := "ranges_of") (st := My.sRangesOf) (ps := ["ladder", "texts"]) KX G (fun _ _ _ _ _ _ us hl => match us, hl with | [_, _], _ => rfl) ?adRangesOf ?ldRangesOf ?cdRangesOf ?kdRangesOf)
      (My.mkD (x := "added_up") (st := My.sAddedUp) (ps := ["ranges"]) KX G (fun _ _ _ _ _ _ us hl => match us, hl with | [_], _ => rfl) ?adAddedUp ?ldAddedUp ?cdAddedUp ?kdAddedUp)
      (My.mkD (x := "narrowed") (st := My.sNarrowed) (ps := ["ranges", "wanted"]) KX G (fun _ _ _ _ _ _ us hl => match us, hl with | [_, _], _ => rfl) ?adNarrowed ?ldNarrowed ?cdNarrowed ?kdNarrowed)
      (My.mkD (x := "told_column") (st := My.sToldC) (ps := ["ladder", "texts", "total"]) KX G (fun _ _ _ _ _ _ us hl => match us, hl with | [_, _, _], _ => rfl) ?adToldC ?ldToldC ?cdToldC ?kdToldC)
      (My.mkD (x := "check_column") (st := My.sCheckC) (ps := ["ladder", "texts", "total"]) KX G (fun _ _ _ _ _ _ us hl => match us, hl with | [_, _, _], _ => rfl) ?adCheckC ?ldCheckC ?cdCheckC ?kdCheckC)
      (My.mkD (x := "column") (st := My.sColumn) (ps := ["ladder", "texts", "total"]) KX G (fun _ _ _ _ _ _ us hl => match us, hl with | [_, _, _], _ => rfl) ?adColumn ?ldColumn ?cdColumn ?kdColumn)
      (My.mkD (x := "numbers_for") (st := My.sNumF) (ps := ["ladder", "texts", "total"]) KX G (fun _ _ _ _ _ _ us hl => match us, hl with | [_, _, _], _ => rfl) ?adNumF ?ldNumF ?cdNumF ?kdNumF)
      (My.mkD (x := "is_from_zero") (st := My.sZeroI) (ps := ["value"]) KX G (fun _ _ _ _ _ _ us hl => match us, hl with | [_], _ => rfl) ?adZeroI ?ldZeroI ?cdZeroI ?kdZeroI)
      (My.mkD (x := "are_from_zero") (st := My.sZeros) (ps := ["paper", "many"]) KX G (fun _ _ _ _ _ _ us hl => match us, hl with | [_, _], _ => rfl) ?adZeros ?ldZeros ?cdZeros ?kdZeros)
      (My.mkD (x := "ladder_of") (st := My.sLadOf) (ps := ["told"]) KX G (fun _ _ _ _ _ _ us hl => match us, hl with | [_], _ => rfl) ?adLadOf ?ldLadOf ?cdLadOf ?kdLadOf)
      (My.mkD (x := "one_ladder") (st := My.sOneL) (ps := ["told"]) KX G (fun _ _ _ _ _ _ us hl => match us, hl with | [_], _ => rfl) ?adOneL ?ldOneL ?cdOneL ?kdOneL)
      (My.mkD (x := "two_ladders") (st := My.sTwoL) (ps := ["told", "other_told"]) KX G (fun _ _ _ _ _ _ us hl => match us, hl with | [_, _], _ => rfl) ?adTwoL ?ldTwoL ?cdTwoL ?kdTwoL)
      (My.mkD (x := "ladder_and_column") (st := My.sLCol) (ps := ["told", "texts", "total"]) KX G (fun _ _ _ _ _ _ us hl => match us, hl with | [_, _, _], _ => rfl) ?adLCol ?ldLCol ?cdLCol ?kdLCol)
      (My.mkD (x := "shows_alike") (st := My.sShA) (ps := ["paper", "ladder", "other"]) KX G (fun _ _ _ _ _ _ us hl => match us, hl with | [_, _, _], _ => rfl) ?adShA ?ldShA ?cdShA ?kdShA)
      (My.mkD (x := "shows_unlike") (st := My.sShU) (ps := ["paper", "ladder", "other"]) KX G (fun _ _ _ _ _ _ us hl => match us, hl with | [_, _, _], _ => rfl) ?adShU ?ldShU ?cdShU ?kdShU)
      (My.mkD (x := "shows_steady") (st := My.sShS) (ps := ["paper", "ladder"]) KX G (fun _ _ _ _ _ _ us hl => match us, hl with | [_, _], _ => rfl) ?adShS ?ldShS ?cdShS ?kdShS)
      (My.mkD (x := "shows_drifting") (st := My.sShD) (ps := ["paper", "ladder"]) KX G (fun _ _ _ _ _ _ us hl => match us, hl with | [_, _], _ => rfl) ?adShD ?ldShD ?cdShD ?kdShD)
      (My.mkD (x := "shows_telling") (st := My.sShT) (ps := ["paper", "ladder", "other"]) KX G (fun _ _ _ _ _ _ us hl => match us, hl with | [_, _, _], _ => rfl) ?adShT ?ldShT ?cdShT ?kdShT)
      (My.mkD (x := "shows_hiding") (st := My.sShH) (ps := ["paper", "ladder", "other"]) KX G (fun _ _ _ _ _ _ us hl => match us, hl with | [_, _, _], _ => rfl) ?adShH ?ldShH ?cdShH ?kdShH)
      (My.mkD (x := "shows_possible") (st := My.sShP) (ps := ["paper", "ladder", "texts", "total"]) KX G (fun _ _ _ _ _ _ us hl => match us, hl with | [_, _, _, _], _ => rfl) ?adShP ?ldShP ?cdShP ?kdShP)
      (My.mkD (x := "shows_impossible") (st := My.sShI) (ps := ["paper", "ladder", "texts", "total"]) KX G (fun _ _ _ _ _ _ us hl => match us, hl with | [_, _, _, _], _ => rfl) ?adShI ?ldShI ?cdShI ?kdShI)
      (My.mkD (x := "holds") (st := My.sHolds) (ps := ["claim", "paper"]) KX G (fun _ _ _ _ _ _ us hl => match us, hl with | [_, _], _ => rfl) ?adHolds ?ldHolds ?cdHolds ?kdHolds)
      (My.mkD (x := "certify_alike") (st := My.sCertA) (ps := ["ladder", "other"]) KX G (fun _ _ _ _ _ _ us hl => match us, hl with | [_, _], _ => rfl) ?adCertA ?ldCertA ?cdCertA ?kdCertA)
      (My.mkD (x := "certify_steady") (st := My.sCertS) (ps := ["ladder"]) KX G (fun _ _ _ _ _ _ us hl => match us, hl with | [_], _ => rfl) ?adCertS ?ldCertS ?cdCertS ?kdCertS)
      (My.mkD (x := "certify_tells") (st := My.sCertT) (ps := ["ladder", "other"]) KX G (fun _ _ _ _ _ _ us hl => match us, hl with | [_, _], _ => rfl) ?adCertT ?ldCertT ?cdCertT ?kdCertT)
      (My.mkD (x := "certify_column") (st := My.sCertC) (ps := ["ladder", "texts", "total"]) KX G (fun _ _ _ _ _ _ us hl => match us, hl with | [_, _, _], _ => rfl) ?adCertC ?ldCertC ?cdCertC ?kdCertC)
      (My.mkD (x := "_law_spring") (st := My.sSpring) (ps := ["_law_script", "_law_k"]) KX G (fun _ _ _ _ _ _ us hl => match us, hl with | [_, _], _ => rfl) ?adSpring ?ldSpring ?cdSpring ?kdSpring)
      (My.mkD (x := "_law_gulp") (st := My.sGulp) (ps := ["_law_spring_here", "_law_many"]) KX G (fun _ _ _ _ _ _ us hl => match us, hl with | [_, _], _ => rfl) ?adGulp ?ldGulp ?cdGulp ?kdGulp)
      (My.mkD (x := "_law_some_of") (st := My.sSome) (ps := ["_law_spring_here", "_law_things"]) KX G (fun _ _ _ _ _ _ us hl => match us, hl with | [_, _], _ => rfl) ?adSome ?ldSome ?cdSome ?kdSome)
      (My.mkD (x := "_law_units") (st := My.sUnits) (ps := ["_law_spring_here", "_law_part", "_law_small"]) KX G (fun _ _ _ _ _ _ us hl => match us, hl with | [_, _, _], _ => rfl) ?adUnits ?ldUnits ?cdUnits ?kdUnits)
      (My.mkD (x := "_law_told") (st := My.sTold) (ps := ["_law_spring_here", "_law_small"]) KX G (fun _ _ _ _ _ _ us hl => match us, hl with | [_, _], _ => rfl) ?adTold ?ldTold ?cdTold ?kdTold)
      (My.mkD (x := "_law_near") (st := My.sNear) (ps := ["_law_spring_here", "_law_told_here"]) KX G (fun _ _ _ _ _ _ us hl => match us, hl with | [_, _], _ => rfl) ?adNear ?ldNear ?cdNear ?kdNear)
      (My.mkD (x := "_law_made") (st := My.sMade) (ps := ["_law_told_here"]) KX G (fun _ _ _ _ _ _ us hl => match us, hl with | [_], _ => rfl) ?adMade ?ldMade ?cdMade ?kdMade)
      (My.mkD (x := "_law_rounded") (st := My.sLRnd) (ps := ["_law_sort", "_law_top_here", "_law_step"]) KX G (fun _ _ _ _ _ _ us hl => match us, hl with | [_, _, _], _ => rfl) ?adLRnd ?ldLRnd ?cdLRnd ?kdLRnd)
      (My.mkD (x := "_law_parts") (st := My.sLParts) (ps := ["_law_told_here", "_law_top_here"]) KX G (fun _ _ _ _ _ _ us hl => match us, hl with | [_, _], _ => rfl) ?adLParts ?ldLParts ?cdLParts ?kdLParts)
      (My.mkD (x := "_law_written") (st := My.sLWrit) (ps := ["_law_told_here", "_law_at", "_law_mark"]) KX G (fun _ _ _ _ _ _ us hl => match us, hl with | [_, _, _], _ => rfl) ?adLWrit ?ldLWrit ?cdLWrit ?kdLWrit)
      (My.mkD (x := "_law_seen") (st := My.sLSeen) (ps := ["_law_told_here", "_law_top_here"]) KX G (fun _ _ _ _ _ _ us hl => match us, hl with | [_, _], _ => rfl) ?adLSeen ?ldLSeen ?cdLSeen ?kdLSeen)
      (My.mkD (x := "_law_top") (st := My.sTop) (ps := ["_law_spring_here", "_law_told_here"]) KX G (fun _ _ _ _ _ _ us hl => match us, hl with | [_, _], _ => rfl) ?adTop ?ldTop ?cdTop ?kdTop)
      (My.mkD (x := "_law_column_right") (st := My.sColR50) (ps := ["_law_spring_here", "_law_told_here", "_law_made_here"]) KX G (fun _ _ _ _ _ _ us hl => match us, hl with | [_, _, _], _ => rfl) ?adColR ?ldColR ?cdColR ?kdColR)
      (My.mkD (x := "_law_right") (st := My.sRight50) (ps := ["_law_spring_here"]) KX G (fun _ _ _ _ _ _ us hl => match us, hl with | [_], _ => rfl) ?adRight ?ldRight ?cdRight ?kdRight)
      (My.mkForms KX G ?pa ?pl ?pk ?po ?pw1 ?pl1 ?pw2 ?pl2 ?pw3 ?pl3 ?pw4 ?pl4 ?pw5 ?pl5 ?pw6 ?pl6 ?pw7 ?pl7 ?pw8 ?pl8)
      (My.mkCls KX G ?ie)
    (case la => k_is); (case ll => k_is); (case lc => k_is); (case lk => k_is)
    (case b0 => k_is); (case b1 => k_is); (case b2 => k_is); (case b3 => k_is); (case b4 => k_is); (case b5 => k_is); (case b6 => k_is); (case b7 => k_is); (case b8 => k_is); (case b9 => k_is); (case b10 => k_is); (case b11 => k_is); (case b12 => k_is)
    (case g1 => k_is); (case g2 => k_is); (case g3 => k_is); (case g4 => k_is); (case g5 => k_is); (case g6 => k_is); (case g7 => k_is); (case g8 => k_is); (case g9 => k_is); (case g10 => k_is)
    (case e1 => exact rfl); (case e2 => exact rfl); (case e3 => exact rfl); (case e4 => exact rfl); (case e5 => exact rfl); (case e6 => exact rfl)
    (case LaC => k_is); (case La => k_is); (case Li => k_is); (case Ll => k_is); (case Lc => k_is); (case Lk => k_is); (case Lpg => k_is); (case Lhd => k_is); (case Lpo => k_is); (case Lsa => k_is); (case Lmk => k_is); (case Lkc => k_is); (case Ln1 => k_is); (case Ln2 => k_is); (case Ln3 => k_is); (case Ln4 => k_is); (case Ln5 => k_is); (case Ln6 => k_is); (case Ln7 => k_is); (case Ln8 => k_is); (case Li1 => k_is); (case Li2 => k_is); (case Li3 => k_is); (case Li4 => k_is)
    (case gm => k_is); (case em => exact rfl)
    (case b_sum => k_is)
    (case c_MOST_ROWS => k_is); (case ce_MOST_ROWS => exact rfl)
    (case c_MOST_TOLD => k_is); (case ce_MOST_TOLD => exact rfl)
    (case c_ENOUGH_CHANGES_alike => k_is); (case ce_ENOUGH_CHANGES_alike => exact rfl)
    (case c_ENOUGH_CHANGES_tells => k_is); (case ce_ENOUGH_CHANGES_tells => exact rfl)
    (case adInteger => k_is); (case ldInteger => k_is); (case cdInteger => k_is); (case kdInteger => k_is)
    (case adWithin => k_is); (case ldWithin => k_is); (case cdWithin => k_is); (case kdWithin => k_is)
    (case adUnit => k_is); (case ldUnit => k_is); (case cdUnit => k_is); (case kdUnit => k_is)
    (case adUName => k_is); (case ldUName => k_is); (case cdUName => k_is); (case kdUName => k_is)
    (case adFits => k_is); (case ldFits => k_is); (case cdFits => k_is); (case kdFits => k_is)
    (case adCUnits => k_is); (case ldCUnits => k_is); (case cdCUnits => k_is); (case kdCUnits => k_is)
    (case adCDec => k_is); (case ldCDec => k_is); (case cdCDec => k_is); (case kdCDec => k_is)
    (case adCRnd => k_is); (case ldCRnd => k_is); (case cdCRnd => k_is); (case kdCRnd => k_is)
    (case adPlaced => k_is); (case ldPlaced => k_is); (case cdPlaced => k_is); (case kdPlaced => k_is)
    (case adRounded => k_is); (case ldRounded => k_is); (case cdRounded => k_is); (case kdRounded => k_is)
    (case adGoes => k_is); (case ldGoes => k_is); (case cdGoes => k_is); (case kdGoes => k_is)
    (case adCar => k_is); (case ldCar => k_is); (case cdCar => k_is); (case kdCar => k_is)
    (case adWritten => k_is); (case ldWritten => k_is); (case cdWritten => k_is); (case kdWritten => k_is)
    (case adFigOf => k_is); (case ldFigOf => k_is); (case cdFigOf => k_is); (case kdFigOf => k_is)
    (case adCLad => k_is); (case ldCLad => k_is); (case cdCLad => k_is); (case kdCLad => k_is)
    (case adPFig => k_is); (case ldPFig => k_is); (case cdPFig => k_is); (case kdPFig => k_is)
    (case adPartsOf => k_is); (case ldPartsOf => k_is); (case cdPartsOf => k_is); (case kdPartsOf => k_is)
    (case adPlaceU => k_is); (case ldPlaceU => k_is); (case cdPlaceU => k_is); (case kdPlaceU => k_is)
    (case adIsMark => k_is); (case ldIsMark => k_is); (case cdIsMark => k_is); (case kdIsMark => k_is)
    (case adFirstR => k_is); (case ldFirstR => k_is); (case cdFirstR => k_is); (case kdFirstR => k_is)
    (case adStartOf => k_is); (case ldStartOf => k_is); (case cdStartOf => k_is); (case kdStartOf => k_is)
    (case adNums => k_is); (case ldNums => k_is); (case cdNums => k_is); (case kdNums => k_is)
    (case adLastMark => k_is); (case ldLastMark => k_is); (case cdLastMark => k_is); (case kdLastMark => k_is)
    (case adStarts => k_is); (case ldStarts => k_is); (case cdStarts => k_is); (case kdStarts => k_is)
    (case adNextC => k_is); (case ldNextC => k_is); (case cdNextC => k_is); (case kdNextC => k_is)
    (case adPoss => k_is); (case ldPoss => k_is); (case cdPoss => k_is); (case kdPoss => k_is)
    (case adFirstU => k_is); (case ldFirstU => k_is); (case cdFirstU => k_is); (case kdFirstU => k_is)
    (case adAlike => k_is); (case ldAlike => k_is); (case cdAlike => k_is); (case kdAlike => k_is)
    (case adFirstD => k_is); (case ldFirstD => k_is); (case cdFirstD => k_is); (case kdFirstD => k_is)
    (case adSteady => k_is); (case ldSteady => k_is); (case cdSteady => k_is); (case kdSteady => k_is)
    (case adIsChg => k_is); (case ldIsChg => k_is); (case cdIsChg => k_is); (case kdIsChg => k_is)
    (case adPossC => k_is); (case ldPossC => k_is); (case cdPossC => k_is); (case kdPossC => k_is)
    (case adFirstT => k_is); (case ldFirstT => k_is); (case cdFirstT => k_is); (case kdFirstT => k_is)
    (case adTells => k_is); (case ldTells => k_is); (case cdTells => k_is); (case kdTells => k_is)
    (case adCTexts => k_is); (case ldCTexts => k_is); (case cdCTexts => k_is); (case kdCTexts => k_is)
    (case adRangesOf => k_is); (case ldRangesOf => k_is); (case cdRangesOf => k_is); (case kdRangesOf => k_is)
    (case adAddedUp => k_is); (case ldAddedUp => k_is); (case cdAddedUp => k_is); (case kdAddedUp => k_is)
    (case adNarrowed => k_is); (case ldNarrowed => k_is); (case cdNarrowed => k_is); (case kdNarrowed => k_is)
    (case adToldC => k_is); (case ldToldC => k_is); (case cdToldC => k_is); (case kdToldC => k_is)
    (case adCheckC => k_is); (case ldCheckC => k_is); (case cdCheckC => k_is); (case kdCheckC => k_is)
    (case adColumn => k_is); (case ldColumn => k_is); (case cdColumn => k_is); (case kdColumn => k_is)
    (case adNumF => k_is); (case ldNumF => k_is); (case cdNumF => k_is); (case kdNumF => k_is)
    (case adZeroI => k_is); (case ldZeroI => k_is); (case cdZeroI => k_is); (case kdZeroI => k_is)
    (case adZeros => k_is); (case ldZeros => k_is); (case cdZeros => k_is); (case kdZeros => k_is)
    (case adLadOf => k_is); (case ldLadOf => k_is); (case cdLadOf => k_is); (case kdLadOf => k_is)
    (case adOneL => k_is); (case ldOneL => k_is); (case cdOneL => k_is); (case kdOneL => k_is)
    (case adTwoL => k_is); (case ldTwoL => k_is); (case cdTwoL => k_is); (case kdTwoL => k_is)
    (case adLCol => k_is); (case ldLCol => k_is); (case cdLCol => k_is); (case kdLCol => k_is)
    (case adShA => k_is); (case ldShA => k_is); (case cdShA => k_is); (case kdShA => k_is)
    (case adShU => k_is); (case ldShU => k_is); (case cdShU => k_is); (case kdShU => k_is)
    (case adShS => k_is); (case ldShS => k_is); (case cdShS => k_is); (case kdShS => k_is)
    (case adShD => k_is); (case ldShD => k_is); (case cdShD => k_is); (case kdShD => k_is)
    (case adShT => k_is); (case ldShT => k_is); (case cdShT => k_is); (case kdShT => k_is)
    (case adShH => k_is); (case ldShH => k_is); (case cdShH => k_is); (case kdShH => k_is)
    (case adShP => k_is); (case ldShP => k_is); (case cdShP => k_is); (case kdShP => k_is)
    (case adShI => k_is); (case ldShI => k_is); (case cdShI => k_is); (case kdShI => k_is)
    (case adHolds => k_is); (case ldHolds => k_is); (case cdHolds => k_is); (case kdHolds => k_is)
    (case adCertA => k_is); (case ldCertA => k_is); (case cdCertA => k_is); (case kdCertA => k_is)
    (case adCertS => k_is); (case ldCertS => k_is); (case cdCertS => k_is); (case kdCertS => k_is)
    (case adCertT => k_is); (case ldCertT => k_is); (case cdCertT => k_is); (case kdCertT => k_is)
    (case adCertC => k_is); (case ldCertC => k_is); (case cdCertC => k_is); (case kdCertC => k_is)
    (case adSpring => k_is); (case ldSpring => k_is); (case cdSpring => k_is); (case kdSpring => k_is)
    (case adGulp => k_is); (case ldGulp => k_is); (case cdGulp => k_is); (case kdGulp => k_is)
    (case adSome => k_is); (case ldSome => k_is); (case cdSome => k_is); (case kdSome => k_is)
    (case adUnits => k_is); (case ldUnits => k_is); (case cdUnits => k_is); (case kdUnits => k_is)
    (case adTold => k_is); (case ldTold => k_is); (case cdTold => k_is); (case kdTold => k_is)
    (case adNear => k_is); (case ldNear => k_is); (case cdNear => k_is); (case kdNear => k_is)
    (case adMade => k_is); (case ldMade => k_is); (case cdMade => k_is); (case kdMade => k_is)
    (case adLRnd => k_is); (case ldLRnd => k_is); (case cdLRnd => k_is); (case kdLRnd => k_is)
    (case adLParts => k_is); (case ldLParts => k_is); (case cdLParts => k_is); (case kdLParts => k_is)
    (case adLWrit => k_is); (case ldLWrit => k_is); (case cdLWrit => k_is); (case kdLWrit => k_is)
    (case adLSeen => k_is); (case ldLSeen => k_is); (case cdLSeen => k_is); (case kdLSeen => k_is)
    (case adTop => k_is); (case ldTop => k_is); (case cdTop => k_is); (case kdTop => k_is)
    (case adColR => k_is); (case ldColR => k_is); (case cdColR => k_is); (case kdColR => k_is)
    (case adRight => k_is); (case ldRight => k_is); (case cdRight => k_is); (case kdRight => k_is)
    (case pa => k_is); (case pl => k_is); (case pk => k_keys); (case po => decide)
    (case pw1 => k_is); (case pl1 => k_is)
    (case pw2 => k_is); (case pl2 => k_is)
    (case pw3 => k_is); (case pl3 => k_is)
    (case pw4 => k_is); (case pl4 => k_is)
    (case pw5 => k_is); (case pl5 => k_is)
    (case pw6 => k_is); (case pl6 => k_is)
    (case pw7 => k_is); (case pl7 => k_is)
    (case pw8 => k_is); (case pl8 => k_is)
    (case ie => k_is)
