import PyProof.Rows.All
import Wide.All
import OpenK.AllK
import Wide.FinOn
import HandS.ForMost
import HandS.ForExc
import HandS.IsInst
import HandS.Codes
import HandS.TupAny
import HandS.More
import HandS.Walk
import HandS.Zip
import HandS.StrMore
import HandS.ReplaceLit
import HandS.ReplaceDef
import PyProof.Rows.StrStrike
import PyProof.Rows.StrAscii
import PyProof.DictUpdate
import KE.KDictPairs
import HandS.Property
import HandS.MakeKw
import HandS.MakeKwOnly
import HandS.NoneIn
import HandS.Strs
import KE.KExcTry
import KE.KExcStr
import KE.KExcIs
import HandS.ExcInit
import HandS.ExcField
import HandS.ExcIs
import HandS.ExcCtx
import HandS.HotCalls
import HandS.ExcInitHot
import HandS.Text
import KE.GoesEnum
import HandS.WordsDict
import PySem.Challenge.RW_releasehouse_k18_approvals_of_both_sides
set_option Elab.async false
set_option linter.all false
set_option maxRecDepth 100000
set_option maxHeartbeats 4000000
namespace Kd
open PySem L2
inductive D where
  | non
  | bl (b : Bool)
  | int (i : Int)
  | str (x : Str)
  | tup (ds : List D)
mutual
def Rep (H : Hp) : D → V → Prop
  | .non, v => v = .non
  | .bl b, v => v = .bl b
  | .int i, v => v = .int i
  | .str x, v => v = .str x
  | .tup ds, v => ∃ (a : Addr) (vs : List V), v = .ref a ∧ Rd H a (.tup vs) ∧ vs.length ≤ sizeLine ∧ Reps H ds vs
def Reps (H : Hp) : List D → List V → Prop
  | [], vs => vs = []
  | d :: ds, vs => ∃ (v : V) (r : List V), vs = v :: r ∧ Rep H d v ∧ Reps H ds r
end
/-- tuples stand still -/
def Tk (H H' : Hp) : Prop := ∀ a xs, Rd H a (.tup xs) → Rd H' a (.tup xs)
theorem Tk.refl (H : Hp) : Tk H H := fun _ _ h => h
theorem Tk.trans {H H1 H2 : Hp} (a : Tk H H1) (b : Tk H1 H2) : Tk H H2 := fun x o h => b x o (a x o h)
theorem Rd.same {H H' : Hp} {a : Addr} {u : HO} (s : Same H H') (h : Rd H a u) : Rd H' a u := h.imp (s _ _) fun ⟨o, e⟩ => ⟨o, s _ _ e⟩
theorem Tk.same {H H' : Hp} (s : Same H H') : Tk H H' := fun a xs h => Rd.same s h
theorem Tk.lst {H : Hp} {p : Addr} {xs : List V} {o : HO} (h : H p = some (.lst xs)) : Tk H (upd H p o) := fun a ys e => e.imp
    (fun e => by rw [upd_ne (ne_of e h (fun z => nomatch z))]; exact e)
    (fun ⟨o, e⟩ => ⟨o, by rw [upd_ne (ne_of e h (fun z => nomatch z))]; exact e⟩)
theorem Tk.new {H : Hp} {p : Addr} {o : HO} (h : H p = none) : Tk H (upd H p o) := fun a ys e => e.imp
    (fun e => by rw [upd_ne (ne_of_none e h)]; exact e)
    (fun ⟨o, e⟩ => ⟨o, by rw [upd_ne (ne_of_none e h)]; exact e⟩)
mutual
theorem Rep.keep {H H' : Hp} (k : Tk H H') : ∀ {d : D} {v : V}, Rep H d v → Rep H' d v
  | .non, _, h => h
  | .bl _, _, h => h
  | .int _, _, h => h
  | .str _, _, h => h
  | .tup _, _, ⟨a, vs, e, h, l, r⟩ => ⟨a, vs, e, k a vs h, l, Reps.keep k r⟩
theorem Reps.keep {H H' : Hp} (k : Tk H H') : ∀ {ds : List D} {vs : List V}, Reps H ds vs → Reps H' ds vs
  | [], _, h => h
  | _ :: _, _, ⟨v, r, e, h, q⟩ => ⟨v, r, e, Rep.keep k h, Reps.keep k q⟩
end
theorem Reps.len {H : Hp} : ∀ {ds : List D} {vs : List V}, Reps H ds vs → vs.length = ds.length
  | [], _, h => by cases (show _ = [] from h); rfl
  | d :: ds, _, ⟨v, r, e, h, q⟩ => by subst e; exact congrArg (· + 1) (Reps.len q)
theorem Reps.get {H : Hp} : ∀ {ds : List D} {vs : List V} {i : Nat} {d : D}, Reps H ds vs → ds[i]? = some d → ∃ v, vs[i]? = some v ∧ Rep H d v
  | [], _, i, d, _, e => by simp at e
  | c :: ds, _, 0, d, ⟨v, r, e1, h, q⟩, e => by
    subst e1
    obtain rfl : c = d := Option.some.inj e
    exact ⟨v, rfl, h⟩
  | c :: ds, _, i + 1, d, ⟨v, r, e1, h, q⟩, e => by
    subst e1
    exact Reps.get (ds := ds) (i := i) q e
theorem Reps.snoc {H : Hp} : ∀ {ds : List D} {vs : List V} {d : D} {v : V}, Reps H ds vs → Rep H d v → Reps H (ds ++ [d]) (vs ++ [v])
  | [], _, d, v, h, r => by
    cases (show _ = [] from h)
    exact ⟨v, [], rfl, r, rfl⟩
  | c :: ds, _, d, v, ⟨u, r, e, h, q⟩, rv => by
    subst e
    exact ⟨u, r ++ [v], rfl, h, Reps.snoc q rv⟩
def D.ty : D → String
  | .non => "NoneType"
  | .bl _ => "bool"
  | .int _ => "int"
  | .str _ => "str"
  | .tup _ => "tuple"
theorem Rep.ty {K : PySem.W.Frag} {H : Hp} : ∀ {d : D} {v : V}, Rep H d v → TyX K H v (.type d.ty)
  | .non, _, h => by cases (show _ = V.non from h); exact .base .non
  | .bl b, _, h => by cases (show _ = V.bl b from h); exact .base (.bl _)
  | .int i, _, h => by cases (show _ = V.int i from h); exact .base (.int _)
  | .str x, _, h => by cases (show _ = V.str x from h); exact .base (.str _)
  | .tup ds, _, ⟨a, vs, e, h, l, r⟩ => by cases e; exact h.elim (fun h => .base (.tup h)) (fun ⟨_, h⟩ => .fTuple h)
mutual
def D.eqb : D → D → Bool
  | .non, .non => true
  | .bl a, .bl b => a == b
  | .int a, .int b => decide (a = b)
  | .str a, .str b => decide (a = b)
  | .tup a, .tup b => D.eqbs a b
  | _, _ => false
def D.eqbs : List D → List D → Bool
  | [], [] => true
  | a :: r, b :: q => D.eqb a b && D.eqbs r q
  | _, _ => false
end
mutual
theorem D.eqb_refl : ∀ d : D, D.eqb d d = true
  | .non => rfl
  | .bl b => by simp [D.eqb]
  | .int i => by simp [D.eqb]
  | .str x => by simp [D.eqb]
  | .tup ds => by simp only [D.eqb]; exact D.eqbs_refl ds
theorem D.eqbs_refl : ∀ ds : List D, D.eqbs ds ds = true
  | [] => rfl
  | d :: ds => by simp only [D.eqbs, Bool.and_eq_true]; exact ⟨D.eqb_refl d, D.eqbs_refl ds⟩
end
mutual
def D.dep : D → Nat
  | .tup ds => D.deps ds + 1
  | _ => 0
def D.deps : List D → Nat
  | [] => 0
  | d :: ds => max (D.dep d) (D.deps ds)
end
theorem D.dep_mem : ∀ {ds : List D} {i : Nat} {d : D}, ds[i]? = some d → D.dep d ≤ D.deps ds
  | [], i, d, e => by simp at e
  | c :: ds, 0, d, e => by
    obtain rfl : c = d := Option.some.inj e
    simp only [D.deps]
    omega
  | c :: ds, i + 1, d, e => by
    have := D.dep_mem (ds := ds) (i := i) (d := d) e
    simp only [D.deps]
    omega
theorem D.eqbs_len : ∀ {a b : List D}, D.eqbs a b = true → a.length = b.length
  | [], [], _ => rfl
  | [], _ :: _, h => by simp [D.eqbs] at h
  | _ :: _, [], h => by simp [D.eqbs] at h
  | x :: a, y :: b, h => by
    simp only [D.eqbs, Bool.and_eq_true] at h
    exact congrArg (· + 1) (D.eqbs_len h.2)
/-- part by part -/
theorem D.eqbs_take : ∀ {a b : List D} {i : Nat} {x y : D}, a[i]? = some x → b[i]? = some y → D.eqbs (a.take (i + 1)) (b.take (i + 1)) = (D.eqbs (a.take i) (b.take i) && D.eqb x y)
  | [], _, i, x, y, h, _ => by simp at h
  | _ :: _, [], i, x, y, _, h => by simp at h
  | c :: a, d :: b, 0, x, y, h, g => by
    obtain rfl : c = x := Option.some.inj h
    obtain rfl : d = y := Option.some.inj g
    simp [D.eqbs]
  | c :: a, d :: b, i + 1, x, y, h, g => by
    have ih := D.eqbs_take (a := a) (b := b) (i := i) (x := x) (y := y) h g
    simp only [List.take_succ_cons, D.eqbs] at ih ⊢
    rw [ih, Bool.and_assoc]
theorem D.eqbs_cut : ∀ {a b : List D} {i : Nat} {x y : D}, a[i]? = some x → b[i]? = some y → D.eqb x y = false → D.eqbs a b = false
  | [], _, i, x, y, h, _, _ => by simp at h
  | _ :: _, [], i, x, y, _, h, _ => by simp at h
  | c :: a, d :: b, 0, x, y, h, g, e => by
    obtain rfl : c = x := Option.some.inj h
    obtain rfl : d = y := Option.some.inj g
    simp [D.eqbs, e]
  | c :: a, d :: b, i + 1, x, y, h, g, e => by
    have ih := D.eqbs_cut (a := a) (b := b) (i := i) (x := x) (y := y) h g e
    simp [D.eqbs, ih]
theorem kOne {K : PySem.W.Frag} {a b : String} {r : Bool} (h : kitB a b = some r) : PySem.W.kitOne K (.type a) (.type b) = some r := kit_ty h
def D.isTup : D → Bool
  | .tup _ => true
  | _ => false
def D.isBl : D → Bool
  | .bl _ => true
  | _ => false
def D.isInt : D → Bool
  | .int _ => true
  | .bl _ => true
  | _ => false
def D.isStr : D → Bool
  | .str _ => true
  | _ => false
theorem D.kTup {K : PySem.W.Frag} : ∀ d : D, PySem.W.kitOne K (.type d.ty) (.type "tuple") = some d.isTup
  | .non => kit_ty (show kitB "NoneType" "tuple" = some false by decide +kernel)
  | .bl _ => kit_ty (show kitB "bool" "tuple" = some false by decide +kernel)
  | .int _ => kit_ty (show kitB "int" "tuple" = some false by decide +kernel)
  | .str _ => kit_ty (show kitB "str" "tuple" = some false by decide +kernel)
  | .tup _ => kit_ty (show kitB "tuple" "tuple" = some true by decide +kernel)
theorem D.kList {K : PySem.W.Frag} : ∀ d : D, PySem.W.kitOne K (.type d.ty) (.type "list") = some false
  | .non => kit_ty (show kitB "NoneType" "list" = some false by decide +kernel)
  | .bl _ => kit_ty (show kitB "bool" "list" = some false by decide +kernel)
  | .int _ => kit_ty (show kitB "int" "list" = some false by decide +kernel)
  | .str _ => kit_ty (show kitB "str" "list" = some false by decide +kernel)
  | .tup _ => kit_ty (show kitB "tuple" "list" = some false by decide +kernel)
theorem D.kBl {K : PySem.W.Frag} : ∀ d : D, PySem.W.kitOne K (.type d.ty) (.type "bool") = some d.isBl
  | .non => kit_ty (show kitB "NoneType" "bool" = some false by decide +kernel)
  | .bl _ => kit_ty (show kitB "bool" "bool" = some true by decide +kernel)
  | .int _ => kit_ty (show kitB "int" "bool" = some false by decide +kernel)
  | .str _ => kit_ty (show kitB "str" "bool" = some false by decide +kernel)
  | .tup _ => kit_ty (show kitB "tuple" "bool" = some false by decide +kernel)
theorem D.kInt {K : PySem.W.Frag} : ∀ d : D, PySem.W.kitOne K (.type d.ty) (.type "int") = some d.isInt
  | .non => kit_ty (show kitB "NoneType" "int" = some false by decide +kernel)
  | .bl _ => kit_ty (show kitB "bool" "int" = some true by decide +kernel)
  | .int _ => kit_ty (show kitB "int" "int" = some true by decide +kernel)
  | .str _ => kit_ty (show kitB "str" "int" = some false by decide +kernel)
  | .tup _ => kit_ty (show kitB "tuple" "int" = some false by decide +kernel)
theorem D.kStr {K : PySem.W.Frag} : ∀ d : D, PySem.W.kitOne K (.type d.ty) (.type "str") = some d.isStr
  | .non => kit_ty (show kitB "NoneType" "str" = some false by decide +kernel)
  | .bl _ => kit_ty (show kitB "bool" "str" = some false by decide +kernel)
  | .int _ => kit_ty (show kitB "int" "str" = some false by decide +kernel)
  | .str _ => kit_ty (show kitB "str" "str" = some true by decide +kernel)
  | .tup _ => kit_ty (show kitB "tuple" "str" = some false by decide +kernel)
end Kd

namespace Kl
open PySem L2 Kd
def topS (i : Nat) : Stmt := PySem.Challenge.pw_releasehouse_k18_approvals_of_both_sides.main.body.getD i (.Pass ⟨0, 0, 0, 0⟩)
/-- the built-in names that no text of ours hides -/
structure Glo (mg : Str → Option Value) : Prop where
  len : mg "len" = none
  int : mg "int" = none
  range : mg "range" = none
  isi : mg "isinstance" = none
  tuple : mg "tuple" = none
  list : mg "list" = none
  bool : mg "bool" = none
  str : mg "str" = none
  dict : mg "dict" = none
  sorted : mg "sorted" = none
  all : mg "all" = none
  ord : mg "ord" = none
  zip : mg "zip" = none
  max : mg "max" = none
  min : mg "min" = none
/-- a def at its name -/
structure At (K : PySem.W.Frag) (mg : Str → Option Value) (x : Str) (st : Stmt) (ps : List Str) (f : Addr) (fd : FuncData) : Prop where
  fn : Fun K x x st f fd
  mf : mg x = some (.ref f)
  bd : Binds K fd ps []
theorem Same.new {H : Hp} {p : Addr} {o : HO} (h : H p = none) : Same H (upd H p o) := fun b u e => by
  rw [upd_ne (ne_of_none e h)]
  exact e
/-- what is new may change -/
theorem Same.mut {H H' : Hp} {p : Addr} {o : HO} (s : Same H H') (h : H p = none) : Same H (upd H' p o) := fun b u e => by
  rw [upd_ne (ne_of_none e h)]
  exact s b u e
end Kl

namespace Kl
open PySem L2 Kd
/-- a list of ints at a -/
abbrev Ints (K : PySem.W.Frag) (H : Hp) (a : Addr) (ns : List Int) : Prop := SqL K H a (ns.map V.int)
theorem at_int {ns : List Int} {z : Int} (h0 : 0 ≤ z) (h1 : z < (ns.length : Int)) : ∃ y : Int, atI (ns.map V.int) z = some (V.int y) := by
  have hl : z.toNat < ns.length := by omega
  refine ⟨ns[z.toNat], at_of (j := z.toNat) (by omega) ?_⟩
  rw [List.getElem?_map, List.getElem?_eq_getElem hl]
  rfl
def spDraw (K : PySem.W.Frag) : Sp := fun vs H Q _ => ∃ (a : Addr) (ns : List Int) (i m : Int), vs = [.ref a, .int i, .int m] ∧ Ints K H a ns ∧ 0 < ns.length ∧ 0 ≤ i ∧ 0 < m ∧
  ∀ d : Int, 0 ≤ d → d < m → Q (.int d) H
def spTake (K : PySem.W.Frag) : Sp := fun vs H Q _ => ∃ (a b : Addr) (ns : List Int) (i m : Int), vs = [.ref a, .ref b, .int m] ∧ a ≠ b ∧ Ints K H a ns ∧ H b = some (.lst [.int i]) ∧ 0 < ns.length ∧ 0 ≤ i ∧ 0 < m ∧
  ∀ d : Int, 0 ≤ d → d < m → Q (.int d) (upd H b (.lst [.int (i + 1)]))
section
variable {P : Program} {w : World} {K : PySem.W.Frag} {mg : Str → Option Value} {base : Heap}
abbrev sDraw : Stmt := topS 42
abbrev sTake : Stmt := topS 43
theorem scDraw : FnScope ["row", "at", "limit", "mixed"] ["row", "at", "limit"] (defScope sDraw) := ⟨rfl, rfl, rfl, by decide +kernel, rfl, by decide +kernel, by decide +kernel⟩
theorem ok_draw {f : Addr} {fd : FuncData} (F : Fun K "_law_draw" "_law_draw" sDraw f fd) (T : Glo mg) : FnOk P w K mg base CX0 1 f fd ["row", "at", "limit"] (spDraw K) := by
  refine F.ok scDraw (fun vs H Q E h => ?_) (fun cdv A outer s H vs Q E hr h => ?_)
  · obtain ⟨a, ns, i, m, rfl, _⟩ := h
    rfl
  · obtain ⟨a, ns, i, m, rfl, hS, hn, hi, hm, k⟩ := h
    refine ⟨_, pss_cons (ps_if (pt_cmpR op_lt (pv 1) (pe_callB call_len_seq (by rfl) T.len PySem.boot_len (pa_cons (pv 0) pa_nil)) (nomark _))
        (pss_one (ps_ret (pe_op op_mod (pe_callTy call_int1 (by rfl) T.int PyProof.Rows.boot_int (pa_cons (pe_ix ix_list (pv 0) (pv 1) (fun _ _ => rfl)) pa_nil)) (pv 2)))) pss_nil)
      (pss_cons (ps_set (i := 3) scDraw.nd rfl (.inl rfl) (pe_op op_mod (pe_callTy call_int1 (by rfl) T.int PyProof.Rows.boot_int (pa_cons
          (pe_op op_add (pe_op op_add (pe_op op_mul (pe_ix ix_list (pv 0) (pe_op op_mod (pe_callTy call_int1 (by rfl) T.int PyProof.Rows.boot_int (pa_cons (pv 1) pa_nil)) (pe_callB call_len_seq (by rfl) T.len PySem.boot_len (pa_cons (pv 0) pa_nil))) (fun _ _ => rfl)) pe_int)
            (pe_op op_mul (pv 1) pe_int)) pe_int) pa_nil)) pe_int))
      (pss_one (ps_ret (pe_op op_mod (pe_callTy call_int1 (by rfl) T.int PyProof.Rows.boot_int (pa_cons
          (pe_op op_mod (pe_callTy call_int1 (by rfl) T.int PyProof.Rows.boot_int (pa_cons (pe_op op_add (pe_op op_mul (pv 3) pe_int) (pv 1)) pa_nil)) pe_int) pa_nil)) (pv 2))))), ?_⟩
    have hl : (ns.map V.int).length = ns.length := List.length_map _
    refine ⟨_, rfl, _, rfl, a, _, rfl, .inl hS, _, _, rfl, rfl, _, rfl, ?_⟩
    refine ite2 (fun c => ?_) (fun c => ?_)
    · have c' : i < ((ns.map V.int).length : Int) := of_decide_eq_true c
      rw [hl] at c'
      obtain ⟨y, hy⟩ := at_int (ns := ns) hi c'
      exact ⟨_, rfl, _, rfl, a, _, i, _, rfl, rfl, hS, hy, .inl ⟨_, rfl, _, rfl, _, _, rfl, rfl, hm, k _ (Int.emod_nonneg _ (by omega)) (Int.emod_lt_of_pos _ hm)⟩⟩
    · have hp : (0 : Int) < ((ns.map V.int).length : Int) := by rw [hl]; omega
      obtain ⟨y, hy⟩ := at_int (ns := ns) (z := i % ((ns.map V.int).length : Int)) (Int.emod_nonneg _ (by omega)) (by rw [← hl]; exact Int.emod_lt_of_pos _ hp)
      refine ⟨_, rfl, _, rfl, .inl ⟨_, rfl, _, rfl, a, _, rfl, .inl hS, _, _, rfl, rfl, hp, a, _, _, _, rfl, rfl, hS, hy, _, _, rfl, rfl, .inr ⟨by decide, by decide⟩, ?_⟩⟩
      refine ⟨_, rfl, _, _, rfl, rfl, .inr ⟨by decide, by decide⟩, _, _, rfl, rfl, _, _, rfl, rfl, .inl ⟨_, rfl, _, _, rfl, rfl, (by show (0 : Int) < 2147483399; decide), ?_⟩⟩
      exact ⟨_, rfl, _, _, rfl, rfl, .inr ⟨by decide, by decide⟩, _, rfl, _, _, rfl, rfl, .inl ⟨_, rfl, _, _, rfl, rfl, (by show (0 : Int) < 2147483647; decide), .inl ⟨_, rfl, _, rfl, _, _, rfl, rfl, hm, k _ (Int.emod_nonneg _ (by omega)) (Int.emod_lt_of_pos _ hm)⟩⟩⟩
theorem scTake : FnScope ["row", "spot", "limit"] ["row", "spot", "limit"] (defScope sTake) := ⟨rfl, rfl, rfl, by decide +kernel, rfl, by decide +kernel, by decide +kernel⟩
theorem ok_take {f fD : Addr} {fd fdD : FuncData} (F : Fun K "_law_take" "_law_take" sTake f fd) (T : Glo mg) (D : At K mg "_law_draw" sDraw ["row", "at", "limit"] fD fdD) : FnOk P w K mg base CX0 2 f fd ["row", "spot", "limit"] (spTake K) := by
  have GD : FnOk P w K mg base CX0 1 fD fdD _ _ := ok_draw D.fn T
  refine F.ok scTake (fun vs H Q E h => ?_) (fun cdv A outer s H vs Q E hr h => ?_)
  · obtain ⟨a, b, ns, i, m, rfl, _⟩ := h
    rfl
  · obtain ⟨a, b, ns, i, m, rfl, hab, hS, hb, hn, hi, hm, k⟩ := h
    refine ⟨_, pss_cons (ps_asg (pe_op op_add (pe_ix ix_list (pv 1) pe_int (fun _ _ => rfl)) pe_int) (pg_sub (pv 1) pe_int set_list))
      (pss_one (ps_ret (pe_call GD hr (by rfl) D.mf D.fn.kp D.bd .nil pass0 (pa_cons (pv 0) (pa_cons (pe_op op_sub (pe_ix ix_list (pv 1) pe_int (fun _ _ => rfl)) pe_int) (pa_cons (pv 2) pa_nil)))))), ?_⟩
    refine ⟨_, rfl, b, _, 0, _, rfl, rfl, SqL.of hb, atI_nat (j := 0) rfl, _, _, rfl, rfl, _, rfl, b, _, 0, 0, rfl, rfl, hb, rfl, ?_⟩
    refine ⟨_, rfl, _, rfl, b, _, 0, _, rfl, rfl, SqL.of upd_same, atI_nat (j := 0) rfl, _, _, rfl, rfl, _, rfl, ?_⟩
    refine ⟨a, ns, _, m, rfl, ?_, hn, ?_, hm, k⟩
    · rcases hS with (h | ⟨o, h⟩) | h
      · exact .inl (.inl (by rw [upd_ne hab]; exact h))
      · exact .inl (.inr ⟨o, by rw [upd_ne hab]; exact h⟩)
      · exact .inr h
    · omega

abbrev sNum : Stmt := topS 41
theorem scNum : FnScope ["script", "row", "cell", "left", "k", "mixed"] ["script"] (defScope sNum) := ⟨rfl, rfl, rfl, by decide +kernel, rfl, by decide +kernel, by decide +kernel⟩
def spNum (K : PySem.W.Frag) : Sp := fun vs H Q _ => ∃ (a : Addr) (ns : List Int), vs = [.ref a] ∧ Ints K H a ns ∧ ns.length ≤ 63 ∧
  ∀ (p : Addr) (row : List Int) (H' : Hp), Same H H' → H p = none → H' p = some (.lst (row.map V.int)) → 0 < row.length → Q (.ref p) H'
theorem cut_ints (ns : List Int) (lo hi : Option Int) : ∃ ms : List Int, cutV (ns.map V.int) lo hi = ms.map V.int ∧ ms.length ≤ ns.length := by
  have e := cutV_length (ns.map V.int) lo hi
  unfold cutV at e ⊢
  rw [← List.map_drop, ← List.map_take] at e ⊢
  exact ⟨_, rfl, by simpa using e⟩
/-- the frame within _law_numbers -/
structure NumSt (a p q : Addr) (H0 : Hp) (ms : List Int) (n : Nat) (row : List Int) (H : Hp) : Prop where
  rw : H p = some (.lst (row.map V.int))
  q : H q = some (.lst (ms.map V.int))
  sm : Same H0 H
  ln : row.length ≤ n
theorem NumSt.app {a p q : Addr} {H0 H : Hp} {ms row : List Int} {n : Nat} (h : NumSt a p q H0 ms n row H) (hp : H0 p = none) (hqp : q ≠ p) (z : Int) : NumSt a p q H0 ms (n + 1) (row ++ [z]) (upd H p (.lst (row.map V.int ++ [V.int z]))) :=
  ⟨by rw [upd_same, List.map_append]; rfl, by rw [upd_ne hqp]; exact h.q, fun b o e => by rw [upd_ne (ne_of_none e hp)]; exact h.sm b o e, by rw [List.length_append]; exact Nat.succ_le_succ h.ln⟩
theorem NumSt.mono {a p q : Addr} {H0 H : Hp} {ms row : List Int} {n m : Nat} (h : NumSt a p q H0 ms n row H) (hm : n ≤ m) : NumSt a p q H0 ms m row H := ⟨h.rw, h.q, h.sm, Nat.le_trans h.ln hm⟩
theorem ok_num {f : Addr} {fd : FuncData} (F : Fun K "_law_numbers" "_law_numbers" sNum f fd) (T : Glo mg) : FnOk P w K mg base CX0 1 f fd ["script"] (spNum K) := by
  refine F.ok scNum (fun vs H Q E h => ?_) (fun cdv A outer s H vs Q E hr h => ?_)
  · obtain ⟨a, ns, rfl, _⟩ := h
    rfl
  · obtain ⟨a, ns, rfl, hS, hn, k⟩ := h
    refine ⟨_, pss_cons (ps_set (i := 1) scNum.nd rfl (.inl rfl) (pe_lst pa_nil))
      (pss_cons (ps_for PassesOwn.never rfl (pi_list (pe_slice sl_list (pv 0) po_none (po_some pe_int))) (pg_name (i := 2) scNum.nd rfl (.inl rfl))
        (pss_one (ps_if (pt_cmpR op_ge (pv 2) (pe_op op_pow pe_int pe_int) (nomark _))
          (pss_cons (ps_set (i := 3) scNum.nd rfl (.inl rfl) (pv 2))
          (pss_one (ps_for PassesOwn.never rfl (pi_range1 (by rfl) T.range (pa_cons pe_int pa_nil)) (pg_name (i := 4) scNum.nd rfl (.inl rfl))
            (pss_cons (ps_if (pt_cmpR op_eq (pv 3) pe_int (nomark _)) (pss_one ps_break) pss_nil)
            (pss_cons (ps_expr (pe_bm PySem.F.plainAttrs_list PySem.F.slot_list_append PySem.F.type_list_append mt_append (pv 1) (pa_cons (pe_op op_mod (pe_callTy call_int1 (by rfl) T.int PyProof.Rows.boot_int (pa_cons (pv 3) pa_nil)) pe_int) pa_nil)))
            (pss_one (ps_set (i := 3) scNum.nd rfl (.inl rfl) (pe_op op_fdiv (pv 3) pe_int))))))))
          (pss_one (ps_for PassesOwn.never rfl (pi_range1 (by rfl) T.range (pa_cons pe_int pa_nil)) (pg_name (i := 4) scNum.nd rfl (.inl rfl))
            (pss_cons (ps_set (i := 5) scNum.nd rfl (.inl rfl) (pe_op op_mod (pe_callTy call_int1 (by rfl) T.int PyProof.Rows.boot_int (pa_cons (pe_op op_add (pe_op op_add (pe_op op_mul (pv 2) pe_int) (pe_op op_mul (pv 4) pe_int)) pe_int) pa_nil)) pe_int))
            (pss_one (ps_expr (pe_bm PySem.F.plainAttrs_list PySem.F.slot_list_append PySem.F.type_list_append mt_append (pv 1) (pa_cons (pe_op op_mod (pe_callTy call_int1 (by rfl) T.int PyProof.Rows.boot_int (pa_cons (pe_op op_add (pe_op op_mul (pv 5) pe_int) (pv 4)) pa_nil)) pe_int) pa_nil))))))))))
      (pss_cons (ps_if (pt_cmpR op_eq (pe_callB call_len_seq (by rfl) T.len PySem.boot_len (pa_cons (pv 1) pa_nil)) pe_int (nomark _))
        (pss_one (ps_expr (pe_bm PySem.F.plainAttrs_list PySem.F.slot_list_append PySem.F.type_list_append mt_append (pv 1) (pa_cons pe_int pa_nil)))) pss_nil)
      (pss_one (ps_ret (pv 1))))), ?_⟩
    refine ⟨(by decide), fun p hp => ?_⟩
    have s1 : Same H (upd H p (.lst [])) := fun b o e => by rw [upd_ne (ne_of_none e hp)]; exact e
    refine ⟨_, rfl, _, rfl, a, _, rfl, s1.seq hS, fun q hq => ?_⟩
    obtain ⟨ms, em, hms⟩ := cut_ints ns none (some 63)
    rw [em]
    have hqp : q ≠ p := fun z => by
      rw [z, upd_same] at hq
      cases hq
    have hq0 : H q = none := by rw [upd_ne hqp] at hq; exact hq
    have S0 : NumSt a p q H ms 0 [] (upd (upd H p (.lst [])) q (.lst (ms.map V.int))) := ⟨by rw [upd_ne (Ne.symm hqp), upd_same]; rfl, upd_same, fun b o e => by rw [upd_ne (ne_of_none e hq0), upd_ne (ne_of_none e hp)]; exact e, Nat.le_refl _⟩
    refine ⟨q, rfl, ⟨_, SqL.of S0.q⟩, for_list (K := K) (a := q) (xs := ms.map V.int) (fun i σ H2 => ∃ (row : List Int) (c l k m : Option V), σ = [some (.ref a), some (.ref p), c, l, k, m] ∧ NumSt a p q H ms (60 * i) row H2)
      ⟨[], none, none, none, none, rfl, S0⟩ (fun i σ H2 _ ⟨_, _, _, _, _, _, h2⟩ => SqL.of h2.q) ?_ ?_⟩
    · rintro i y σ H2 hi ⟨row, c, l, kk, m, rfl, h2⟩
      have hil : i < ms.length := by
        have := (List.getElem?_eq_some_iff.mp hi).1
        simpa using this
      obtain ⟨z, rfl⟩ : ∃ z, y = V.int z := by
        rw [List.getElem?_map] at hi
        cases e : ms[i]? with
        | none => rw [e] at hi; cases hi
        | some z => rw [e] at hi; exact ⟨z, (Option.some.inj hi).symm⟩
      refine ⟨_, rfl, _, _, rfl, rfl, ⟨by decide, by decide, by decide⟩, _, _, rfl, rfl, _, rfl, ?_⟩
      refine ite2 (fun _ => ?_) (fun _ => ?_)
      · refine ⟨_, rfl, 60, rfl, by decide, by decide, for_range (n := 60) (fun j σ H3 => ∃ (row : List Int) (c k m : Option V) (l : Int), σ = [some (.ref a), some (.ref p), c, some (.int l), k, m] ∧ NumSt a p q H ms (60 * i + j) row H3)
          ⟨row, _, _, _, z, rfl, h2⟩ ?_ ?_⟩
        · rintro j σ H3 hj ⟨row, c, k3, m3, l3, rfl, h3⟩
          refine ⟨_, rfl, rfl, _, rfl, ?_⟩
          refine ite2 (fun _ => ?_) (fun _ => ?_)
          · exact ⟨row, _, _, _, _, rfl, h3.mono (by omega)⟩
          · refine ⟨_, rfl, .inl ⟨rfl, _, SqL.of h3.rw⟩, _, rfl, .inl ⟨_, rfl, _, _, rfl, rfl, (by show (0 : Int) < 997; decide), p, _, _, rfl, rfl, h3.rw, ?_, ?_⟩⟩
            · have := h3.ln
              rw [List.length_map]
              exact Nat.lt_of_le_of_lt (by omega : _ ≤ 4000) (by decide)
            · exact ⟨_, rfl, _, _, rfl, rfl, ⟨by decide, by decide⟩, row ++ [_], _, _, _, _, rfl, h3.app hp hqp _⟩
        · rintro σ H3 ⟨row, c, k3, m3, l3, rfl, h3⟩
          exact ⟨row, _, _, _, _, rfl, h3.mono (by omega)⟩
      · refine ⟨4, rfl, by decide, by decide, for_range (n := 4) (fun j σ H3 => ∃ (row : List Int) (l k m : Option V), σ = [some (.ref a), some (.ref p), some (.int z), l, k, m] ∧ NumSt a p q H ms (60 * i + j) row H3)
          ⟨row, _, _, _, rfl, h2⟩ ?_ ?_⟩
        · rintro j σ H3 hj ⟨row, l3, k3, m3, rfl, h3⟩
          refine ⟨_, rfl, _, _, rfl, rfl, .inr ⟨by decide, by decide⟩, _, rfl, _, _, rfl, rfl, .inr ⟨by decide, by decide⟩, _, _, rfl, rfl, _, _, rfl, rfl, .inl ⟨_, rfl, _, _, rfl, rfl, (by show (0 : Int) < 2147483647; decide), ?_⟩⟩
          refine ⟨_, rfl, .inl ⟨rfl, _, SqL.of h3.rw⟩, _, rfl, _, _, rfl, rfl, .inr ⟨by decide, by decide⟩, _, rfl, _, _, rfl, rfl, .inl ⟨_, rfl, _, _, rfl, rfl, (by show (0 : Int) < 2147483629; decide), p, _, _, rfl, rfl, h3.rw, ?_, ?_⟩⟩
          · have := h3.ln
            rw [List.length_map]
            exact Nat.lt_of_le_of_lt (by omega : _ ≤ 4000) (by decide)
          · exact ⟨row ++ [_], _, _, _, rfl, h3.app hp hqp _⟩
        · rintro σ H3 ⟨row, l3, k3, m3, rfl, h3⟩
          exact ⟨row, _, _, _, _, rfl, h3.mono (by omega)⟩
    · rintro σ H2 ⟨row, c, l, kk, m, rfl, h2⟩
      refine ⟨_, rfl, p, _, rfl, .inl (SqL.of h2.rw), rfl, _, rfl, ?_⟩
      refine ite2 (fun c0 => ?_) (fun c0 => ?_)
      · refine ⟨_, rfl, .inl ⟨rfl, _, SqL.of h2.rw⟩, p, _, _, rfl, rfl, h2.rw, ?_, ?_⟩
        · have := h2.ln
          rw [List.length_map]
          exact Nat.lt_of_le_of_lt (Nat.le_trans this (by omega : 60 * (ms.map V.int).length ≤ 60 * (ms.map V.int).length)) (by
            rw [List.length_map]
            exact Nat.lt_of_le_of_lt (by omega : 60 * ms.length ≤ 4000) (by decide))
        · exact ⟨_, rfl, k p (row ++ [0]) _ (h2.app hp hqp 0).sm hp (h2.app hp hqp 0).rw (by rw [List.length_append]; exact Nat.succ_pos _)⟩
      · have hr0 : 0 < row.length := by
          rcases Nat.eq_zero_or_pos row.length with e | e
          · exfalso
            apply c0
            rw [List.length_map, e]
            decide
          · exact e
        exact ⟨_, rfl, k p row _ h2.sm hp h2.rw hr0⟩
end
end Kl

namespace Kl
open PySem L2 Kd
/-! the draws' frame: the row of numbers at a, the place at b; all else stands -/
structure Sp0 (K : PySem.W.Frag) (a b : Addr) (ns : List Int) (H : Hp) : Prop where
  nums : Ints K H a ns
  pos : 0 < ns.length
  ne : a ≠ b
  cell : ∃ i : Int, 0 ≤ i ∧ H b = some (.lst [.int i])
structure Go (b : Addr) (H H' : Hp) : Prop where
  keep : ∀ c o, c ≠ b → H c = some o → H' c = some o
  cell : ∃ i : Int, 0 ≤ i ∧ H' b = some (.lst [.int i])
theorem Go.refl {b : Addr} {H : Hp} (h : ∃ i : Int, 0 ≤ i ∧ H b = some (.lst [.int i])) : Go b H H := ⟨fun _ _ _ e => e, h⟩
theorem Sp0.refl {K : PySem.W.Frag} {a b : Addr} {ns : List Int} {H : Hp} (s : Sp0 K a b ns H) : Go b H H := Go.refl s.cell
theorem Go.trans {b : Addr} {H H1 H2 : Hp} (g : Go b H H1) (k : Go b H1 H2) : Go b H H2 := ⟨fun c o n e => k.keep c o n (g.keep c o n e), k.cell⟩
theorem Go.free {b : Addr} {H H1 : Hp} {p : Addr} (g : Go b H H1) (h : H1 p = none) : H p = none := by
  cases e : H p with
  | none => rfl
  | some o =>
    by_cases n : p = b
    · obtain ⟨i, _, q⟩ := g.cell
      rw [n, q] at h
      cases h
    · rw [g.keep p o n e] at h
      cases h
theorem Go.new {b : Addr} {H H1 : Hp} {p : Addr} {o : HO} (g : Go b H H1) (h : H1 p = none) : Go b H (upd H1 p o) := by
  obtain ⟨i, hi, q⟩ := g.cell
  exact ⟨fun c u n e => by rw [upd_ne (ne_of_none (g.keep c u n e) h)]; exact g.keep c u n e, i, hi, by rw [upd_ne (ne_of_none q h)]; exact q⟩
/-- what is new may change -/
theorem Go.mut {b : Addr} {H H1 : Hp} {p : Addr} {o : HO} (g : Go b H H1) (h : H p = none) (n : b ≠ p) : Go b H (upd H1 p o) := by
  obtain ⟨i, hi, q⟩ := g.cell
  exact ⟨fun c u m e => by rw [upd_ne (ne_of_none e h)]; exact g.keep c u m e, i, hi, by rw [upd_ne n]; exact q⟩
theorem Go.tk {b : Addr} {H H1 : Hp} (g : Go b H H1) (h : ∃ i : Int, 0 ≤ i ∧ H b = some (.lst [.int i])) : Tk H H1 := fun c xs e => by
  obtain ⟨i, _, q⟩ := h
  exact e.imp (fun e => g.keep c _ (fun z => by rw [z, q] at e; cases e) e) fun ⟨o, e⟩ => ⟨o, g.keep c _ (fun z => by rw [z, q] at e; cases e) e⟩
theorem Sp0.go {K : PySem.W.Frag} {a b : Addr} {ns : List Int} {H H' : Hp} (s : Sp0 K a b ns H) (g : Go b H H') : Sp0 K a b ns H' := by
  refine ⟨?_, s.pos, s.ne, g.cell⟩
  rcases s.nums with (h | ⟨o, h⟩) | h
  · exact .inl (.inl (g.keep _ _ s.ne h))
  · exact .inl (.inr ⟨o, g.keep _ _ s.ne h⟩)
  · exact .inr h
theorem none_of {H H' : Hp} {a : Addr} (s : Same H H') (h : H' a = none) : H a = none := by
  cases e : H a with
  | none => rfl
  | some o =>
    rw [s _ _ e] at h
    cases h
/-- a list of texts at p -/
abbrev Strs (H : Hp) (p : Addr) (xs : List Str) : Prop := H p = some (.lst (xs.map V.str))
theorem Strs.ne {H : Hp} {p b : Addr} {xs : List Str} (h : Strs H p xs) (c : ∃ i : Int, 0 ≤ i ∧ H b = some (.lst [.int i])) : p ≠ b := fun z => by
  obtain ⟨i, _, q⟩ := c
  unfold Strs at h
  rw [z, q] at h
  cases xs with
  | nil => simp at h
  | cons x r => simp at h
theorem Strs.go {H H' : Hp} {p b : Addr} {xs : List Str} (h : Strs H p xs) (c : ∃ i : Int, 0 ≤ i ∧ H b = some (.lst [.int i])) (g : Go b H H') : Strs H' p xs := g.keep _ _ (h.ne c) h
theorem strs_at {xs : List Str} {d : Int} (h0 : 0 ≤ d) (h1 : d < (xs.length : Int)) : ∃ x ∈ xs, atI (xs.map V.str) d = some (V.str x) := by
  have hl : d.toNat < xs.length := by omega
  refine ⟨xs[d.toNat], List.getElem_mem hl, at_of (j := d.toNat) (by omega) ?_⟩
  rw [List.getElem?_map, List.getElem?_eq_getElem hl]
  rfl
theorem small_of {n : Nat} (h : n ≤ 100000) : n ≤ sizeLine := Nat.le_trans h (by decide)
theorem small_lt {n : Nat} (h : n < 100000) : n < sizeLine := Nat.lt_of_lt_of_le h (by decide)
/-- a display of written texts -/
def strsOf : List Expr → Option (List Str)
  | [] => some []
  | .Constant (.str x) _ _ :: r => (strsOf r).map (x :: ·)
  | _ => none
def tStrs (xs : List Str) : TA := fun _ H Q => Q (xs.map V.str) H
theorem pa_strs {X : Cx} : ∀ {es : List Expr} {xs : List Str}, strsOf es = some xs → PA X es (tStrs xs)
  | [], xs, h => by
    obtain rfl : [] = xs := Option.some.inj h
    exact pa_nil
  | .Constant (.str x) j p :: r, xs, h => by
    simp only [strsOf, Option.map_eq_some_iff] at h
    obtain ⟨ys, hy, rfl⟩ := h
    exact pa_cons pe_str (pa_strs hy)
/-- take, once more -/
def spTk (K : PySem.W.Frag) : Sp := fun vs H Q _ => ∃ (a b : Addr) (ns : List Int) (m : Int), vs = [.ref a, .ref b, .int m] ∧ Sp0 K a b ns H ∧ 0 < m ∧ ∀ (d : Int) (H' : Hp), Go b H H' → 0 ≤ d → d < m → Q (.int d) H'
section
variable {P : Program} {w : World} {K : PySem.W.Frag} {mg : Str → Option Value} {base : Heap}
theorem cal_of {k : Nat} {x : Str} {st : Stmt} {ps : List Str} {f : Addr} {fd : FuncData} {sp : Sp} (A : At K mg x st ps f fd) (G : FnOk P w K mg base CX0 k f fd ps sp) : C8.Cal P w K mg base k x sp [] :=
  ⟨f, fd, ps, [], G, A.mf, A.fn.kp, A.bd, .nil⟩
theorem take_tk {k : Nat} {f : Addr} {fd : FuncData} {ps : List Str} (G : FnOk P w K mg base CX0 k f fd ps (spTake K)) : FnOk P w K mg base CX0 k f fd ps (spTk K) := G.imp fun vs H Q E h => by
  obtain ⟨a, b, ns, m, rfl, s, hm, k⟩ := h
  obtain ⟨i, hi, hb⟩ := s.cell
  exact ⟨a, b, ns, i, m, rfl, s.ne, s.nums, hb, s.pos, hi, hm, fun d h0 h1 => k d _ ⟨fun c o n e => by rw [upd_ne n]; exact e, i + 1, by omega, upd_same⟩ h0 h1⟩
end
end Kl

namespace Kl
open PySem L2 Kd
abbrev lawTexts : List Str := ["a", "bb", "run", "zzz", "Mix", "x y", "", "one\ntwo", "end\n"]
def spText (K : PySem.W.Frag) : Sp := fun vs H Q _ => ∃ (a b : Addr) (ns : List Int), vs = [.ref a, .ref b] ∧ Sp0 K a b ns H ∧ ∀ (x : Str) (H' : Hp), Go b H H' → x ∈ lawTexts → Q (.str x) H'
abbrev lawPaths : List Str := ["app/main", "app/side", "app/sub/deep", "doc/note", "app/none", "app", "doc", "app/sub"]
/-- the expressions that the law draws -/
inductive LawEx (ts : List Str) : Nat → List Str → Prop
  | path {n : Nat} {w x : Str} (h : w ∈ (["file", "each", "names"] : List Str)) (k : x ∈ lawPaths) : LawEx ts n [w, x]
  | pack {n : Nat} {w x : Str} (h : w ∈ (["pack", "version"] : List Str)) (k : x ∈ (["util", "core", "net"] : List Str)) : LawEx ts n [w, x]
  | set {n : Nat} {x : Str} (k : x ∈ (["color", "mode", "sizes"] : List Str)) : LawEx ts n ["set", x]
  | lit {n : Nat} {x : Str} (k : x ∈ (["a", "run", "zz", "7", "=+=", "k"] : List Str)) : LawEx ts n ["lit", x]
  | dep {n : Nat} {x : Str} (k : x ∈ ts) : LawEx ts n ["dep", x]
  | line {n : Nat} : LawEx ts n ["line"]
  | un {n : Nat} {w : Str} {e : List Str} (h : w ∈ (["up", "size", "not"] : List Str)) (k : LawEx ts n e) : LawEx ts (n + 1) (w :: e)
  | bin {n : Nat} {w : Str} {e f : List Str} (h : w ∈ (["cat", "has", "same"] : List Str)) (k : LawEx ts n e) (l : LawEx ts n f) : LawEx ts (n + 1) (w :: (e ++ f))
  | tri {n : Nat} {e f g : List Str} (k : LawEx ts n e) (l : LawEx ts n f) (m : LawEx ts n g) : LawEx ts (n + 1) ("if" :: (e ++ f ++ g))
/-- expressions of depth up to n - 1 -/
def spEx (K : PySem.W.Frag) (n : Nat) : Sp := fun vs H Q _ => ∃ (a b t : Addr) (ns : List Int) (ts : List Str) (d : Nat), vs = [.ref a, .ref b, .ref t, .int (d : Int)] ∧ Sp0 K a b ns H ∧ Strs H t ts ∧ ts.length ≤ 1000 ∧ d < n ∧
  ∀ (p : Addr) (xs : List Str) (H' : Hp), Go b H H' → H p = none → Strs H' p xs → LawEx ts d xs → Q (.ref p) H'
def exB : Nat → Nat
  | 0 => 2
  | n + 1 => 1 + 3 * exB n
theorem exB_two : ∀ n : Nat, 2 ≤ exB n
  | 0 => Nat.le_refl _
  | n + 1 => by
    have := exB_two n
    simp only [exB]
    omega
theorem exB_mono {m : Nat} : ∀ {n : Nat}, m ≤ n → exB m ≤ exB n
  | 0, h => by
    obtain rfl : m = 0 := by omega
    exact Nat.le_refl _
  | n + 1, h => by
    by_cases e : m = n + 1
    · subst e
      exact Nat.le_refl _
    · have := exB_mono (m := m) (n := n) (by omega)
      simp only [exB]
      omega
theorem LawEx.small {ts : List Str} {n : Nat} {e : List Str} (h : LawEx ts n e) : e.length ≤ exB n := by
  induction h with
  | path => exact exB_two _
  | pack => exact exB_two _
  | set => exact exB_two _
  | lit => exact exB_two _
  | dep => exact exB_two _
  | line => exact Nat.le_trans (by decide) (exB_two _)
  | un h k ih =>
    simp only [exB, List.length_cons]
    omega
  | bin h k l i1 i2 =>
    simp only [exB, List.length_cons, List.length_append]
    omega
  | tri k l m i1 i2 i3 =>
    simp only [exB, List.length_cons, List.length_append]
    omega
section
variable {P : Program} {w : World} {K : PySem.W.Frag} {mg : Str → Option Value} {base : Heap}
abbrev s_l_text : Stmt := topS 60
theorem sc_l_text : FnScope ["row", "spot"] ["row", "spot"] (defScope s_l_text) := ⟨rfl, rfl, rfl, by decide +kernel, rfl, by decide +kernel, by decide +kernel⟩
theorem ok_text {f : Addr} {fd : FuncData} (F : Fun K "_law_text" "_law_text" s_l_text f fd) (c_l_take : C8.Cal P w K mg base 2 "_law_take" (spTk K) []) : FnOk P w K mg base CX0 3 f fd ["row", "spot"] (spText K) := by
  refine F.ok sc_l_text (fun vs H Q E h => ?_) (fun cdv A outer s H vs Q E hr h => ?_)
  · obtain ⟨a, b, ns, rfl, _⟩ := h
    rfl
  · obtain ⟨a, b, ns, rfl, S, k⟩ := h
    refine ⟨_, (pss_one (ps_ret (pe_ix ix_list (pe_lst (pa_strs rfl)) (C8.pe_c c_l_take hr (by omega) (by rfl) (pa_cons (pv 0) (pa_cons (pv 1) (pa_cons pe_int pa_nil)))) (fun _ _ => rfl)))), ?_⟩
    refine ⟨(by show 9 ≤ sizeLine; decide), fun l hl => ?_⟩
    have S1 := S.go (S.refl.new (o := .lst (lawTexts.map V.str)) hl)
    refine ⟨_, rfl, _, rfl, a, b, ns, 9, rfl, S1, by decide, fun d H' g h0 h1 => ?_⟩
    have hs : Strs H' l lawTexts := Strs.go (H := upd H l (.lst (lawTexts.map V.str))) upd_same S1.cell g
    obtain ⟨x, hx, e⟩ := strs_at (xs := lawTexts) h0 h1
    exact ⟨l, _, d, _, rfl, rfl, SqL.of hs, e, k x H' ((S.refl.new hl).trans g) hx⟩
abbrev s_l_expression : Stmt := topS 61
theorem sc_l_expression : FnScope ["row", "spot", "targets", "deep", "style", "word", "made"] ["row", "spot", "targets", "deep"] (defScope s_l_expression) := ⟨rfl, rfl, rfl, by decide +kernel, rfl, by decide +kernel, by decide +kernel⟩
/-- an item of a written list of texts, drawn -/
theorem pick_ok {K : PySem.W.Frag} {a b : Addr} {ns : List Int} {m : List Str} {σ : L2.St} {H : Hp} {Q : VK} {n : Int} (h0 : σ[0]? = some (some (.ref a))) (h1 : σ[1]? = some (some (.ref b))) (S : Sp0 K a b ns H) (hn : n = (m.length : Int)) (hm : 0 < m.length ∧ m.length ≤ 1000)
    (q : ∀ (x : Str) (H2 : Hp), Go b H H2 → x ∈ m → Q (.str x) H2) : tOp (rIxL K) (tLst (tStrs m)) (tCall (spTk K) [] E0 (tCons (tVar 0) (tCons (tVar 1) (tCons (tC (.int n)) tNil)))) σ H Q := by
  subst hn
  refine ⟨by rw [List.length_map]; exact small_of (by omega), fun l hl => ⟨_, h0, _, h1, a, b, ns, m.length, rfl, S.go (S.refl.new hl), by omega, fun d H' g2 l0 l1 => ?_⟩⟩
  have g1 := S.refl.new (o := .lst (m.map V.str)) hl
  have hs : Strs H' l m := Strs.go (H := upd H l (.lst (m.map V.str))) upd_same g1.cell g2
  obtain ⟨x, hx, e⟩ := strs_at (xs := m) l0 l1
  exact ⟨l, _, d, _, rfl, rfl, SqL.of hs, e, q x H' (g1.trans g2) hx⟩
/-- .. of a list that stands -/
theorem pick_of {K : PySem.W.Frag} {a b t : Addr} {ns : List Int} {m : List Str} {σ : L2.St} {H : Hp} {Q : VK} {ta tn : TE} (h0 : σ[0]? = some (some (.ref a))) (h1 : σ[1]? = some (some (.ref b))) (S : Sp0 K a b ns H) (ht : Strs H t m) (hm : 0 < m.length)
    (et : ∀ Q1 : VK, Q1 (.ref t) H → ta σ H Q1) (en : ∀ Q1 : VK, Q1 (.int (m.length : Int)) H → tn σ H Q1)
    (q : ∀ (x : Str) (H2 : Hp), Go b H H2 → x ∈ m → Q (.str x) H2) : tOp (rIxL K) ta (tCall (spTk K) [] E0 (tCons (tVar 0) (tCons (tVar 1) (tCons tn tNil)))) σ H Q := by
  refine et _ ⟨_, h0, _, h1, en _ ⟨a, b, ns, m.length, rfl, S, by omega, fun d H' g2 l0 l1 => ?_⟩⟩
  obtain ⟨x, hx, e⟩ := strs_at (xs := m) l0 l1
  exact ⟨t, _, d, _, rfl, rfl, SqL.of (ht.go S.cell g2), e, q x H' g2 hx⟩
/-- a call of itself, one lower -/
theorem again_ok {K : PySem.W.Frag} {n : Nat} {a b t : Addr} {ns : List Int} {ts : List Str} {d : Nat} {σ : L2.St} {H : Hp} {Q : VK} (h0 : σ[0]? = some (some (.ref a))) (h1 : σ[1]? = some (some (.ref b))) (h2 : σ[2]? = some (some (.ref t))) (h3 : σ[3]? = some (some (.int ((d + 1 : Nat) : Int))))
    (S : Sp0 K a b ns H) (ht : Strs H t ts) (hz : ts.length ≤ 1000) (hd : d < n)
    (q : ∀ (p : Addr) (xs : List Str) (H' : Hp), Go b H H' → H p = none → Strs H' p xs → LawEx ts d xs → Q (.ref p) H') :
    tCall (spEx K n) [] C8.E0 (tCons (tVar 0) (tCons (tVar 1) (tCons (tVar 2) (tCons (tOp (rI0 fun i j => V.int (i - j)) (tVar 3) (tC (V.int 1))) tNil)))) σ H Q := by
  refine ⟨_, h0, _, h1, _, h2, _, h3, _, _, rfl, rfl, a, b, t, ns, ts, d, ?_, S, ht, hz, hd, q⟩
  show [V.ref a, V.ref b, V.ref t, V.int (((d + 1 : Nat) : Int) - 1)] = _
  rw [show ((d + 1 : Nat) : Int) - 1 = (d : Int) by omega]
theorem cat_ok {b p q : Addr} {xs ys : List Str} {H : Hp} {Q : VK} (c : ∃ i : Int, 0 ≤ i ∧ H b = some (.lst [.int i])) (hp : Strs H p xs) (hq : Strs H q ys) (hz : xs.length + ys.length ≤ 100000)
    (k : ∀ (r : Addr) (H' : Hp), Go b H H' → H r = none → Strs H' r (xs ++ ys) → Q (.ref r) H') : rCat (.ref p) (.ref q) H Q :=
  ⟨p, q, _, _, rfl, rfl, hp, hq, by rw [List.length_map, List.length_map]; exact small_of hz, fun r hr => k r _ ((Go.refl c).new hr) hr (by unfold Strs; rw [upd_same, List.map_append])⟩
theorem mem_sub {m m' : List Str} (h : ∀ y ∈ m, y ∈ m') {x : Str} (hx : x ∈ m) : x ∈ m' := h x hx
theorem lt_cases {d : Int} {n : Nat} (h0 : 0 ≤ d) (h1 : d < (n : Int)) : ∃ i : Nat, i < n ∧ d = (i : Int) := ⟨d.toNat, by omega, by omega⟩
theorem ok_ex {f : Addr} {fd : FuncData} (A : At K mg "_law_expression" s_l_expression ["row", "spot", "targets", "deep"] f fd) (T : Glo mg) (c_l_take : C8.Cal P w K mg base 2 "_law_take" (spTk K) []) :
    ∀ n : Nat, n ≤ 10 → FnOk P w K mg base CX0 (n + 3) f fd ["row", "spot", "targets", "deep"] (spEx K n)
  | 0, _ => ⟨fun vs H Q E ⟨a, b, t, ns, ts, d, e, _⟩ => by subst e; rfl, fun A outer s H args us vs Q E hr he hb hv ⟨a, b, t, ns, ts, d, e, _, _, _, z, _⟩ => absurd z (Nat.not_lt_zero _)⟩
  | n + 1, hn => by
    have c_l_expression : C8.Cal P w K mg base (n + 3) "_law_expression" (spEx K n) [] := cal_of A (ok_ex A T c_l_take n (by omega))
    refine A.fn.ok sc_l_expression (fun vs H Q E h => ?_) (fun cdv A outer s H vs Q E hr h => ?_)
    · obtain ⟨a, b, t, ns, ts, d, rfl, _⟩ := h
      rfl
    · obtain ⟨a, b, t, ns, ts, d, rfl, S, ht, hz, hd, k⟩ := h
      refine ⟨_, (pss_cons (ps_set (i := 4) sc_l_expression.nd rfl (.inl rfl) (C8.pe_c c_l_take hr (by omega) (by rfl) (pa_cons (pv 0) (pa_cons (pv 1) (pa_cons (pe_ifExp (pt_cmpR op_gt (pv 3) pe_int (nomark _)) pe_int pe_int) pa_nil)))))
        (pss_cons (ps_if (pt_cmpR op_in_seq (pv 4) (pe_lst (pa_cons pe_int (pa_cons pe_int pa_nil))) (by rfl))
        (pss_one (ps_ret (pe_lst (pa_cons pe_str (pa_cons (pe_ix ix_list (pe_lst (pa_strs rfl)) (C8.pe_c c_l_take hr (by omega) (by rfl) (pa_cons (pv 0) (pa_cons (pv 1) (pa_cons pe_int pa_nil)))) (fun _ _ => rfl)) pa_nil)))))
        pss_nil)
        (pss_cons (ps_if (pt_cmpR op_eq (pv 4) pe_int (nomark _))
        (pss_one (ps_ret (pe_lst (pa_cons (pe_ix ix_list (pe_lst (pa_strs rfl)) (C8.pe_c c_l_take hr (by omega) (by rfl) (pa_cons (pv 0) (pa_cons (pv 1) (pa_cons pe_int pa_nil)))) (fun _ _ => rfl)) (pa_cons (pe_ix ix_list (pe_lst (pa_strs rfl)) (C8.pe_c c_l_take hr (by omega) (by rfl) (pa_cons (pv 0) (pa_cons (pv 1) (pa_cons pe_int pa_nil)))) (fun _ _ => rfl)) pa_nil)))))
        pss_nil)
        (pss_cons (ps_if (pt_cmpR op_eq (pv 4) pe_int (nomark _))
        (pss_one (ps_ret (pe_lst (pa_cons (pe_ix ix_list (pe_lst (pa_strs rfl)) (C8.pe_c c_l_take hr (by omega) (by rfl) (pa_cons (pv 0) (pa_cons (pv 1) (pa_cons pe_int pa_nil)))) (fun _ _ => rfl)) (pa_cons (pe_ix ix_list (pe_lst (pa_strs rfl)) (C8.pe_c c_l_take hr (by omega) (by rfl) (pa_cons (pv 0) (pa_cons (pv 1) (pa_cons pe_int pa_nil)))) (fun _ _ => rfl)) pa_nil)))))
        pss_nil)
        (pss_cons (ps_if (pt_cmpR op_eq (pv 4) pe_int (nomark _))
        (pss_one (ps_ret (pe_lst (pa_cons pe_str (pa_cons (pe_ix ix_list (pe_lst (pa_strs rfl)) (C8.pe_c c_l_take hr (by omega) (by rfl) (pa_cons (pv 0) (pa_cons (pv 1) (pa_cons pe_int pa_nil)))) (fun _ _ => rfl)) pa_nil)))))
        pss_nil)
        (pss_cons (ps_if (pt_cmpR op_eq (pv 4) pe_int (nomark _))
        (pss_one (ps_ret (pe_lst (pa_cons pe_str (pa_cons (pe_ix ix_list (pe_lst (pa_strs rfl)) (C8.pe_c c_l_take hr (by omega) (by rfl) (pa_cons (pv 0) (pa_cons (pv 1) (pa_cons pe_int pa_nil)))) (fun _ _ => rfl)) pa_nil)))))
        pss_nil)
        (C8.pss_cut (ps_if (PW.pt (pw_and (pt_cmpR op_in_seq (pv 4) (pe_lst (pa_cons pe_int (pa_cons pe_int pa_nil))) (by rfl)) (pw_and1 (pt_cmpR op_gt (pe_callB call_len_seq (by rfl) T.len PySem.boot_len (pa_cons (pv 2) pa_nil)) pe_int (nomark _)))))
        (pss_one (ps_ret (pe_lst (pa_cons pe_str (pa_cons (pe_ix ix_list (pv 2) (C8.pe_c c_l_take hr (by omega) (by rfl) (pa_cons (pv 0) (pa_cons (pv 1) (pa_cons (pe_callB call_len_seq (by rfl) T.len PySem.boot_len (pa_cons (pv 2) pa_nil)) pa_nil)))) (fun _ _ => rfl)) pa_nil)))))
        pss_nil)
        (pss_cons (ps_if (pt_cmpR op_le (pv 4) pe_int (nomark _))
        (pss_one (ps_ret (pe_ifExp (pt_cmpR op_eq (C8.pe_c c_l_take hr (by omega) (by rfl) (pa_cons (pv 0) (pa_cons (pv 1) (pa_cons pe_int pa_nil)))) pe_int (nomark _)) (pe_lst (pa_strs rfl)) (pe_lst (pa_strs rfl)))))
        pss_nil)
        (pss_cons (ps_if (pt_cmpR op_eq (pv 4) pe_int (nomark _))
        (pss_one (ps_ret (pe_op op_cat (pe_lst (pa_cons (pe_ix ix_list (pe_lst (pa_strs rfl)) (C8.pe_c c_l_take hr (by omega) (by rfl) (pa_cons (pv 0) (pa_cons (pv 1) (pa_cons pe_int pa_nil)))) (fun _ _ => rfl)) pa_nil)) (C8.pe_c c_l_expression hr (by omega) (by rfl) (pa_cons (pv 0) (pa_cons (pv 1) (pa_cons (pv 2) (pa_cons (pe_op op_sub (pv 3) pe_int) pa_nil))))))))
        pss_nil)
        (pss_cons (ps_set (i := 5) sc_l_expression.nd rfl (.inl rfl) (pe_ix ix_list (pe_lst (pa_strs rfl)) (pe_op op_sub (pv 4) pe_int) (fun _ _ => rfl)))
        (pss_cons (ps_set (i := 6) sc_l_expression.nd rfl (.inl rfl) (pe_op op_cat (pe_op op_cat (pe_lst (pa_cons (pv 5) pa_nil)) (C8.pe_c c_l_expression hr (by omega) (by rfl) (pa_cons (pv 0) (pa_cons (pv 1) (pa_cons (pv 2) (pa_cons (pe_op op_sub (pv 3) pe_int) pa_nil)))))) (C8.pe_c c_l_expression hr (by omega) (by rfl) (pa_cons (pv 0) (pa_cons (pv 1) (pa_cons (pv 2) (pa_cons (pe_op op_sub (pv 3) pe_int) pa_nil)))))))
        (pss_one (ps_ret (pe_ifExp (pt_cmpR op_eq (pv 5) pe_str (nomark _)) (pe_op op_cat (pv 6) (C8.pe_c c_l_expression hr (by omega) (by rfl) (pa_cons (pv 0) (pa_cons (pv 1) (pa_cons (pv 2) (pa_cons (pe_op op_sub (pv 3) pe_int) pa_nil)))))) (pv 6))))))))))))))), ?_⟩
      refine ⟨_, rfl, _, rfl, _, rfl, _, _, rfl, rfl, _, rfl, ?_⟩
      refine ite2 (fun c => ?_) (fun c => ?_)
      all_goals
        refine ⟨a, b, ns, _, rfl, S, by decide, fun st H1 g1 h0 h1 => ?_⟩
        have h16 : st < 16 := by omega
        have h9 : 9 ≤ st → 0 < d := by
          have c' := c
          simp at c'
          omega
        refine ⟨_, rfl, (by show 2 ≤ sizeLine; decide), fun l hl => ?_⟩
        have g2 := g1.new (o := .lst [.int 0, .int 1]) hl
        have S2 := S.go g2
        have t2 := ht.go S.cell g2
        refine ⟨l, _, rfl, .inl (SqL.of upd_same), rfl, rfl, _, rfl, ?_⟩
        refine ite2 (fun _ => ?_) (fun _ => ?_)
        · refine pick_ok (m := ["app/main", "app/side", "app/sub/deep", "doc/note", "app/none"]) rfl rfl S2 rfl (by decide) fun x H3 g3 hx => ?_
          have g4 := g2.trans g3
          exact ⟨(by show 2 ≤ sizeLine; decide), fun p hp => k p ["file", x] _ (g4.new hp) (g4.free hp) upd_same (.path (by decide) (mem_sub (by decide) hx))⟩
        refine ⟨_, rfl, rfl, _, rfl, ite2 (fun _ => ?_) (fun _ => ?_)⟩
        · refine pick_ok (m := ["each", "names"]) rfl rfl S2 rfl (by decide) fun w0 H3 g3 hw => ?_
          refine pick_ok (m := ["app", "doc", "app/sub"]) rfl rfl (S2.go g3) rfl (by decide) fun x H4 g4 hx => ?_
          have g5 := (g2.trans g3).trans g4
          exact ⟨(by show 2 ≤ sizeLine; decide), fun p hp => k p [w0, x] _ (g5.new hp) (g5.free hp) upd_same (.path (mem_sub (by decide) hw) (mem_sub (by decide) hx))⟩
        refine ⟨_, rfl, rfl, _, rfl, ite2 (fun _ => ?_) (fun _ => ?_)⟩
        · refine pick_ok (m := ["pack", "version"]) rfl rfl S2 rfl (by decide) fun w0 H3 g3 hw => ?_
          refine pick_ok (m := ["util", "core", "net"]) rfl rfl (S2.go g3) rfl (by decide) fun x H4 g4 hx => ?_
          have g5 := (g2.trans g3).trans g4
          exact ⟨(by show 2 ≤ sizeLine; decide), fun p hp => k p [w0, x] _ (g5.new hp) (g5.free hp) upd_same (.pack hw hx)⟩
        refine ⟨_, rfl, rfl, _, rfl, ite2 (fun _ => ?_) (fun _ => ?_)⟩
        · refine pick_ok (m := ["color", "mode", "sizes"]) rfl rfl S2 rfl (by decide) fun x H3 g3 hx => ?_
          have g4 := g2.trans g3
          exact ⟨(by show 2 ≤ sizeLine; decide), fun p hp => k p ["set", x] _ (g4.new hp) (g4.free hp) upd_same (.set hx)⟩
        refine ⟨_, rfl, rfl, _, rfl, ite2 (fun _ => ?_) (fun _ => ?_)⟩
        · refine pick_ok (m := ["a", "run", "zz", "7", "=+="]) rfl rfl S2 rfl (by decide) fun x H3 g3 hx => ?_
          have g4 := g2.trans g3
          exact ⟨(by show 2 ≤ sizeLine; decide), fun p hp => k p ["lit", x] _ (g4.new hp) (g4.free hp) upd_same (.lit (mem_sub (by decide) hx))⟩
        -- if style in [6, 7] and len(targets) > 0
        refine ⟨fun σ' H' => σ' = [some (.ref a), some (.ref b), some (.ref t), some (.int (d : Int)), some (.int st), none, none] ∧ Go b H H', ?_, ?_⟩
        · refine ⟨_, rfl, (by show 2 ≤ sizeLine; decide), fun l2 hl2 => ?_⟩
          have g3 := g2.new (o := .lst [.int 6, .int 7]) hl2
          have t3 := ht.go S.cell g3
          refine ⟨l2, _, rfl, .inl (SqL.of upd_same), rfl, rfl, _, rfl, ?_⟩
          refine ite2 (fun _ => ?_) (fun _ => iteF ⟨rfl, g3⟩)
          refine ⟨_, rfl, t, _, rfl, .inl (SqL.of t3), _, _, rfl, rfl, _, rfl, ?_⟩
          refine ite2 (fun c3 => ?_) (fun _ => ⟨rfl, g3⟩)
          have hp3 : 0 < ts.length := by
            simp at c3
            omega
          refine pick_of rfl rfl (S.go g3) t3 hp3 (fun Q1 q1 => ⟨_, rfl, q1⟩) (fun Q1 q1 => ⟨_, rfl, t, _, rfl, .inl (SqL.of t3), by rw [List.length_map]; exact q1⟩) fun x H4 g4 hx => ?_
          have g5 := g3.trans g4
          exact ⟨(by show 2 ≤ sizeLine; decide), fun p hp => k p ["dep", x] _ (g5.new hp) (g5.free hp) upd_same (.dep hx)⟩
        rintro σ' H3 ⟨rfl, g3⟩
        have S3 := S.go g3
        refine ⟨_, rfl, _, _, rfl, rfl, _, rfl, ite2 (fun _ => ?_) (fun c8 => ?_)⟩
        · refine ⟨_, rfl, _, rfl, a, b, ns, 3, rfl, S3, by decide, fun e H4 g4 _ _ => ?_⟩
          have g5 := g3.trans g4
          refine ⟨rfl, _, rfl, ite2 (fun _ => ?_) (fun _ => ?_)⟩
          · exact ⟨(by show 1 ≤ sizeLine; decide), fun p hp => k p ["line"] _ (g5.new hp) (g5.free hp) upd_same .line⟩
          · exact ⟨(by show 2 ≤ sizeLine; decide), fun p hp => k p ["lit", "k"] _ (g5.new hp) (g5.free hp) upd_same (.lit (by decide))⟩
        have c8' : 9 ≤ st := by
          simp at c8
          omega
        obtain ⟨d', rfl⟩ : ∃ d', d = d' + 1 := ⟨d - 1, by have := h9 c8'; omega⟩
        have hd2 : d' < n := by omega
        refine ⟨_, rfl, rfl, _, rfl, ite2 (fun _ => ?_) (fun c9 => ?_)⟩
        · refine pick_ok (m := ["up", "size", "not"]) rfl rfl S3 rfl (by decide) fun w0 H4 g4 hw => ?_
          have g5 := g3.trans g4
          refine ⟨(by show 1 ≤ sizeLine; decide), fun p hp => ?_⟩
          have g6 := g5.new (o := .lst [.str w0]) hp
          have hP : Strs (upd H4 p (.lst [.str w0])) p [w0] := upd_same
          have S6 := S.go g6
          refine again_ok rfl rfl rfl rfl S6 (ht.go S.cell g6) hz hd2 fun q xs H5 g7 hq hs kx => ?_
          refine ⟨p, q, [.str w0], xs.map V.str, rfl, rfl, hP.go S6.cell g7, hs, ?_, fun r hr0 => ?_⟩
          · have := kx.small
            rw [List.length_map]
            exact small_of (Nat.le_trans (Nat.add_le_add_left this 1) (Nat.le_trans (Nat.add_le_add_left (exB_mono (show d' ≤ 9 by omega)) 1) (by decide)))
          have g8 := (g6.trans g7).new (o := .lst (([V.str w0] ++ xs.map V.str))) hr0
          exact k r (w0 :: xs) _ g8 ((g6.trans g7).free hr0) upd_same (.un hw kx)
        have c10 : 10 ≤ st := by
          simp at c9
          omega
        -- the longer ones
        refine ⟨(by show 6 ≤ sizeLine; decide), fun l3 hl3 => ?_⟩
        have g4 := g3.new (o := .lst ((["cat", "cat", "has", "same", "if", "if"] : List Str).map V.str)) hl3
        obtain ⟨x, hx, e⟩ := strs_at (xs := (["cat", "cat", "has", "same", "if", "if"] : List Str)) (d := st - 10) (by omega) (by show st - 10 < 6; omega)
        refine ⟨_, rfl, _, _, rfl, rfl, l3, _, st - 10, _, rfl, rfl, SqL.of upd_same, e, _, rfl, ?_⟩
        refine ⟨(by show 1 ≤ sizeLine; decide), fun p hp => ?_⟩
        have g5 := g4.new (o := .lst [.str x]) hp
        have hP : Strs (upd (upd H3 l3 (.lst ((["cat", "cat", "has", "same", "if", "if"] : List Str).map V.str))) p (.lst [.str x])) p [x] := upd_same
        have S5 := S.go g5
        have t5 := ht.go S.cell g5
        refine again_ok rfl rfl rfl rfl S5 t5 hz hd2 fun q1 x1 H6 g6 hq1 hs1 k1 => ?_
        have zz : ∀ {y : List Str}, LawEx ts d' y → y.length ≤ 16402 := fun ky => Nat.le_trans ky.small (Nat.le_trans (exB_mono (show d' ≤ 8 by omega)) (by decide))
        have z1 := zz k1
        have g7 := g5.trans g6
        refine cat_ok (S.go g7).cell (hP.go S5.cell g6) hs1 (by simp only [List.length_cons, List.length_nil]; omega) fun r1 H7 g8 hr1 hc1 => ?_
        have g9 := g7.trans g8
        refine again_ok rfl rfl rfl rfl (S.go g9) (ht.go S.cell g9) hz hd2 fun q2 x2 H8 g10 hq2 hs2 k2 => ?_
        have z2 := zz k2
        have g11 := g9.trans g10
        refine cat_ok (S.go g11).cell (hc1.go (S.go g9).cell g10) hs2 (by simp only [List.length_append, List.length_cons, List.length_nil]; omega) fun r2 H9 g12 hr2 hc2 => ?_
        have g13 := g11.trans g12
        refine ⟨_, rfl, rfl, _, rfl, ite2 (fun ci => ?_) (fun ci => ?_)⟩
        · refine ⟨_, rfl, ?_⟩
          refine again_ok rfl rfl rfl rfl (S.go g13) (ht.go S.cell g13) hz hd2 fun q3 x3 H10 g14 hq3 hs3 k3 => ?_
          have z3 := zz k3
          have g15 := g13.trans g14
          refine cat_ok (S.go g15).cell (hc2.go (S.go g13).cell g14) hs3 (by simp only [List.length_append, List.length_cons, List.length_nil]; omega) fun r3 H11 g16 hr3 hc3 => ?_
          refine k r3 _ _ (g15.trans g16) (g15.free hr3) hc3 ?_
          obtain rfl : x = "if" := V.str.inj (of_decide_eq_true ci)
          have := LawEx.tri k1 k2 k3
          simpa using this
        · refine ⟨_, rfl, ?_⟩
          refine k r2 _ _ g13 (g11.free hr2) hc2 ?_
          have hb : x ∈ (["cat", "has", "same"] : List Str) := by
            have ci' : x ≠ "if" := fun e => ci (decide_eq_true (congrArg V.str e))
            simp only [List.mem_cons, List.not_mem_nil, or_false] at hx ⊢
            rcases hx with h | h | h | h | h | h
            · exact .inl h
            · exact .inl h
            · exact .inr (.inl h)
            · exact .inr (.inr h)
            · exact absurd h ci'
            · exact absurd h ci'
          have := LawEx.bin hb k1 k2
          simpa using this
end
end Kl

namespace Kl
open PySem L2 Kd
/-! texts by their signs: a blank, or shown and neither '!' nor '%' -/
def okc (c : Nat) : Bool := c == 32 || (34 ≤ c && c ≤ 126 && c != 37)
structure Sg (m : Nat) (x : Str) : Prop where
  len : x.length ≤ m
  all : ∀ c ∈ x.cps.toList, okc c = true
theorem cps_cat (x y : Str) : (x ++ y).cps.toList = x.cps.toList ++ y.cps.toList := TL.tl_append x y
theorem len_tl (x : Str) : x.cps.toList.length = x.length := by simp [Str.length]
theorem len_cat (x y : Str) : (x ++ y).length = x.length + y.length := by
  rw [← len_tl, cps_cat, List.length_append, len_tl, len_tl]
theorem Sg.cat {m n : Nat} {x y : Str} (a : Sg m x) (b : Sg n y) : Sg (m + n) (x ++ y) := by
  refine ⟨?_, fun c h => ?_⟩
  · have := a.len
    have := b.len
    rw [len_cat]
    omega
  · rw [cps_cat, List.mem_append] at h
    rcases h with h | h
    · exact a.all c h
    · exact b.all c h
theorem Sg.mono {m n : Nat} {x : Str} (a : Sg m x) (h : m ≤ n) : Sg n x := ⟨Nat.le_trans a.len h, a.all⟩
def sgB (m : Nat) (x : Str) : Bool := decide (x.length ≤ m) && x.cps.toList.all okc
theorem sg_of {m : Nat} {x : Str} (h : sgB m x = true) : Sg m x := by
  unfold sgB at h
  rw [Bool.and_eq_true, List.all_eq_true] at h
  exact ⟨of_decide_eq_true h.1, h.2⟩
theorem sg_mem {m : Nat} {x : Str} {l : List Str} (hx : x ∈ l) (h : (l.all (sgB m)) = true) : Sg m x := sg_of (List.all_eq_true.mp h x hx)
theorem num_fact : ∀ k : Nat, k < 20 → sgB 2 (toString (k : Int)) = true := by
  intro k hk
  have : ∀ k : Fin 20, sgB 2 (toString ((k.val : Nat) : Int)) = true := by decide +kernel
  exact this ⟨k, hk⟩
theorem sg_num {k : Nat} (hk : k < 20) : Sg 2 (toString (k : Int)) := sg_of (num_fact k hk)
theorem log_small {k : Nat} (hk : k < 1000) : ((k : Int)).natAbs.log2 < 1920 := by
  show k.log2 < 1920
  have := Nat.log2_le_self k
  omega
/-- joined -/
theorem sg_join {m n : Nat} {y : Str} (hy : Sg n y) : ∀ {xs : List Str}, (∀ x ∈ xs, Sg m x) → Sg (xs.length * (m + n)) (Str.join y xs)
  | [], _ => ⟨Nat.zero_le _, fun c h => by simp [Str.join, Str.empty] at h⟩
  | [x], h => (h x (List.mem_singleton.mpr rfl)).mono (by simp)
  | x :: z :: r, h => by
    have ih := sg_join hy (xs := z :: r) fun w hw => h w (List.mem_cons_of_mem _ hw)
    refine (((h x (List.mem_cons_self ..)).cat hy).cat ih).mono ?_
    simp only [List.length_cons, Nat.add_mul, Nat.one_mul]
    omega
theorem sum_lens {m : Nat} : ∀ {xs : List Str}, (∀ x ∈ xs, x.length ≤ m) → (xs.map (·.length)).sum ≤ xs.length * m
  | [], _ => Nat.zero_le _
  | x :: r, h => by
    have ih := sum_lens (xs := r) fun w hw => h w (List.mem_cons_of_mem _ hw)
    have := h x (List.mem_cons_self ..)
    simp only [List.map_cons, List.sum_cons, List.length_cons, Nat.add_mul, Nat.one_mul]
    omega
theorem LawEx.words {ts : List Str} {n : Nat} {e : List Str} (h : LawEx ts n e) (ht : ∀ t ∈ ts, Sg 12 t) : ∀ x ∈ e, Sg 12 x := by
  have two : ∀ {l k : List Str} {w x : Str}, w ∈ l → x ∈ k → (l.all (sgB 12)) = true → (k.all (sgB 12)) = true → ∀ z ∈ ([w, x] : List Str), Sg 12 z := fun hw hx a b z hz => by
    simp only [List.mem_cons, List.not_mem_nil, or_false] at hz
    rcases hz with rfl | rfl
    · exact sg_mem hw a
    · exact sg_mem hx b
  have one : ∀ {w : Str} {k : List Str} {x : Str}, x ∈ k → sgB 12 w = true → (k.all (sgB 12)) = true → ∀ z ∈ ([w, x] : List Str), Sg 12 z := fun {w k x} hx a b => two (l := [w]) (List.mem_singleton.mpr rfl) hx (by simpa using a) b
  induction h with
  | path h k => exact two h k (by decide +kernel) (by decide +kernel)
  | pack h k => exact two h k (by decide +kernel) (by decide +kernel)
  | set k => exact one k (by decide +kernel) (by decide +kernel)
  | lit k => exact one k (by decide +kernel) (by decide +kernel)
  | dep k => 
    intro z hz
    simp only [List.mem_cons, List.not_mem_nil, or_false] at hz
    rcases hz with rfl | rfl
    · exact sg_of (by decide +kernel)
    · exact ht _ k
  | line => 
    intro z hz
    simp only [List.mem_cons, List.not_mem_nil, or_false] at hz
    subst hz
    exact sg_of (by decide +kernel)
  | un h k ih => 
    intro z hz
    rcases List.mem_cons.mp hz with rfl | hz
    · exact sg_mem h (by decide +kernel)
    · exact ih z hz
  | bin h k l i1 i2 =>
    intro z hz
    rcases List.mem_cons.mp hz with rfl | hz
    · exact sg_mem h (by decide +kernel)
    · rcases List.mem_append.mp hz with hz | hz
      · exact i1 z hz
      · exact i2 z hz
  | tri k l m i1 i2 i3 =>
    intro z hz
    rcases List.mem_cons.mp hz with rfl | hz
    · exact sg_of (by decide +kernel)
    · rcases List.mem_append.mp hz with hz | hz
      · rcases List.mem_append.mp hz with hz | hz
        · exact i1 z hz
        · exact i2 z hz
      · exact i3 z hz
/-- an expression of depth 2, its words joined by blanks -/
theorem LawEx.about {ts : List Str} {e : List Str} (h : LawEx ts 2 e) (ht : ∀ t ∈ ts, Sg 12 t) : Sg 286 (Txt.join " " e) ∧ (e.map (·.length)).sum + e.length * (" " : Str).length ≤ 16777216 := by
  have hs := h.small
  have hw := h.words ht
  have hl : e.length ≤ 22 := Nat.le_trans hs (by decide)
  refine ⟨?_, ?_⟩
  · rw [TL.join_eq]
    refine (sg_join (n := 1) (sg_of (by decide +kernel)) hw).mono ?_
    exact Nat.le_trans (Nat.mul_le_mul_right _ hl) (by decide)
  · have a := sum_lens (m := 12) fun x hx => (hw x hx).len
    have b : (" " : Str).length = 1 := by decide +kernel
    rw [b]
    omega
/-- a list of rows at p, made since H0 -/
structure RowsAt (b : Addr) (H0 : Hp) (m n : Nat) (p : Addr) (xs : List Str) (H : Hp) : Prop where
  go : Go b H0 H
  new : H0 p = none
  at_ : Strs H p xs
  few : xs.length ≤ n
  sg : ∀ x ∈ xs, Sg m x
theorem RowsAt.step {b : Addr} {H0 H H' : Hp} {m n : Nat} {p : Addr} {xs : List Str} (r : RowsAt b H0 m n p xs H) (g : Go b H H') : RowsAt b H0 m n p xs H' :=
  ⟨r.go.trans g, r.new, r.at_.go r.go.cell g, r.few, r.sg⟩
theorem RowsAt.ne {b : Addr} {H0 H : Hp} {m n : Nat} {p : Addr} {xs : List Str} (r : RowsAt b H0 m n p xs H) : b ≠ p := fun z => r.at_.ne r.go.cell z.symm
theorem RowsAt.app {b : Addr} {H0 H : Hp} {m n : Nat} {p : Addr} {xs : List Str} {x : Str} (r : RowsAt b H0 m n p xs H) (hx : Sg m x) : RowsAt b H0 m (n + 1) p (xs ++ [x]) (upd H p (.lst (xs.map V.str ++ [V.str x]))) :=
  ⟨r.go.mut r.new r.ne, r.new, by unfold Strs; rw [upd_same, List.map_append]; rfl, by have := r.few; rw [List.length_append]; simp only [List.length_cons, List.length_nil]; omega, fun y hy => by
    rcases List.mem_append.mp hy with h | h
    · exact r.sg y h
    · rw [List.mem_singleton.mp h]
      exact hx⟩
theorem RowsAt.mono {b : Addr} {H0 H : Hp} {m n k : Nat} {p : Addr} {xs : List Str} (r : RowsAt b H0 m n p xs H) (h : n ≤ k) : RowsAt b H0 m k p xs H := ⟨r.go, r.new, r.at_, Nat.le_trans r.few h, r.sg⟩
theorem RowsAt.nil {b : Addr} {H : Hp} {m n : Nat} {p : Addr} (c : ∃ i : Int, 0 ≤ i ∧ H b = some (.lst [.int i])) (h : H p = none) : RowsAt b H m n p [] (upd H p (.lst [])) :=
  ⟨(Go.refl c).new h, h, upd_same, Nat.zero_le _, fun _ h => nomatch h⟩
theorem RowsAt.side {b : Addr} {H0 H : Hp} {m n : Nat} {p q : Addr} {xs : List Str} {o : HO} (r : RowsAt b H0 m n p xs H) (hq : H0 q = none) (ne : p ≠ q) (nb : b ≠ q) : RowsAt b H0 m n p xs (upd H q o) :=
  ⟨r.go.mut hq nb, r.new, by unfold Strs; rw [upd_ne ne]; exact r.at_, r.few, r.sg⟩
theorem RowsAt.room {b : Addr} {H0 H : Hp} {m n : Nat} {p : Addr} {xs : List Str} (r : RowsAt b H0 m n p xs H) (hn : n ≤ 10000 := by omega) : (xs.map V.str).length < sizeLine := by
  rw [List.length_map]
  exact small_lt (by have := r.few; omega)
theorem RowsAt.join {b : Addr} {H0 H : Hp} {m n k : Nat} {p : Addr} {xs : List Str} {y : Str} (r : RowsAt b H0 m n p xs H) (hy : Sg k y) (hz : n * (m + k) ≤ 100000) : (xs.map (·.length)).sum + xs.length * y.length ≤ 16777216 ∧ Sg (n * (m + k)) (Txt.join y xs) := by
  have h1 := sum_lens (m := m) fun x hx => (r.sg x hx).len
  have h2 : xs.length * y.length ≤ xs.length * k := Nat.mul_le_mul_left _ hy.len
  have h3 : xs.length * m + xs.length * k ≤ n * (m + k) := by
    rw [← Nat.mul_add]
    exact Nat.mul_le_mul_right _ r.few
  refine ⟨by omega, ?_⟩
  rw [TL.join_eq]
  exact (sg_join hy r.sg).mono (Nat.mul_le_mul_right _ r.few)
theorem strs_new {b l : Addr} {m : List Str} {H H' : Hp} (c : ∃ i : Int, 0 ≤ i ∧ H b = some (.lst [.int i])) (h : H l = none) (g : Go b (upd H l (.lst (m.map V.str))) H') : Strs H' l m :=
  Strs.go (H := upd H l (.lst (m.map V.str))) upd_same ((Go.refl c).new h).cell g
theorem RowsAt.cat {b : Addr} {H0 H : Hp} {m n k : Nat} {p r : Addr} {xs ys : List Str} (t : RowsAt b H0 m n p xs H) (hl : ys.length ≤ k) (hs : ∀ y ∈ ys, Sg m y) (hr : H r = none) : RowsAt b H0 m (n + k) r (xs ++ ys) (upd H r (.lst (xs.map V.str ++ ys.map V.str))) :=
  ⟨t.go.new hr, t.go.free hr, by unfold Strs; rw [upd_same, List.map_append], by have := t.few; rw [List.length_append]; omega, fun y hy => by
    rcases List.mem_append.mp hy with h | h
    · exact t.sg y h
    · exact hs y h⟩
theorem RowsAt.cat_sz {b : Addr} {H0 H : Hp} {m n k : Nat} {p : Addr} {xs ys : List Str} (t : RowsAt b H0 m n p xs H) (hl : ys.length ≤ k) (h : n + k ≤ 10000 := by omega) : (xs.map V.str).length + (ys.map V.str).length ≤ sizeLine := by
  rw [List.length_map, List.length_map]
  exact small_of (by have := t.few; omega)
end Kl

namespace Kl
open PySem L2 Kd
/-- rows made -/
def spRows (K : PySem.W.Frag) (m n : Nat) : Sp := fun vs H Q _ => ∃ (a b : Addr) (ns : List Int), vs = [.ref a, .ref b] ∧ Sp0 K a b ns H ∧ ∀ (p : Addr) (xs : List Str) (H' : Hp), RowsAt b H m n p xs H' → Q (.ref p) H'
def spRules (K : PySem.W.Frag) : Sp := fun vs H Q _ => ∃ (a b : Addr) (ns : List Int) (k : Nat), vs = [.ref a, .ref b, .int (k : Int)] ∧ Sp0 K a b ns H ∧ k ≤ 5 ∧ ∀ (p : Addr) (xs : List Str) (H' : Hp), RowsAt b H 400 8 p xs H' → Q (.ref p) H'
theorem Sg.sz {m n : Nat} {x y : Str} (a : Sg m x) (b : Sg n y) (h : m + n ≤ 100000 := by decide) : x.length + y.length ≤ sizeLine := small_of (by
  have := a.len
  have := b.len
  omega)
abbrev rJn (K : PySem.W.Frag) : V → List V → Hp → VK → Prop := fun x xs H Q => ∃ a p, ∃ ys : List Str, x = .str a ∧ xs = [.ref p] ∧ (SqL K H p (ys.map V.str) ∨ SqT K H p (ys.map V.str)) ∧ (ys.map (·.length)).sum + ys.length * a.length ≤ 16777216 ∧ Q (.str (Txt.join a ys)) H
theorem about_ok {K : PySem.W.Frag} {a b t : Addr} {ns : List Int} {ts : List Str} {i : Nat} {σ : L2.St} {H : Hp} {Q : VK} (h0 : σ[0]? = some (some (.ref a))) (h1 : σ[1]? = some (some (.ref b))) (hi : σ[i]? = some (some (.ref t))) (S : Sp0 K a b ns H) (ht : Strs H t ts) (hz : ts.length ≤ 1000) (tg : ∀ x ∈ ts, Sg 12 x)
    (q : ∀ (x : Str) (H' : Hp), Go b H H' → Sg 286 x → Q (.str x) H') : tM1 (rJn K) (tC (.str " ")) (tCall (spEx K 3) [] C8.E0 (tCons (tVar 0) (tCons (tVar 1) (tCons (tVar i) (tCons (tC (.int 2)) tNil))))) σ H Q := by
  refine ⟨⟨_, rfl⟩, _, h0, _, h1, _, hi, a, b, t, ns, ts, 2, rfl, S, ht, hz, by decide, fun p xs H' g _ hs e => ?_⟩
  obtain ⟨h2, h3⟩ := e.about tg
  exact ⟨_, p, xs, rfl, rfl, .inl (SqL.of hs), h3, q _ H' g h2⟩
theorem exc_ok {K : PySem.W.Frag} {a b t : Addr} {ns : List Int} {ts : List Str} {i : Nat} {σ : L2.St} {H : Hp} {Q : VK} (h0 : σ[0]? = some (some (.ref a))) (h1 : σ[1]? = some (some (.ref b))) (hi : σ[i]? = some (some (.ref t))) (S : Sp0 K a b ns H) (ht : Strs H t ts) (hz : ts.length ≤ 1000)
    (q : ∀ (p : Addr) (xs : List Str) (H' : Hp), Go b H H' → Strs H' p xs → LawEx ts 2 xs → Q (.ref p) H') : tCall (spEx K 3) [] C8.E0 (tCons (tVar 0) (tCons (tVar 1) (tCons (tVar i) (tCons (tC (.int 2)) tNil)))) σ H Q :=
  ⟨_, h0, _, h1, _, hi, a, b, t, ns, ts, 2, rfl, S, ht, hz, by decide, fun p xs H' g _ hs e => q p xs H' g hs e⟩
section
variable {P : Program} {w : World} {K : PySem.W.Frag} {mg : Str → Option Value} {base : Heap}
abbrev s_l_rule_rows : Stmt := topS 62
theorem sc_l_rule_rows : FnScope ["row", "spot", "many", "targets", "rows", "k", "name", "about", "kind", "forms"] ["row", "spot", "many"] (defScope s_l_rule_rows) := ⟨rfl, rfl, rfl, by decide +kernel, rfl, by decide +kernel, by decide +kernel⟩
theorem ok_rule_rows {f : Addr} {fd : FuncData} (F : Fun K "_law_rule_rows" "_law_rule_rows" s_l_rule_rows f fd) (T : Glo mg) (c_l_take : C8.Cal P w K mg base 2 "_law_take" (spTk K) []) (c_l_expression : C8.Cal P w K mg base 6 "_law_expression" (spEx K 3) []) :
    FnOk P w K mg base CX0 7 f fd ["row", "spot", "many"] (spRules K) := by
  refine F.ok sc_l_rule_rows (fun vs H Q E h => ?_) (fun cdv A outer s H vs Q E hr h => ?_)
  · obtain ⟨a, b, ns, k, rfl, _⟩ := h
    rfl
  · obtain ⟨a, b, ns, many, rfl, S, hm, kk⟩ := h
    refine ⟨_, (pss_cons (ps_set (i := 3) sc_l_rule_rows.nd rfl (.inl rfl) (pe_lst pa_nil))
      (pss_cons (ps_set (i := 4) sc_l_rule_rows.nd rfl (.inl rfl) (pe_lst pa_nil))
      (pss_cons (ps_for PassesOwn.never rfl (pi_range1 (by rfl) T.range (pa_cons (pv 2) pa_nil)) (pg_name (i := 5) sc_l_rule_rows.nd rfl (.inl rfl))
      (pss_cons (ps_set (i := 6) sc_l_rule_rows.nd rfl (.inl rfl) (pe_op op_add_str pe_str (pe_callTy call_str_int (by rfl) T.str (by decide +kernel) (pa_cons (pv 5) pa_nil))))
        (pss_cons (ps_expr (pe_bm PySem.F.plainAttrs_list PySem.F.slot_list_append PySem.F.type_list_append mt_append (pv 4) (pa_cons (pe_op op_add_str (pe_op op_add_str (pe_op op_add_str pe_str (pv 6)) pe_str) (pe_join pe_str (C8.pe_c c_l_expression hr (by omega) (by rfl) (pa_cons (pv 0) (pa_cons (pv 1) (pa_cons (pv 3) (pa_cons pe_int pa_nil))))))) pa_nil)))
        (pss_one (ps_expr (pe_bm PySem.F.plainAttrs_list PySem.F.slot_list_append PySem.F.type_list_append mt_append (pv 3) (pa_cons (pv 6) pa_nil)))))))
      (pss_cons (ps_for PassesOwn.never rfl (pi_range1 (by rfl) T.range (pa_cons (C8.pe_c c_l_take hr (by omega) (by rfl) (pa_cons (pv 0) (pa_cons (pv 1) (pa_cons pe_int pa_nil)))) pa_nil)) (pg_name (i := 5) sc_l_rule_rows.nd rfl (.inl rfl))
      (pss_cons (ps_set (i := 7) sc_l_rule_rows.nd rfl (.inl rfl) (pe_join pe_str (C8.pe_c c_l_expression hr (by omega) (by rfl) (pa_cons (pv 0) (pa_cons (pv 1) (pa_cons (pv 3) (pa_cons pe_int pa_nil)))))))
        (pss_cons (ps_set (i := 8) sc_l_rule_rows.nd rfl (.inl rfl) (C8.pe_c c_l_take hr (by omega) (by rfl) (pa_cons (pv 0) (pa_cons (pv 1) (pa_cons pe_int pa_nil)))))
        (pss_cons (ps_set (i := 9) sc_l_rule_rows.nd rfl (.inl rfl) (pe_lst (pa_cons (pe_op op_add_str (pe_op op_add_str pe_str (pv 7)) pe_str) (pa_cons (pe_op op_add_str (pe_op op_add_str pe_str (pv 7)) pe_str) (pa_cons (pe_op op_add_str (pe_op op_add_str pe_str (pv 7)) pe_str) pa_nil)))))
        (pss_one (ps_expr (pe_bm PySem.F.plainAttrs_list PySem.F.slot_list_append PySem.F.type_list_append mt_append (pv 4) (pa_cons (pe_op op_add_str (pe_op op_add_str pe_str (pe_callTy call_str_int (by rfl) T.str (by decide +kernel) (pa_cons (pv 5) pa_nil))) (pe_ix ix_list (pv 9) (pe_callB (call_max2 rfl) (by rfl) T.max (by decide +kernel) (pa_cons pe_int (pa_cons (pe_op op_sub (pv 8) pe_int) pa_nil))) (fun _ _ => rfl))) pa_nil))))))))
      (pss_one (ps_ret (pv 4))))))), ?_⟩
    refine ⟨(by show 0 ≤ sizeLine; decide), fun t ht => ⟨(by show 0 ≤ sizeLine; decide), fun p hp => ?_⟩⟩
    have rt : RowsAt b H 12 0 t [] (upd H t (.lst [])) := RowsAt.nil S.cell ht
    have hpt : p ≠ t := fun z => by
      rw [z, upd_same] at hp
      cases hp
    have hp0 : H p = none := by rw [upd_ne hpt] at hp; exact hp
    have rt1 := rt.step (rt.go.cell |> fun c => (Go.refl c).new (o := .lst []) hp)
    have rp : RowsAt b H 400 0 p [] (upd (upd H t (.lst [])) p (.lst [])) := ⟨rt1.go, hp0, upd_same, Nat.zero_le _, fun _ h => nomatch h⟩
    refine ⟨_, rfl, many, rfl, ?_, ?_, for_range (n := many) (fun j σ H1 => ∃ (ts xs : List Str) (k6 k7 : Option V), σ = [some (.ref a), some (.ref b), some (.int (many : Int)), some (.ref t), some (.ref p), k6, k7, none, none, none] ∧ RowsAt b H 12 j t ts H1 ∧ RowsAt b H 400 j p xs H1)
      ⟨[], [], none, none, rfl, rt1, rp⟩ ?_ ?_⟩
    · exact Int.le_trans (by decide) (Int.natCast_nonneg many)
    · exact Int.lt_of_le_of_lt (show (many : Int) ≤ 5 by omega) (by decide)
    · rintro j σ H1 hj ⟨ts, xs, k6, k7, rfl, r1, r2⟩
      have S1 := S.go r1.go
      have nm : Sg 3 ("t" ++ toString ((0 : Int) + (j : Int))) := by
        rw [Int.zero_add]
        exact (sg_of (m := 1) (by decide +kernel)).cat (sg_num (by omega))
      refine ⟨_, rfl, _, rfl, ?_, _, _, rfl, rfl, small_of (by have := nm.len; rw [len_cat] at this; omega), ?_⟩
      · rw [Int.zero_add]
        exact log_small (by omega)
      refine ⟨_, rfl, .inl ⟨rfl, _, SqL.of r2.at_⟩, ?_⟩
      refine ⟨_, rfl, _, _, rfl, rfl, (sg_of (m := 7) (by decide +kernel)).sz nm, _, _, rfl, rfl, ((sg_of (m := 7) (by decide +kernel)).cat nm).sz (sg_of (m := 3) (by decide +kernel)), ?_⟩
      have h1 := ((sg_of (m := 7) (x := "target ") (by decide +kernel)).cat nm).cat (sg_of (m := 3) (x := " = ") (by decide +kernel))
      refine about_ok (i := 3) rfl rfl rfl S1 r1.at_ (by have := r1.few; omega) r1.sg fun ab H2 g2 hab => ?_
      have r1' := r1.step g2
      have r2' := r2.step g2
      refine ⟨_, _, rfl, rfl, h1.sz hab, p, _, _, rfl, rfl, r2'.at_, r2'.room, ?_⟩
      have r3 := fun o => r1'.side (o := o) r2'.new (Ne.symm hpt) r2'.ne
      refine ⟨_, rfl, .inl ⟨rfl, _, SqL.of (r3 _).at_⟩, _, rfl, t, _, _, rfl, rfl, (r3 _).at_, r1'.room, ?_⟩
      exact ⟨_, _, _, _, rfl, (r3 _).app (nm.mono (by decide)), (r2'.app ((h1.cat hab).mono (by decide))).side r1'.new hpt r1'.ne⟩
    · rintro σ H1 ⟨ts, xs, k6, k7, rfl, r1, r2⟩
      have S1 := S.go r1.go
      refine ⟨_, rfl, _, rfl, a, b, ns, 4, rfl, S1, by decide, fun d H2 g2 h0 h1 => ?_⟩
      obtain ⟨d, rfl⟩ := Int.eq_ofNat_of_zero_le h0
      have hd : d < 4 := by omega
      refine ⟨d, rfl, ?_, ?_, for_range (n := d) (fun j σ H1 => ∃ (xs : List Str) (k6 k7 k8 k9 k10 : Option V), σ = [some (.ref a), some (.ref b), some (.int (many : Int)), some (.ref t), some (.ref p), k6, k7, k8, k9, k10] ∧ RowsAt b H 12 many t ts H1 ∧ RowsAt b H 400 (many + j) p xs H1)
        ⟨xs, _, _, _, _, _, rfl, r1.step g2, r2.step g2⟩ ?_ ?_⟩
      · exact Int.le_trans (by decide) (Int.natCast_nonneg d)
      · exact Int.lt_of_le_of_lt (show (d : Int) ≤ 4 by omega) (by decide)
      · rintro j σ H3 hj ⟨xs, k6, k7, k8, k9, k10, rfl, r1, r2⟩
        have S3 := S.go r1.go
        refine ⟨⟨_, rfl⟩, ?_⟩
        refine exc_ok (i := 3) rfl rfl rfl S3 r1.at_ (by have := r1.few; omega) fun q es H4 g4 hs he => ?_
        obtain ⟨hab, hsum⟩ := he.about r1.sg
        refine ⟨_, q, es, rfl, rfl, .inl (SqL.of hs), hsum, ?_⟩
        generalize Txt.join " " es = ab at hab ⊢
        have S4 := S3.go g4
        refine ⟨_, rfl, _, rfl, a, b, ns, 5, rfl, S4, by decide, fun kd H5 g5 k0 k1 => ?_⟩
        have r3 := (r1.step g4).step g5
        have r4 := (r2.step g4).step g5
        have a1 := hab
        have f1 := ((sg_of (m := 20) (x := " = not has ") (by decide +kernel)).cat hab).cat (sg_of (m := 8) (x := " lit zzz") (by decide +kernel))
        have f2 := ((sg_of (m := 20) (x := " = not same size ") (by decide +kernel)).cat hab).cat (sg_of (m := 6) (x := " lit 5") (by decide +kernel))
        have f3 := ((sg_of (m := 32) (x := " = if set mode lit ok not has ") (by decide +kernel)).cat hab).cat (sg_of (m := 6) (x := " lit Q") (by decide +kernel))
        refine ⟨_, rfl, _, _, rfl, rfl, (sg_of (m := 20) (by decide +kernel)).sz hab, _, _, rfl, rfl, ((sg_of (m := 20) (by decide +kernel)).cat hab).sz (sg_of (m := 8) (by decide +kernel)), ?_⟩
        refine ⟨_, rfl, _, _, rfl, rfl, (sg_of (m := 20) (by decide +kernel)).sz hab, _, _, rfl, rfl, ((sg_of (m := 20) (by decide +kernel)).cat hab).sz (sg_of (m := 6) (by decide +kernel)), ?_⟩
        refine ⟨_, rfl, _, _, rfl, rfl, (sg_of (m := 32) (by decide +kernel)).sz hab, _, _, rfl, rfl, ((sg_of (m := 32) (by decide +kernel)).cat hab).sz (sg_of (m := 6) (by decide +kernel)), ?_⟩
        refine ⟨(by show 3 ≤ sizeLine; decide), fun l hl => ?_⟩
        have r5 := fun o => r4.step (r4.go.cell |> fun c => (Go.refl c).new (o := o) hl)
        have n1 : Sg 8 ("test c" ++ toString ((0 : Int) + (j : Int))) := by
          rw [Int.zero_add]
          exact (sg_of (m := 6) (by decide +kernel)).cat (sg_num (by omega))
        refine ⟨_, rfl, .inl ⟨rfl, _, SqL.of (r5 _).at_⟩, _, rfl, _, rfl, ?_, _, _, rfl, rfl, small_of (by have := n1.len; rw [len_cat] at this; omega), ?_⟩
        · rw [Int.zero_add]
          exact log_small (by omega)
        refine ⟨_, rfl, _, rfl, _, _, rfl, rfl, _, _, rfl, ?_⟩
        have hix : ∃ x : Str, Sg 332 x ∧ atI [V.str (" = not has " ++ ab ++ " lit zzz"), V.str (" = not same size " ++ ab ++ " lit 5"), V.str (" = if set mode lit ok not has " ++ ab ++ " lit Q")] (if kd - 2 > 0 then kd - 2 else 0) = some (V.str x) := by
          rcases (show kd ≤ 2 ∨ kd = 3 ∨ kd = 4 by omega) with e | e | e
          · rw [if_neg (by omega)]
            exact ⟨_, f1.mono (by decide), rfl⟩
          · subst e
            exact ⟨_, f2.mono (by decide), rfl⟩
          · subst e
            exact ⟨_, f3.mono (by decide), rfl⟩
        obtain ⟨x, hx, ex⟩ := hix
        refine ⟨l, _, _, _, rfl, rfl, SqL.of upd_same, ex, _, _, rfl, rfl, n1.sz hx, p, _, _, rfl, rfl, (r5 _).at_, r4.room, ?_⟩
        exact ⟨_, _, _, _, _, _, rfl, (r3.step ((Go.refl r3.go.cell).new hl)).side r4.new (Ne.symm hpt) r4.ne, (r5 _).app ((n1.cat hx).mono (by decide))⟩
      · rintro σ H3 ⟨xs, k6, k7, k8, k9, k10, rfl, r1, r2⟩
        exact ⟨_, rfl, kk p xs H3 (r2.mono (by omega))⟩
end
end Kl

namespace Kl
open PySem L2 Kd
section
variable {P : Program} {w : World} {K : PySem.W.Frag} {mg : Str → Option Value} {base : Heap}
abbrev s_l_setting_rows : Stmt := topS 63
theorem sc_l_setting_rows : FnScope ["row", "spot", "rows", "k", "style", "key", "j"] ["row", "spot"] (defScope s_l_setting_rows) := ⟨rfl, rfl, rfl, by decide +kernel, rfl, by decide +kernel, by decide +kernel⟩
theorem rng_ok {n : Nat} (h : n < 1000) : -2 ^ 62 ≤ (n : Int) ∧ (n : Int) < 2 ^ 62 := ⟨Int.le_trans (by decide) (Int.natCast_nonneg n), Int.lt_of_lt_of_le (show (n : Int) < 1000 by omega) (by decide)⟩
theorem rng_of {i : Int} (h0 : 0 ≤ i) (h : i < 1000) : -2 ^ 62 ≤ i ∧ i < 2 ^ 62 := ⟨Int.le_trans (by decide) h0, Int.lt_of_lt_of_le h (by decide)⟩
theorem ok_setting_rows {f : Addr} {fd : FuncData} (F : Fun K "_law_setting_rows" "_law_setting_rows" s_l_setting_rows f fd) (T : Glo mg) (c_l_take : C8.Cal P w K mg base 2 "_law_take" (spTk K) []) :
    FnOk P w K mg base CX0 3 f fd ["row", "spot"] (spRows K 20 25) := by
  refine F.ok sc_l_setting_rows (fun vs H Q E h => ?_) (fun cdv A outer s H vs Q E hr h => ?_)
  · obtain ⟨a, b, ns, rfl, _⟩ := h
    rfl
  · obtain ⟨a, b, ns, rfl, S, kk⟩ := h
    refine ⟨_, (pss_cons (ps_set (i := 2) sc_l_setting_rows.nd rfl (.inl rfl) (pe_lst pa_nil))
      (pss_cons (ps_for PassesOwn.never rfl (pi_range1 (by rfl) T.range (pa_cons (C8.pe_c c_l_take hr (by omega) (by rfl) (pa_cons (pv 0) (pa_cons (pv 1) (pa_cons pe_int pa_nil)))) pa_nil)) (pg_name (i := 3) sc_l_setting_rows.nd rfl (.inr rfl))
      (pss_cons (ps_set (i := 4) sc_l_setting_rows.nd rfl (.inl rfl) (C8.pe_c c_l_take hr (by omega) (by rfl) (pa_cons (pv 0) (pa_cons (pv 1) (pa_cons pe_int pa_nil)))))
        (pss_cons (ps_set (i := 5) sc_l_setting_rows.nd rfl (.inr rfl) (pe_ix ix_list (pe_lst (pa_strs rfl)) (C8.pe_c c_l_take hr (by omega) (by rfl) (pa_cons (pv 0) (pa_cons (pv 1) (pa_cons pe_int pa_nil)))) (fun _ _ => rfl)))
        (pss_one (ps_if (pt_cmpR op_lt (pv 4) pe_int (nomark _))
        (pss_one (ps_expr (pe_bm PySem.F.plainAttrs_list PySem.F.slot_list_append PySem.F.type_list_append mt_append (pv 2) (pa_cons (pe_op op_add_str (pe_op op_add_str (pv 5) pe_str) (pe_join pe_str (pe_lc (own := [("j", 6)]) (g := gName 6) (tt := tYes) rfl sc_l_setting_rows.nd (pi_range1 (by rfl) T.range (pa_cons (pe_op op_add pe_int (C8.pe_c c_l_take hr (by omega) (by rfl) (pa_cons (pv 0) (pa_cons (pv 1) (pa_cons pe_int pa_nil))))) pa_nil)) (blkOk_by (N := ["row", "spot", "rows", "k", "style", "key", "j"]) (sc := defScope s_l_setting_rows) (by decide +kernel)) (fun _ _ _ _ _ => (pg_name (i := 6) sc_l_setting_rows.nd rfl (.inl rfl))) (fun _ _ _ _ _ => pts_nil) (fun _ _ _ _ _ => (pe_ix (r := rIxL K) ix_list (pe_lst (pa_strs rfl)) (C8.pe_c c_l_take hr (by omega) (by rfl) (pa_cons (pv 0) (pa_cons (pv 1) (pa_cons pe_int pa_nil)))) (fun _ _ => rfl)))))) pa_nil))))
        (pss_one (ps_if (pt_cmpR op_eq (pv 4) pe_int (nomark _))
          (pss_one (ps_expr (pe_bm PySem.F.plainAttrs_list PySem.F.slot_list_append PySem.F.type_list_append mt_append (pv 2) (pa_cons (pe_op op_add_str (pe_op op_add_str (pv 5) pe_str) (pe_ix ix_list (pe_lst (pa_strs rfl)) (C8.pe_c c_l_take hr (by omega) (by rfl) (pa_cons (pv 0) (pa_cons (pv 1) (pa_cons pe_int pa_nil)))) (fun _ _ => rfl))) pa_nil))))
          (pss_one (ps_if (pt_cmpR op_eq (pv 4) pe_int (nomark _))
            (pss_one (ps_expr (pe_bm PySem.F.plainAttrs_list PySem.F.slot_list_append PySem.F.type_list_append mt_append (pv 2) (pa_cons (pe_op op_add_str pe_str (pv 5)) pa_nil))))
            (pss_cons (ps_expr (pe_bm PySem.F.plainAttrs_list PySem.F.slot_list_append PySem.F.type_list_append mt_append (pv 2) (pa_cons (pe_op op_add_str pe_str (pe_ix ix_list (pe_lst (pa_strs rfl)) (C8.pe_c c_l_take hr (by omega) (by rfl) (pa_cons (pv 0) (pa_cons (pv 1) (pa_cons pe_int pa_nil)))) (fun _ _ => rfl))) pa_nil)))
              (pss_one (ps_set (i := 2) sc_l_setting_rows.nd rfl (.inl rfl) (pe_op op_cat (pe_op op_cat (pv 2) (pe_lc (own := [("j", 6)]) (g := gName 6) (tt := tYes) rfl sc_l_setting_rows.nd (pi_range1 (by rfl) T.range (pa_cons (C8.pe_c c_l_take hr (by omega) (by rfl) (pa_cons (pv 0) (pa_cons (pv 1) (pa_cons pe_int pa_nil)))) pa_nil)) (blkOk_by (N := ["row", "spot", "rows", "k", "style", "key", "j"]) (sc := defScope s_l_setting_rows) (by decide +kernel)) (fun _ _ _ _ _ => (pg_name (i := 6) sc_l_setting_rows.nd rfl (.inl rfl))) (fun _ _ _ _ _ => pts_nil) (fun _ _ _ _ _ => (pe_ix (r := rIxL K) ix_list (pe_lst (pa_cons (pe_op op_add_str (pe_op op_add_str (pv 5) pe_str) (pe_callTy call_str_int (by rfl) T.str (by decide +kernel) (pa_cons (pv 3) pa_nil))) (pa_cons (pe_op op_add_str (pv 5) pe_str) (pa_cons (pe_op op_add_str pe_str (pv 5)) (pa_cons pe_str (pa_cons pe_str pa_nil)))))) (C8.pe_c c_l_take hr (by omega) (by rfl) (pa_cons (pv 0) (pa_cons (pv 1) (pa_cons pe_int pa_nil)))) (fun _ _ => rfl))))) (pe_lst (pa_strs rfl)))))))))))))))
      (pss_one (ps_ret (pv 2))))), ?_⟩
    refine ⟨(by show 0 ≤ sizeLine; decide), fun p hp => ?_⟩
    have rp : RowsAt b H 20 0 p [] (upd H p (.lst [])) := RowsAt.nil S.cell hp
    refine ⟨_, rfl, _, rfl, a, b, ns, 6, rfl, S.go rp.go, by decide, fun d H2 g2 h0 h1 => ?_⟩
    obtain ⟨d, rfl⟩ := Int.eq_ofNat_of_zero_le h0
    refine ⟨d, rfl, (rng_ok (by omega)).1, (rng_ok (by omega)).2, for_range (n := d) (fun j σ H1 => ∃ (p : Addr) (xs : List Str) (k3 k4 k5 : Option V), σ = [some (.ref a), some (.ref b), some (.ref p), k3, k4, k5, none] ∧ RowsAt b H 20 (5 * j) p xs H1)
        ⟨p, [], _, _, _, rfl, rp.step g2⟩ ?_ ?_⟩
    · rintro j σ H3 hj ⟨p, xs, k3, k4, k5, rfl, r⟩
      refine ⟨_, rfl, _, rfl, a, b, ns, 7, rfl, S.go r.go, by decide, fun st H4 g4 s0 s1 => ?_⟩
      have r := r.step g4
      refine ⟨(by show 7 ≤ sizeLine; decide), fun l hl => ⟨_, rfl, _, rfl, a, b, ns, 7, rfl, S.go (r.go.new hl), by decide, fun ki H5 g5 k0 k1 => ?_⟩⟩
      obtain ⟨key, hk, ek⟩ := strs_at (xs := (["color", "mode", "sizes", "other", "when", "end", "drop"] : List Str)) k0 k1
      refine ⟨l, _, ki, _, rfl, rfl, SqL.of (strs_new r.go.cell hl g5), ek, ?_⟩
      have r : RowsAt b H 20 (5 * j) p xs H5 := (r.step ((Go.refl r.go.cell).new hl)).step g5
      have hk : Sg 5 key := sg_mem hk (by decide +kernel)
      have done : ∀ {x : Str} {k3 k4 k5 : Option V} {H' : Hp}, RowsAt b H 20 (5 * j) p xs H' → Sg 20 x → (∃ (p' : Addr) (xs' : List Str) (k3' k4' k5' : Option V), [some (V.ref a), some (V.ref b), some (V.ref p), k3, k4, k5, none] = [some (V.ref a), some (V.ref b), some (V.ref p'), k3', k4', k5', none] ∧ RowsAt b H 20 (5 * (j + 1)) p' xs' (upd H' p (.lst (xs.map V.str ++ [V.str x])))) :=
        fun r hx => ⟨p, _, _, _, _, rfl, (r.app hx).mono (by omega)⟩
      refine ⟨_, rfl, _, _, rfl, rfl, _, rfl, ite2 (fun _ => ?_) (fun _ => ?_)⟩
      · have q1 := hk.cat (sg_of (m := 3) (x := " = ") (by decide +kernel))
        refine ⟨_, rfl, .inl ⟨rfl, _, SqL.of r.at_⟩, _, rfl, _, _, rfl, rfl, hk.sz (sg_of (m := 3) (by decide +kernel)), ⟨_, rfl⟩, ?_⟩
        refine ⟨_, rfl, _, rfl, a, b, ns, 2, rfl, S.go r.go, by decide, fun n H6 g6 n0 n1 => ?_⟩
        obtain ⟨n, rfl⟩ := Int.eq_ofNat_of_zero_le n0
        have r := r.step g6
        refine ⟨_, _, rfl, rfl, _, rfl, (rng_of (by omega) (by omega)).1, (rng_of (by omega) (by omega)).2, fun D hD => lc_range (n := (1 + (n : Int)).toNat) (fun i H7 => ∃ ys : List Str, RowsAt b H6 3 i D ys H7) ⟨[], RowsAt.nil r.go.cell hD⟩ ?_ ?_⟩
        · rintro i H7 hi ⟨ys, r7⟩
          refine ⟨rfl, (by show 3 ≤ sizeLine; decide), fun l hl => ⟨_, rfl, _, rfl, a, b, ns, 3, rfl, (S.go r.go).go (r7.go.new hl), by decide, fun d H8 g8 d0 d1 => ?_⟩⟩
          obtain ⟨z, hz, ez⟩ := strs_at (xs := (["red", "on", "b2"] : List Str)) d0 d1
          have r8 := (r7.step ((Go.refl r7.go.cell).new hl)).step g8
          exact ⟨l, _, d, _, rfl, rfl, SqL.of (strs_new r7.go.cell hl g8), ez, _, r8.at_, r8.room, _, r8.app (sg_mem hz (by decide +kernel))⟩
        · rintro H7 ⟨ys, r7⟩
          obtain ⟨hs, hj⟩ := (r7.mono (k := 2) (by omega)).join (k := 1) (y := " ") (sg_of (by decide +kernel)) (by decide)
          have r := r.step r7.go
          exact ⟨_, D, ys, rfl, rfl, .inl (SqL.of r7.at_), hs, _, _, rfl, rfl, q1.sz hj, p, _, _, rfl, rfl, r.at_, r.room, done r ((q1.cat hj).mono (by decide))⟩
      refine ⟨_, rfl, rfl, _, rfl, ite2 (fun _ => ?_) (fun _ => ?_)⟩
      · have q1 := hk.cat (sg_of (m := 4) (x := " += ") (by decide +kernel))
        refine ⟨_, rfl, .inl ⟨rfl, _, SqL.of r.at_⟩, _, rfl, _, _, rfl, rfl, hk.sz (sg_of (m := 4) (by decide +kernel)), ?_⟩
        refine ⟨(by show 2 ≤ sizeLine; decide), fun l hl => ⟨_, rfl, _, rfl, a, b, ns, 2, rfl, S.go (r.go.new hl), by decide, fun d H8 g8 d0 d1 => ?_⟩⟩
        obtain ⟨z, hz, ez⟩ := strs_at (xs := (["blue", "off"] : List Str)) d0 d1
        have r8 := (r.step ((Go.refl r.go.cell).new hl)).step g8
        have hz : Sg 4 z := sg_mem hz (by decide +kernel)
        exact ⟨l, _, d, _, rfl, rfl, SqL.of (strs_new r.go.cell hl g8), ez, _, _, rfl, rfl, q1.sz hz, p, _, _, rfl, rfl, r8.at_, r8.room, done r8 ((q1.cat hz).mono (by decide))⟩
      refine ⟨_, rfl, rfl, _, rfl, ite2 (fun _ => ?_) (fun _ => ?_)⟩
      · have q1 := (sg_of (m := 5) (x := "drop ") (by decide +kernel)).cat hk
        exact ⟨_, rfl, .inl ⟨rfl, _, SqL.of r.at_⟩, _, rfl, _, _, rfl, rfl, (sg_of (m := 5) (by decide +kernel)).sz hk, p, _, _, rfl, rfl, r.at_, r.room, done r (q1.mono (by decide))⟩
      refine ⟨_, rfl, .inl ⟨rfl, _, SqL.of r.at_⟩, ?_⟩
      refine ⟨(by show 3 ≤ sizeLine; decide), fun l hl => ⟨_, rfl, _, rfl, a, b, ns, 3, rfl, S.go (r.go.new hl), by decide, fun d H8 g8 d0 d1 => ?_⟩⟩
      obtain ⟨z, hz, ez⟩ := strs_at (xs := (["zone is eu", "zone is us", "size is big"] : List Str)) d0 d1
      have r8 := (r.step ((Go.refl r.go.cell).new hl)).step g8
      have hz : Sg 11 z := sg_mem hz (by decide +kernel)
      refine ⟨l, _, d, _, rfl, rfl, SqL.of (strs_new r.go.cell hl g8), ez, _, _, rfl, rfl, (sg_of (m := 5) (by decide +kernel)).sz hz, p, _, _, rfl, rfl, r8.at_, r8.room, ?_⟩
      have r9 := r8.app (((sg_of (m := 5) (x := "when ") (by decide +kernel)).cat hz).mono (show 16 ≤ 20 by decide))
      refine ⟨_, rfl, _, rfl, _, rfl, a, b, ns, 4, rfl, S.go r9.go, by decide, fun n H10 g10 n0 n1 => ?_⟩
      have r10 := r9.step g10
      have kn : Sg 2 (toString ((0 : Int) + (j : Int))) := by
        rw [Int.zero_add]
        exact sg_num (by omega)
      have t1 := (hk.cat (sg_of (m := 4) (x := " = w") (by decide +kernel))).cat kn
      have t2 := hk.cat (sg_of (m := 5) (x := " += v") (by decide +kernel))
      have t3 := (sg_of (m := 5) (x := "drop ") (by decide +kernel)).cat hk
      refine ⟨_, rfl, (rng_of (by omega) (by omega)).1, (rng_of (by omega) (by omega)).2, fun D hD => lc_range (n := n.toNat) (fun i H7 => ∃ ys : List Str, RowsAt b H10 20 i D ys H7) ⟨[], RowsAt.nil r10.go.cell hD⟩ ?_ ?_⟩
      · rintro i H7 hi ⟨ys, r7⟩
        refine ⟨rfl, _, rfl, _, _, rfl, rfl, hk.sz (sg_of (m := 4) (by decide +kernel)), _, rfl, _, rfl, ?_, _, _, rfl, rfl, (hk.cat (sg_of (m := 4) (by decide +kernel))).sz kn, ?_⟩
        · rw [Int.zero_add]
          exact log_small (by omega)
        refine ⟨_, rfl, _, _, rfl, rfl, hk.sz (sg_of (m := 5) (by decide +kernel)), _, rfl, _, _, rfl, rfl, (sg_of (m := 5) (by decide +kernel)).sz hk, (by show 5 ≤ sizeLine; decide), fun l hl => ⟨_, rfl, _, rfl, a, b, ns, 5, rfl, (S.go r10.go).go (r7.go.new hl), by decide, fun d H8 g8 d0 d1 => ?_⟩⟩
        obtain ⟨z, hz, ez⟩ := strs_at (xs := [key ++ " = w" ++ toString ((0 : Int) + (j : Int)), key ++ " += v", "drop " ++ key, "", "mode = on w"]) d0 d1
        have hz : Sg 20 z := by
          simp only [List.mem_cons, List.not_mem_nil, or_false] at hz
          rcases hz with rfl | rfl | rfl | rfl | rfl
          · exact t1.mono (by decide)
          · exact t2.mono (by decide)
          · exact t3.mono (by decide)
          · exact sg_of (by decide +kernel)
          · exact sg_of (by decide +kernel)
        have r8 := (r7.step ((Go.refl r7.go.cell).new hl)).step g8
        exact ⟨l, _, d, _, rfl, rfl, SqL.of (strs_new (m := [key ++ " = w" ++ toString ((0 : Int) + (j : Int)), key ++ " += v", "drop " ++ key, "", "mode = on w"]) r7.go.cell hl g8), ez, _, r8.at_, r8.room, _, r8.app hz⟩
      · rintro H7 ⟨ys, r7⟩
        have r11 := r10.step r7.go
        have hy : ys.length ≤ 3 := Nat.le_trans r7.few (by omega)
        refine ⟨_, D, _, _, rfl, rfl, r11.at_, r7.at_, r11.cat_sz (k := 3) hy, fun p2 hp2 => ?_⟩
        have r12 := r11.cat (k := 3) hy r7.sg hp2
        refine ⟨(by show 1 ≤ sizeLine; decide), fun l hl => ?_⟩
        have r13 := r12.step ((Go.refl r12.go.cell).new (o := .lst ((["end"] : List Str).map V.str)) hl)
        refine ⟨p2, l, _, _, rfl, rfl, r13.at_, upd_same, r13.cat_sz (ys := (["end"] : List Str)) (k := 1) (by decide), fun p3 hp3 => ?_⟩
        exact ⟨p3, _, _, _, _, rfl, (r13.cat (ys := (["end"] : List Str)) (k := 1) (by decide) (fun y hy => by rw [List.mem_singleton.mp hy]; exact sg_of (by decide +kernel)) hp3).mono (by omega)⟩
    · rintro σ H3 ⟨p, xs, k3, k4, k5, rfl, r⟩
      exact ⟨_, rfl, kk p xs H3 (r.mono (by omega))⟩
end
end Kl

namespace Kl
open PySem L2 Kd
/-! a file's content: rows, each with its line end -/
def ctc (c : Nat) : Bool := c == 10 || okc c
structure Ct (m : Nat) (x : Str) : Prop where
  len : x.length ≤ m
  all : ∀ c ∈ x.cps.toList, ctc c = true
def contentOf (xs : List Str) : Str := Txt.join "" (xs.map (· ++ "\n"))
theorem Sg.ct {m : Nat} {x : Str} (h : Sg m x) : Ct m x := ⟨h.len, fun c hc => by unfold ctc; rw [h.all c hc, Bool.or_true]⟩
theorem Ct.mono {m n : Nat} {x : Str} (a : Ct m x) (h : m ≤ n) : Ct n x := ⟨Nat.le_trans a.len h, a.all⟩
theorem Ct.cat {m n : Nat} {x y : Str} (a : Ct m x) (b : Ct n y) : Ct (m + n) (x ++ y) := by
  refine ⟨?_, fun c h => ?_⟩
  · have := a.len
    have := b.len
    rw [len_cat]
    omega
  · rw [cps_cat, List.mem_append] at h
    rcases h with h | h
    · exact a.all c h
    · exact b.all c h
def ctB (m : Nat) (x : Str) : Bool := decide (x.length ≤ m) && x.cps.toList.all ctc
theorem ct_of {m : Nat} {x : Str} (h : ctB m x = true) : Ct m x := by
  unfold ctB at h
  rw [Bool.and_eq_true, List.all_eq_true] at h
  exact ⟨of_decide_eq_true h.1, h.2⟩
theorem ct_mem {m : Nat} {x : Str} {l : List Str} (hx : x ∈ l) (h : (l.all (ctB m)) = true) : Ct m x := ct_of (List.all_eq_true.mp h x hx)
theorem join_nil_cons (x : Str) (r : List Str) : (Str.join "" (x :: r)).cps.toList = x.cps.toList ++ (Str.join "" r).cps.toList := by
  cases r with
  | nil =>
    show x.cps.toList = x.cps.toList ++ []
    rw [List.append_nil]
  | cons z r =>
    show (x ++ "" ++ Str.join "" (z :: r)).cps.toList = _
    rw [cps_cat, cps_cat, show ((Str.ofString "") : Str).cps.toList = [] by decide +kernel, List.append_nil]
theorem content_nil : (contentOf []).cps.toList = [] := by
  unfold contentOf
  rw [TL.join_eq]
  rfl
theorem content_cons (x : Str) (r : List Str) : (contentOf (x :: r)).cps.toList = x.cps.toList ++ 10 :: (contentOf r).cps.toList := by
  unfold contentOf
  rw [TL.join_eq, TL.join_eq, List.map_cons, join_nil_cons, cps_cat, List.append_assoc]
  rfl
theorem content_len : ∀ xs : List Str, (contentOf xs).length = (xs.map (fun x => x.length + 1)).sum
  | [] => by
    rw [← len_tl, content_nil]
    rfl
  | x :: r => by
    have ih := content_len r
    rw [← len_tl] at ih
    rw [← len_tl, content_cons, List.length_append, List.length_cons, ih, len_tl, List.map_cons, List.sum_cons]
    omega
theorem content_all {m : Nat} : ∀ {xs : List Str}, (∀ x ∈ xs, Sg m x) → ∀ c ∈ (contentOf xs).cps.toList, ctc c = true
  | [], _, c, h => by
    rw [content_nil] at h
    cases h
  | x :: r, hs, c, h => by
    rw [content_cons, List.mem_append, List.mem_cons] at h
    rcases h with h | h | h
    · exact (hs x (List.mem_cons_self ..)).ct.all c h
    · subst h
      rfl
    · exact content_all (fun z hz => hs z (List.mem_cons_of_mem _ hz)) c h
theorem content_ct {m n k : Nat} {xs : List Str} (hl : xs.length ≤ n) (hs : ∀ x ∈ xs, Sg m x) (hk : n * (m + 1) ≤ k) : Ct k (contentOf xs) := by
  refine ⟨?_, content_all hs⟩
  rw [content_len]
  have : (xs.map (fun x => x.length + 1)).sum ≤ xs.length * (m + 1) := by
    clear hl hk
    induction xs with
    | nil => exact Nat.zero_le _
    | cons x r ih =>
      have a := ih fun z hz => hs z (List.mem_cons_of_mem _ hz)
      have b := (hs x (List.mem_cons_self ..)).len
      rw [List.map_cons, List.sum_cons, List.length_cons, Nat.add_mul, Nat.one_mul]
      omega
  exact Nat.le_trans this (Nat.le_trans (Nat.mul_le_mul_right _ hl) hk)
theorem sum_cut (f : Str → Nat) : ∀ (xs : List Str) (i : Nat), ((xs.take i).map f).sum + ((xs.drop i).map f).sum = (xs.map f).sum
  | [], i => by simp
  | x :: r, 0 => by simp
  | x :: r, i + 1 => by
    have := sum_cut f r i
    simp only [List.take_succ_cons, List.drop_succ_cons, List.map_cons, List.sum_cons]
    omega
theorem content_take (xs : List Str) (i : Nat) : (contentOf (xs.take i)).length ≤ (contentOf xs).length := by
  rw [content_len, content_len]
  have := sum_cut (fun x => x.length + 1) xs i
  omega
theorem content_drop (xs : List Str) (i : Nat) : (contentOf (xs.drop i)).length ≤ (contentOf xs).length := by
  rw [content_len, content_len]
  have := sum_cut (fun x => x.length + 1) xs i
  omega
theorem Go.same {b : Addr} {H H' : Hp} (c : ∃ i : Int, 0 ≤ i ∧ H b = some (.lst [.int i])) (s : Same H H') : Go b H H' := by
  obtain ⟨i, hi, q⟩ := c
  exact ⟨fun c o _ e => s c o e, i, hi, s b _ q⟩
def spContent (K : PySem.W.Frag) : Sp := fun vs H Q _ => ∃ (p : Addr) (xs : List Str), vs = [.ref p] ∧ Strs H p xs ∧ xs.length ≤ 1000 ∧ (∀ x ∈ xs, Sg 400 x) ∧ ∀ H' : Hp, Same H H' → Q (.str (contentOf xs)) H'
section
variable {P : Program} {w : World} {K : PySem.W.Frag} {mg : Str → Option Value} {base : Heap}
abbrev s_l_content : Stmt := topS 64
theorem sc_l_content : FnScope ["rows", "one"] ["rows"] (defScope s_l_content) := ⟨rfl, rfl, rfl, by decide +kernel, rfl, by decide +kernel, by decide +kernel⟩
theorem ok_content {f : Addr} {fd : FuncData} (F : Fun K "_law_content" "_law_content" s_l_content f fd) : FnOk P w K mg base CX0 1 f fd ["rows"] (spContent K) := by
  refine F.ok sc_l_content (fun vs H Q E h => ?_) (fun cdv A outer s H vs Q E hr h => ?_)
  · obtain ⟨p, xs, rfl, _⟩ := h
    rfl
  · obtain ⟨p, xs, rfl, hp, hl, hs, k⟩ := h
    refine ⟨_, (pss_one (ps_ret (pe_join pe_str (pe_lc (own := [("one", 1)]) (g := gName 1) (tt := tYes) rfl sc_l_content.nd (pi_list (pv 0)) (blkOk_by (N := ["rows", "one"]) (sc := defScope s_l_content) (by decide +kernel)) (fun _ _ _ _ _ => (pg_name (i := 1) sc_l_content.nd rfl (.inl rfl))) (fun _ _ _ _ _ => pts_nil) (fun _ _ _ _ _ => (pe_op op_add_str (pv 1) pe_str)))))), ?_⟩
    refine ⟨⟨_, rfl⟩, _, rfl, p, rfl, ⟨_, SqL.of hp⟩, fun D hD => lc_list (K := K) (xs := xs.map V.str) (fun i H1 => Same H H1 ∧ H1 D = some (.lst (((xs.map (· ++ ("\n" : Str))).take i).map V.str))) ⟨Same.new hD, ?_⟩ (fun i H1 _ q => SqL.of (q.1 _ _ hp)) ?_ ?_⟩
    · rw [upd_same]
      rfl
    · rintro i x H1 hx ⟨s1, e1⟩
      rw [List.getElem?_map] at hx
      obtain ⟨y, hy, rfl⟩ := Option.map_eq_some_iff.mp hx
      have hi : i < xs.length := (List.getElem?_eq_some_iff.mp hy).1
      have sy := hs y (List.mem_of_getElem? hy)
      refine ⟨rfl, _, rfl, _, _, rfl, rfl, small_of (by have := sy.len; have : ("\n" : Str).length = 1 := (by decide +kernel); omega), _, e1, ?_, Same.mut s1 hD, ?_⟩
      · rw [List.length_map, List.length_take, List.length_map]
        exact small_lt (by omega)
      · rw [upd_same, List.take_add_one, List.getElem?_map, hy, List.map_append]
        rfl
    · rintro H1 ⟨s1, e1⟩
      rw [List.length_map] at e1
      have e2 : (xs.map (· ++ ("\n" : Str))).take xs.length = xs.map (· ++ ("\n" : Str)) := List.take_of_length_le (by rw [List.length_map]; exact Nat.le_refl _)
      rw [e2] at e1
      refine ⟨_, D, _, rfl, rfl, .inl (SqL.of e1), ?_, k H1 s1⟩
      have h1 := sum_lens (m := 401) (xs := xs.map (· ++ ("\n" : Str))) fun x hx => by
        obtain ⟨y, hy, rfl⟩ := List.mem_map.mp hx
        have := (hs y hy).len
        rw [len_cat]
        have : ("\n" : Str).length = 1 := by decide +kernel
        omega
      rw [List.length_map] at h1 ⊢
      have : ("" : Str).length = 0 := by decide +kernel
      rw [this]
      omega
end
end Kl

namespace Kl
open PySem L2 Kd
theorem cut_strs (xs : List Str) (lo hi : Option Int) : ∃ ms : List Str, cutV (xs.map V.str) lo hi = ms.map V.str ∧ ms.length ≤ xs.length ∧ ∀ y ∈ ms, y ∈ xs := by
  have e := cutV_length (xs.map V.str) lo hi
  unfold cutV at e ⊢
  rw [← List.map_drop, ← List.map_take] at e ⊢
  exact ⟨_, rfl, by simpa using e, fun y hy => List.mem_of_mem_drop (List.mem_of_mem_take hy)⟩
section
variable {P : Program} {w : World} {K : PySem.W.Frag} {mg : Str → Option Value} {base : Heap}
abbrev s_l_place_rows : Stmt := topS 65
theorem sc_l_place_rows : FnScope ["row", "spot", "rows", "k"] ["row", "spot"] (defScope s_l_place_rows) := ⟨rfl, rfl, rfl, by decide +kernel, rfl, by decide +kernel, by decide +kernel⟩
theorem ok_place_rows {f : Addr} {fd : FuncData} (F : Fun K "_law_place_rows" "_law_place_rows" s_l_place_rows f fd) (T : Glo mg) (c_l_take : C8.Cal P w K mg base 2 "_law_take" (spTk K) []) :
    FnOk P w K mg base CX0 3 f fd ["row", "spot"] (spRows K 28 25) := by
  refine F.ok sc_l_place_rows (fun vs H Q E h => ?_) (fun cdv A outer s H vs Q E hr h => ?_)
  · obtain ⟨a, b, ns, rfl, _⟩ := h
    rfl
  · obtain ⟨a, b, ns, rfl, S, kk⟩ := h
    refine ⟨_, (pss_cons (ps_set (i := 2) sc_l_place_rows.nd rfl (.inl rfl) (pe_lst pa_nil))
      (pss_cons (ps_for PassesOwn.never rfl (pi_range1 (by rfl) T.range (pa_cons (C8.pe_c c_l_take hr (by omega) (by rfl) (pa_cons (pv 0) (pa_cons (pv 1) (pa_cons (pe_ix ix_list (pe_lst (pa_cons pe_int (pa_cons pe_int (pa_cons pe_int (pa_cons pe_int pa_nil))))) (C8.pe_c c_l_take hr (by omega) (by rfl) (pa_cons (pv 0) (pa_cons (pv 1) (pa_cons pe_int pa_nil)))) (fun _ _ => rfl)) pa_nil)))) pa_nil)) (pg_name (i := 3) sc_l_place_rows.nd rfl (.inl rfl))
      (pss_one (ps_expr (pe_bm PySem.F.plainAttrs_list PySem.F.slot_list_append PySem.F.type_list_append mt_append (pv 2) (pa_cons (pe_op op_add_str (pe_op op_add_str (pe_op op_add_str pe_str (pe_callTy call_str_int (by rfl) T.str (by decide +kernel) (pa_cons (pv 3) pa_nil))) (pe_ix ix_list (pe_lst (pa_strs rfl)) (C8.pe_c c_l_take hr (by omega) (by rfl) (pa_cons (pv 0) (pa_cons (pv 1) (pa_cons pe_int pa_nil)))) (fun _ _ => rfl))) (pe_ix ix_list (pe_lst (pa_strs rfl)) (C8.pe_c c_l_take hr (by omega) (by rfl) (pa_cons (pv 0) (pa_cons (pv 1) (pa_cons pe_int pa_nil)))) (fun _ _ => rfl))) pa_nil)))))
      (pss_one (ps_ret (pe_ifExp (pt_cmpR op_gt (C8.pe_c c_l_take hr (by omega) (by rfl) (pa_cons (pv 0) (pa_cons (pv 1) (pa_cons pe_int pa_nil)))) pe_int (nomark _)) (pv 2) (pe_op op_cat (pe_op op_cat (pe_slice sl_list (pv 2) po_none (po_some pe_int)) (pe_lst (pa_strs rfl))) (pe_slice sl_list (pv 2) (po_some pe_int) po_none))))))), ?_⟩
    refine ⟨(by show 0 ≤ sizeLine; decide), fun p hp => ?_⟩
    have rp : RowsAt b H 28 0 p [] (upd H p (.lst [])) := RowsAt.nil S.cell hp
    refine ⟨_, rfl, _, rfl, (by show 4 ≤ sizeLine; decide), fun l hl => ⟨_, rfl, _, rfl, a, b, ns, 4, rfl, S.go (rp.go.new hl), by decide, fun d H2 g2 h0 h1 => ?_⟩⟩
    have hd : ∃ m : Int, 0 < m ∧ m ≤ 13 ∧ atI [V.int 5, V.int 5, V.int 5, V.int 13] d = some (.int m) := by
      rcases (show d = 0 ∨ d = 1 ∨ d = 2 ∨ d = 3 by omega) with rfl | rfl | rfl | rfl
      · exact ⟨5, by decide, by decide, rfl⟩
      · exact ⟨5, by decide, by decide, rfl⟩
      · exact ⟨5, by decide, by decide, rfl⟩
      · exact ⟨13, by decide, by decide, rfl⟩
    obtain ⟨m, m0, m1, em⟩ := hd
    have gl := (Go.refl rp.go.cell).new (o := .lst [.int 5, .int 5, .int 5, .int 13]) hl
    have r2 := (rp.step gl).step g2
    have hl2 : H2 l = some (.lst [.int 5, .int 5, .int 5, .int 13]) := g2.keep _ _ (fun z => by
      obtain ⟨i, _, q⟩ := rp.go.cell
      rw [z, q] at hl
      cases hl) upd_same
    refine ⟨l, _, d, _, rfl, rfl, SqL.of hl2, em, a, b, ns, m, rfl, S.go r2.go, m0, fun n H3 g3 n0 n1 => ?_⟩
    have r3 := r2.step g3
    refine ⟨_, rfl, (rng_of (by omega) (by omega)).1, (rng_of (by omega) (by omega)).2, for_range (n := n.toNat) (fun j σ H1 => ∃ (xs : List Str) (k3 : Option V), σ = [some (.ref a), some (.ref b), some (.ref p), k3] ∧ RowsAt b H 28 j p xs H1)
        ⟨[], _, rfl, r3⟩ ?_ ?_⟩
    · rintro j σ H3 hj ⟨xs, k3, rfl, r⟩
      have kn : Sg 2 (toString ((0 : Int) + (j : Int))) := by
        rw [Int.zero_add]
        exact sg_num (by omega)
      refine ⟨_, rfl, .inl ⟨rfl, _, SqL.of r.at_⟩, _, rfl, _, rfl, ?_, _, _, rfl, rfl, (sg_of (m := 7) (by decide +kernel)).sz kn, ?_⟩
      · rw [Int.zero_add]
        exact log_small (by omega)
      have q1 := (sg_of (m := 7) (x := "place p") (by decide +kernel)).cat kn
      refine ⟨(by show 4 ≤ sizeLine; decide), fun l hl => ⟨_, rfl, _, rfl, a, b, ns, 4, rfl, S.go (r.go.new hl), by decide, fun d H8 g8 d0 d1 => ?_⟩⟩
      obtain ⟨z, hz, ez⟩ := strs_at (xs := ([" 1", " 2", " 3", " 9"] : List Str)) d0 d1
      have r8 := (r.step ((Go.refl r.go.cell).new hl)).step g8
      have hz : Sg 2 z := sg_mem hz (by decide +kernel)
      refine ⟨l, _, d, _, rfl, rfl, SqL.of (strs_new r.go.cell hl g8), ez, _, _, rfl, rfl, q1.sz hz, ?_⟩
      refine ⟨(by show 4 ≤ sizeLine; decide), fun l hl => ⟨_, rfl, _, rfl, a, b, ns, 4, rfl, S.go (r8.go.new hl), by decide, fun d H9 g9 d0 d1 => ?_⟩⟩
      obtain ⟨y, hy, ey⟩ := strs_at (xs := (["", " zone=eu", " zone=us", " size=big zone=eu"] : List Str)) d0 d1
      have r9 := (r8.step ((Go.refl r8.go.cell).new hl)).step g9
      have hy : Sg 17 y := sg_mem hy (by decide +kernel)
      exact ⟨l, _, d, _, rfl, rfl, SqL.of (strs_new r8.go.cell hl g9), ey, _, _, rfl, rfl, (q1.cat hz).sz hy, p, _, _, rfl, rfl, r9.at_, r9.room, _, _, rfl, r9.app (((q1.cat hz).cat hy).mono (by decide))⟩
    · rintro σ H3 ⟨xs, k3, rfl, r⟩
      refine ⟨_, rfl, _, rfl, a, b, ns, 5, rfl, S.go r.go, by decide, fun z H4 g4 _ _ => ?_⟩
      have r := r.step g4
      refine ⟨_, _, rfl, rfl, _, rfl, ite2 (fun _ => ?_) (fun _ => ?_)⟩
      · exact ⟨_, rfl, kk p xs H4 (r.mono (by omega))⟩
      · refine ⟨_, rfl, _, rfl, p, _, rfl, SqL.of r.at_, fun q1 hq1 => ?_⟩
        obtain ⟨m1, e1, l1, s1⟩ := cut_strs xs none (some 1)
        rw [e1]
        have g5 := (Go.refl r.go.cell).new (o := .lst (m1.map V.str)) hq1
        have r1 : RowsAt b H 28 12 q1 m1 (upd H4 q1 (.lst (m1.map V.str))) := ⟨r.go.trans g5, r.go.free hq1, upd_same, Nat.le_trans l1 (Nat.le_trans r.few (by omega)), fun y hy => r.sg y (s1 y hy)⟩
        have r2 := r.step g5
        refine ⟨(by show 1 ≤ sizeLine; decide), fun q2 hq2 => ?_⟩
        have g6 := (Go.refl r2.go.cell).new (o := .lst (([""] : List Str).map V.str)) hq2
        have r3 := r1.step g6
        have r4 := r2.step g6
        refine ⟨q1, q2, _, _, rfl, rfl, r3.at_, upd_same, r3.cat_sz (ys := ([""] : List Str)) (k := 1) (by decide), fun q3 hq3 => ?_⟩
        have r5 := r3.cat (ys := ([""] : List Str)) (k := 1) (by decide) (fun y hy => by rw [List.mem_singleton.mp hy]; exact sg_of (by decide +kernel)) hq3
        have r6 := r4.step ((Go.refl r4.go.cell).new (o := .lst (m1.map V.str ++ ([""] : List Str).map V.str)) hq3)
        refine ⟨_, rfl, _, rfl, p, _, rfl, SqL.of r6.at_, fun q4 hq4 => ?_⟩
        obtain ⟨m2, e2, l2, s2⟩ := cut_strs xs (some 1) none
        rw [e2]
        have r7 := r5.step ((Go.refl r5.go.cell).new (o := .lst (m2.map V.str)) hq4)
        have hm2 : m2.length ≤ 12 := Nat.le_trans l2 (Nat.le_trans r.few (by omega))
        refine ⟨q3, q4, _, _, rfl, rfl, r7.at_, upd_same, r7.cat_sz (ys := m2) (k := 12) hm2, fun q5 hq5 => ?_⟩
        exact kk q5 _ _ ((r7.cat (ys := m2) (k := 12) hm2 (fun y hy => r.sg y (s2 y hy)) hq5).mono (by omega))
abbrev s_l_own_rows : Stmt := topS 66
theorem sc_l_own_rows : FnScope ["row", "spot", "rows", "k", "about"] ["row", "spot"] (defScope s_l_own_rows) := ⟨rfl, rfl, rfl, by decide +kernel, rfl, by decide +kernel, by decide +kernel⟩
theorem ok_own_rows {f : Addr} {fd : FuncData} (F : Fun K "_law_own_rows" "_law_own_rows" s_l_own_rows f fd) (T : Glo mg) (c_l_take : C8.Cal P w K mg base 2 "_law_take" (spTk K) []) :
    FnOk P w K mg base CX0 3 f fd ["row", "spot"] (spRows K 40 7) := by
  refine F.ok sc_l_own_rows (fun vs H Q E h => ?_) (fun cdv A outer s H vs Q E hr h => ?_)
  · obtain ⟨a, b, ns, rfl, _⟩ := h
    rfl
  · obtain ⟨a, b, ns, rfl, S, kk⟩ := h
    refine ⟨_, (pss_cons (ps_set (i := 2) sc_l_own_rows.nd rfl (.inl rfl) (pe_lst pa_nil))
      (pss_cons (ps_for PassesOwn.never rfl (pi_range1 (by rfl) T.range (pa_cons (C8.pe_c c_l_take hr (by omega) (by rfl) (pa_cons (pv 0) (pa_cons (pv 1) (pa_cons pe_int pa_nil)))) pa_nil)) (pg_name (i := 3) sc_l_own_rows.nd rfl (.inl rfl))
      (pss_cons (ps_set (i := 4) sc_l_own_rows.nd rfl (.inl rfl) (pe_ix ix_list (pe_lst (pa_strs rfl)) (C8.pe_c c_l_take hr (by omega) (by rfl) (pa_cons (pv 0) (pa_cons (pv 1) (pa_cons pe_int pa_nil)))) (fun _ _ => rfl)))
        (pss_one (ps_expr (pe_bm PySem.F.plainAttrs_list PySem.F.slot_list_append PySem.F.type_list_append mt_append (pv 2) (pa_cons (pe_op op_add_str (pe_op op_add_str (pe_op op_add_str pe_str (pv 4)) (pe_ix ix_list (pe_lst (pa_strs rfl)) (C8.pe_c c_l_take hr (by omega) (by rfl) (pa_cons (pv 0) (pa_cons (pv 1) (pa_cons pe_int pa_nil)))) (fun _ _ => rfl))) (pe_ix ix_list (pe_lst (pa_strs rfl)) (C8.pe_c c_l_take hr (by omega) (by rfl) (pa_cons (pv 0) (pa_cons (pv 1) (pa_cons pe_int pa_nil)))) (fun _ _ => rfl))) pa_nil))))))
      (pss_one (ps_ret (pe_ifExp (pt_cmpR op_gt (C8.pe_c c_l_take hr (by omega) (by rfl) (pa_cons (pv 0) (pa_cons (pv 1) (pa_cons pe_int pa_nil)))) pe_int (nomark _)) (pv 2) (pe_op op_cat (pe_op op_cat (pe_slice sl_list (pv 2) po_none (po_some pe_int)) (pe_lst (pa_strs rfl))) (pe_slice sl_list (pv 2) (po_some pe_int) po_none))))))), ?_⟩
    refine ⟨(by show 0 ≤ sizeLine; decide), fun p hp => ?_⟩
    have rp : RowsAt b H 40 0 p [] (upd H p (.lst [])) := RowsAt.nil S.cell hp
    refine ⟨_, rfl, _, rfl, a, b, ns, 4, rfl, S.go rp.go, by decide, fun n H3 g3 n0 n1 => ?_⟩
    have r3 := rp.step g3
    refine ⟨_, rfl, (rng_of (by omega) (by omega)).1, (rng_of (by omega) (by omega)).2, for_range (n := n.toNat) (fun j σ H1 => ∃ (xs : List Str) (k3 k4 : Option V), σ = [some (.ref a), some (.ref b), some (.ref p), k3, k4] ∧ RowsAt b H 40 j p xs H1)
        ⟨[], _, _, rfl, r3⟩ ?_ ?_⟩
    · rintro j σ H3 hj ⟨xs, k3, k4, rfl, r⟩
      refine ⟨(by show 6 ≤ sizeLine; decide), fun l hl => ⟨_, rfl, _, rfl, a, b, ns, 6, rfl, S.go (r.go.new hl), by decide, fun d H7 g7 d0 d1 => ?_⟩⟩
      obtain ⟨x, hx, ex⟩ := strs_at (xs := (["app", "app/main", "set", "all/", "build", "own"] : List Str)) d0 d1
      have r7 := (r.step ((Go.refl r.go.cell).new hl)).step g7
      have hx : Sg 8 x := sg_mem hx (by decide +kernel)
      refine ⟨l, _, d, _, rfl, rfl, SqL.of (strs_new r.go.cell hl g7), ex, ?_⟩
      refine ⟨_, rfl, .inl ⟨rfl, _, SqL.of r7.at_⟩, _, rfl, _, _, rfl, rfl, (sg_of (m := 4) (by decide +kernel)).sz hx, ?_⟩
      have q1 := (sg_of (m := 4) (x := "own ") (by decide +kernel)).cat hx
      refine ⟨(by show 6 ≤ sizeLine; decide), fun l hl => ⟨_, rfl, _, rfl, a, b, ns, 6, rfl, S.go (r7.go.new hl), by decide, fun d H8 g8 d0 d1 => ?_⟩⟩
      obtain ⟨z, hz, ez⟩ := strs_at (xs := ([" 0 ", " 0 ", " 1 ", " 1 ", " 2 ", " 3 "] : List Str)) d0 d1
      have r8 := (r7.step ((Go.refl r7.go.cell).new hl)).step g8
      have hz : Sg 3 z := sg_mem hz (by decide +kernel)
      refine ⟨l, _, d, _, rfl, rfl, SqL.of (strs_new r7.go.cell hl g8), ez, _, _, rfl, rfl, q1.sz hz, ?_⟩
      refine ⟨(by show 5 ≤ sizeLine; decide), fun l hl => ⟨_, rfl, _, rfl, a, b, ns, 5, rfl, S.go (r8.go.new hl), by decide, fun d H9 g9 d0 d1 => ?_⟩⟩
      obtain ⟨y, hy, ey⟩ := strs_at (xs := (["ann bob", "ann", "bob cy dee", "dee", "ann bob cy dee eve fay"] : List Str)) d0 d1
      have r9 := (r8.step ((Go.refl r8.go.cell).new hl)).step g9
      have hy : Sg 22 y := sg_mem hy (by decide +kernel)
      exact ⟨l, _, d, _, rfl, rfl, SqL.of (strs_new r8.go.cell hl g9), ey, _, _, rfl, rfl, (q1.cat hz).sz hy, p, _, _, rfl, rfl, r9.at_, r9.room, _, _, _, rfl, r9.app (((q1.cat hz).cat hy).mono (by decide))⟩
    · rintro σ H3 ⟨xs, k3, k4, rfl, r⟩
      refine ⟨_, rfl, _, rfl, a, b, ns, 5, rfl, S.go r.go, by decide, fun z H4 g4 _ _ => ?_⟩
      have r := r.step g4
      refine ⟨_, _, rfl, rfl, _, rfl, ite2 (fun _ => ?_) (fun _ => ?_)⟩
      · exact ⟨_, rfl, kk p xs H4 (r.mono (by omega))⟩
      · refine ⟨_, rfl, _, rfl, p, _, rfl, SqL.of r.at_, fun q1 hq1 => ?_⟩
        obtain ⟨m1, e1, l1, s1⟩ := cut_strs xs none (some 1)
        rw [e1]
        have g5 := (Go.refl r.go.cell).new (o := .lst (m1.map V.str)) hq1
        have r1 : RowsAt b H 40 3 q1 m1 (upd H4 q1 (.lst (m1.map V.str))) := ⟨r.go.trans g5, r.go.free hq1, upd_same, Nat.le_trans l1 (Nat.le_trans r.few (by omega)), fun y hy => r.sg y (s1 y hy)⟩
        have r2 := r.step g5
        refine ⟨(by show 1 ≤ sizeLine; decide), fun q2 hq2 => ?_⟩
        have g6 := (Go.refl r2.go.cell).new (o := .lst (([""] : List Str).map V.str)) hq2
        have r3 := r1.step g6
        have r4 := r2.step g6
        refine ⟨q1, q2, _, _, rfl, rfl, r3.at_, upd_same, r3.cat_sz (ys := ([""] : List Str)) (k := 1) (by decide), fun q3 hq3 => ?_⟩
        have r5 := r3.cat (ys := ([""] : List Str)) (k := 1) (by decide) (fun y hy => by rw [List.mem_singleton.mp hy]; exact sg_of (by decide +kernel)) hq3
        have r6 := r4.step ((Go.refl r4.go.cell).new (o := .lst (m1.map V.str ++ ([""] : List Str).map V.str)) hq3)
        refine ⟨_, rfl, _, rfl, p, _, rfl, SqL.of r6.at_, fun q4 hq4 => ?_⟩
        obtain ⟨m2, e2, l2, s2⟩ := cut_strs xs (some 1) none
        rw [e2]
        have r7 := r5.step ((Go.refl r5.go.cell).new (o := .lst (m2.map V.str)) hq4)
        have hm2 : m2.length ≤ 3 := Nat.le_trans l2 (Nat.le_trans r.few (by omega))
        refine ⟨q3, q4, _, _, rfl, rfl, r7.at_, upd_same, r7.cat_sz (ys := m2) (k := 3) hm2, fun q5 hq5 => ?_⟩
        exact kk q5 _ _ ((r7.cat (ys := m2) (k := 3) hm2 (fun y hy => r.sg y (s2 y hy)) hq5).mono (by omega))
abbrev s_l_goal_rows : Stmt := topS 67
theorem sc_l_goal_rows : FnScope ["row", "spot", "rows", "name"] ["row", "spot"] (defScope s_l_goal_rows) := ⟨rfl, rfl, rfl, by decide +kernel, rfl, by decide +kernel, by decide +kernel⟩
theorem ok_goal_rows {f : Addr} {fd : FuncData} (F : Fun K "_law_goal_rows" "_law_goal_rows" s_l_goal_rows f fd) (T : Glo mg) (c_l_take : C8.Cal P w K mg base 2 "_law_take" (spTk K) []) :
    FnOk P w K mg base CX0 3 f fd ["row", "spot"] (spRows K 20 7) := by
  refine F.ok sc_l_goal_rows (fun vs H Q E h => ?_) (fun cdv A outer s H vs Q E hr h => ?_)
  · obtain ⟨a, b, ns, rfl, _⟩ := h
    rfl
  · obtain ⟨a, b, ns, rfl, S, kk⟩ := h
    refine ⟨_, (pss_cons (ps_set (i := 2) sc_l_goal_rows.nd rfl (.inl rfl) (pe_lst pa_nil))
      (pss_cons (ps_for PassesOwn.never rfl (pi_list (pe_lst (pa_strs rfl))) (pg_name (i := 3) sc_l_goal_rows.nd rfl (.inl rfl))
      (pss_one (ps_if (pt_cmpR op_eq (C8.pe_c c_l_take hr (by omega) (by rfl) (pa_cons (pv 0) (pa_cons (pv 1) (pa_cons pe_int pa_nil)))) pe_int (nomark _))
        (pss_one (ps_expr (pe_bm PySem.F.plainAttrs_list PySem.F.slot_list_append PySem.F.type_list_append mt_append (pv 2) (pa_cons (pe_op op_add_str (pe_op op_add_str (pe_op op_add_str pe_str (pv 3)) (pe_ix ix_list (pe_lst (pa_strs rfl)) (C8.pe_c c_l_take hr (by omega) (by rfl) (pa_cons (pv 0) (pa_cons (pv 1) (pa_cons pe_int pa_nil)))) (fun _ _ => rfl))) (pe_ix ix_list (pe_lst (pa_strs rfl)) (C8.pe_c c_l_take hr (by omega) (by rfl) (pa_cons (pv 0) (pa_cons (pv 1) (pa_cons pe_int pa_nil)))) (fun _ _ => rfl))) pa_nil))))
        pss_nil)))
      (pss_one (ps_ret (pe_ifExp (pt_cmpR op_gt (C8.pe_c c_l_take hr (by omega) (by rfl) (pa_cons (pv 0) (pa_cons (pv 1) (pa_cons pe_int pa_nil)))) pe_int (nomark _)) (pv 2) (pe_op op_cat (pe_op op_cat (pe_slice sl_list (pv 2) po_none (po_some pe_int)) (pe_lst (pa_strs rfl))) (pe_slice sl_list (pv 2) (po_some pe_int) po_none))))))), ?_⟩
    refine ⟨(by show 0 ≤ sizeLine; decide), fun p hp => ?_⟩
    have rp : RowsAt b H 20 0 p [] (upd H p (.lst [])) := RowsAt.nil S.cell hp
    refine ⟨(by show 3 ≤ sizeLine; decide), fun l hl => ?_⟩
    have hlp : l ≠ p := fun z => by
      rw [z, upd_same] at hl
      cases hl
    have hl0 : H l = none := by rw [upd_ne hlp] at hl; exact hl
    have r3 := rp.step ((Go.refl rp.go.cell).new (o := .lst ((["util", "core", "net"] : List Str).map V.str)) hl)
    refine ⟨l, rfl, ⟨_, SqL.of upd_same⟩, for_list (K := K) (a := l) (xs := (["util", "core", "net"] : List Str).map V.str) (fun j σ H1 => ∃ (xs : List Str) (k3 : Option V), σ = [some (.ref a), some (.ref b), some (.ref p), k3] ∧ RowsAt b H 20 j p xs H1 ∧ Strs H1 l ["util", "core", "net"])
        ⟨[], _, rfl, r3, upd_same⟩ (fun i σ H1 _ ⟨_, _, _, _, z⟩ => SqL.of z) ?_ ?_⟩
    · rintro j x σ H3 hj ⟨xs, k3, rfl, r, hs⟩
      obtain ⟨v, hv, rfl⟩ := List.mem_map.mp (List.mem_of_getElem? hj)
      have hv : Sg 4 v := sg_mem hv (by decide +kernel)
      have jl : j < 3 := (List.getElem?_eq_some_iff.mp hj).1
      refine ⟨_, rfl, _, rfl, a, b, ns, 3, rfl, S.go r.go, by decide, fun d H6 g6 _ _ => ?_⟩
      have hs := hs.go r.go.cell g6
      have r := r.step g6
      refine ⟨rfl, _, rfl, ite2 (fun _ => ?_) (fun _ => ⟨_, _, rfl, r.mono (by omega), hs⟩)⟩
      have q1 := (sg_of (m := 5) (x := "need ") (by decide +kernel)).cat hv
      refine ⟨_, rfl, .inl ⟨rfl, _, SqL.of r.at_⟩, _, rfl, _, _, rfl, rfl, (sg_of (m := 5) (by decide +kernel)).sz hv, ?_⟩
      refine ⟨(by show 2 ≤ sizeLine; decide), fun l2 hl => ⟨_, rfl, _, rfl, a, b, ns, 2, rfl, S.go (r.go.new hl), by decide, fun d H8 g8 d0 d1 => ?_⟩⟩
      obtain ⟨z, hz, ez⟩ := strs_at (xs := ([" 1 ", " 2 "] : List Str)) d0 d1
      have gl := (Go.refl r.go.cell).new (o := .lst (([" 1 ", " 2 "] : List Str).map V.str)) hl
      have r8 := (r.step gl).step g8
      have hs := (hs.go r.go.cell gl).go gl.cell g8
      have hz : Sg 3 z := sg_mem hz (by decide +kernel)
      refine ⟨l2, _, d, _, rfl, rfl, SqL.of (strs_new r.go.cell (by assumption) g8), ez, _, _, rfl, rfl, q1.sz hz, ?_⟩
      refine ⟨(by show 4 ≤ sizeLine; decide), fun l2 hl => ⟨_, rfl, _, rfl, a, b, ns, 4, rfl, S.go (r8.go.new hl), by decide, fun d H9 g9 d0 d1 => ?_⟩⟩
      obtain ⟨y, hy, ey⟩ := strs_at (xs := (["2", "3", "4", "9"] : List Str)) d0 d1
      have gl := (Go.refl r8.go.cell).new (o := .lst ((["2", "3", "4", "9"] : List Str).map V.str)) hl
      have r9 := (r8.step gl).step g9
      have hs := (hs.go r8.go.cell gl).go gl.cell g9
      have hy : Sg 1 y := sg_mem hy (by decide +kernel)
      exact ⟨l2, _, d, _, rfl, rfl, SqL.of (strs_new r8.go.cell (by assumption) g9), ey, _, _, rfl, rfl, (q1.cat hz).sz hy, p, _, _, rfl, rfl, r9.at_, r9.room, _, _, rfl, r9.app (((q1.cat hz).cat hy).mono (by decide)), by unfold Strs; rw [upd_ne hlp]; exact hs⟩
    · rintro σ H3 ⟨xs, k3, rfl, r, _⟩
      have r : RowsAt b H 20 3 p xs H3 := r
      refine ⟨_, rfl, _, rfl, a, b, ns, 5, rfl, S.go r.go, by decide, fun z H4 g4 _ _ => ?_⟩
      have r := r.step g4
      refine ⟨_, _, rfl, rfl, _, rfl, ite2 (fun _ => ?_) (fun _ => ?_)⟩
      · exact ⟨_, rfl, kk p xs H4 (r.mono (by omega))⟩
      · refine ⟨_, rfl, _, rfl, p, _, rfl, SqL.of r.at_, fun q1 hq1 => ?_⟩
        obtain ⟨m1, e1, l1, s1⟩ := cut_strs xs none (some 1)
        rw [e1]
        have g5 := (Go.refl r.go.cell).new (o := .lst (m1.map V.str)) hq1
        have r1 : RowsAt b H 20 3 q1 m1 (upd H4 q1 (.lst (m1.map V.str))) := ⟨r.go.trans g5, r.go.free hq1, upd_same, Nat.le_trans l1 (Nat.le_trans r.few (by omega)), fun y hy => r.sg y (s1 y hy)⟩
        have r2 := r.step g5
        refine ⟨(by show 1 ≤ sizeLine; decide), fun q2 hq2 => ?_⟩
        have g6 := (Go.refl r2.go.cell).new (o := .lst (([""] : List Str).map V.str)) hq2
        have r3 := r1.step g6
        have r4 := r2.step g6
        refine ⟨q1, q2, _, _, rfl, rfl, r3.at_, upd_same, r3.cat_sz (ys := ([""] : List Str)) (k := 1) (by decide), fun q3 hq3 => ?_⟩
        have r5 := r3.cat (ys := ([""] : List Str)) (k := 1) (by decide) (fun y hy => by rw [List.mem_singleton.mp hy]; exact sg_of (by decide +kernel)) hq3
        have r6 := r4.step ((Go.refl r4.go.cell).new (o := .lst (m1.map V.str ++ ([""] : List Str).map V.str)) hq3)
        refine ⟨_, rfl, _, rfl, p, _, rfl, SqL.of r6.at_, fun q4 hq4 => ?_⟩
        obtain ⟨m2, e2, l2, s2⟩ := cut_strs xs (some 1) none
        rw [e2]
        have r7 := r5.step ((Go.refl r5.go.cell).new (o := .lst (m2.map V.str)) hq4)
        have hm2 : m2.length ≤ 3 := Nat.le_trans l2 (Nat.le_trans r.few (by omega))
        refine ⟨q3, q4, _, _, rfl, rfl, r7.at_, upd_same, r7.cat_sz (ys := m2) (k := 3) hm2, fun q5 hq5 => ?_⟩
        exact kk q5 _ _ ((r7.cat (ys := m2) (k := 3) hm2 (fun y hy => r.sg y (s2 y hy)) hq5).mono (by omega))
end
end Kl

namespace Kl
open PySem L2 Kd
/-! files by their paths -/
abbrev Fs := List (Str × Str)
section
variable {α : Type}
def valF (fs : List (Str × α)) (p : Str) : Option α := (fs.find? fun q => decide (q.1 = p)).map (·.2)
def putF (fs : List (Str × α)) (p : Str) (c : α) : List (Str × α) := if (fs.any fun q => decide (q.1 = p)) then fs.map (fun q => if q.1 = p then (q.1, c) else q) else fs ++ [(p, c)]
def dropF (fs : List (Str × α)) (p : Str) : List (Str × α) := fs.filter fun q => decide (q.1 ≠ p)
def kvG (f : α → V) (fs : List (Str × α)) : List (Key × V) := fs.map fun q => (Sum.inr q.1, f q.2)
abbrev kvF (fs : Fs) : List (Key × V) := kvG V.str fs
variable (f : α → V)
theorem kvF_any (p : Str) (fs : List (Str × α)) : ((kvG f fs).any fun q => decide (q.1 = Sum.inr p)) = fs.any fun q => decide (q.1 = p) := by
  unfold kvG
  rw [List.any_map]
  congr 1
  funext q
  simp
theorem valF_pos {q : Str × α} {r : List (Str × α)} {p : Str} (e : q.1 = p) : valF (q :: r) p = some q.2 := by simp [valF, List.find?_cons, e]
theorem valF_neg {q : Str × α} {r : List (Str × α)} {p : Str} (e : ¬ q.1 = p) : valF (q :: r) p = valF r p := by simp [valF, List.find?_cons, e]
theorem kvF_val (fs : List (Str × α)) (p : Str) : valV (kvG f fs) (Sum.inr p) = (valF fs p).map f := by
  induction fs with
  | nil => rfl
  | cons q r ih =>
    by_cases e : q.1 = p
    · have h1 : valV (kvG f (q :: r)) (Sum.inr p) = some (f q.2) := valV_pos (p := (Sum.inr q.1, f q.2)) (r := kvG f r) (by rw [e])
      rw [h1, valF_pos e]
      rfl
    · have h1 : valV (kvG f (q :: r)) (Sum.inr p) = valV (kvG f r) (Sum.inr p) := valV_neg (p := (Sum.inr q.1, f q.2)) (r := kvG f r) (by simpa using e)
      rw [h1, ih, valF_neg e]
theorem kvF_put (fs : List (Str × α)) (p : Str) (c : α) : putK (kvG f fs) (Sum.inr p) (f c) = kvG f (putF fs p c) := by
  unfold putK putF
  rw [kvF_any]
  split
  · unfold kvG
    rw [List.map_map, List.map_map]
    congr 1
    funext q
    simp only [Function.comp]
    by_cases e : q.1 = p
    · simp [e]
    · simp [e]
  · unfold kvG
    rw [List.map_append]
    rfl
theorem kvF_drop (fs : List (Str × α)) (p : Str) : dropK (kvG f fs) (Sum.inr p) = kvG f (dropF fs p) := by
  unfold dropK dropF kvG
  rw [List.filter_map]
  congr 1
  congr 1
  funext q
  simp
theorem kvF_keys (fs : List (Str × α)) : (kvG f fs).map (·.1) = (fs.map (·.1)).map Sum.inr := by
  unfold kvG
  rw [List.map_map, List.map_map]
  rfl
variable {f}
theorem valF_map (p j : Str) (c : α) : ∀ fs : List (Str × α), valF (fs.map (fun q => if q.1 = p then (q.1, c) else q)) j = (valF fs j).map fun x => if j = p then c else x
  | [] => rfl
  | q :: r => by
    have ih := valF_map p j c r
    rw [List.map_cons]
    by_cases e : q.1 = j
    · rw [valF_pos (q := q) e]
      by_cases ep : q.1 = p
      · have ejp : j = p := by rw [← e, ep]
        simp [ep, ejp, valF]
      · have ejp : ¬ j = p := by rw [← e]; exact ep
        rw [if_neg ep, valF_pos e]
        simp [ejp]
    · rw [valF_neg (q := q) e, ← ih]
      by_cases ep : q.1 = p
      · rw [if_pos ep]
        exact valF_neg (q := (q.1, c)) e
      · rw [if_neg ep]
        exact valF_neg e
theorem valF_snoc (p j : Str) (c : α) : ∀ fs : List (Str × α), valF (fs ++ [(p, c)]) j = (valF fs j).or (if p = j then some c else none)
  | [] => by
    by_cases e : p = j
    · rw [if_pos e]
      exact valF_pos (q := (p, c)) e
    · rw [if_neg e]
      exact valF_neg (q := (p, c)) (r := []) e
  | q :: r => by
    have ih := valF_snoc p j c r
    by_cases e : q.1 = j
    · rw [List.cons_append, valF_pos e, valF_pos e]
      rfl
    · rw [List.cons_append, valF_neg e, valF_neg e, ih]
theorem valF_put (fs : List (Str × α)) (p j : Str) (c : α) : valF (putF fs p c) j = if j = p then some c else valF fs j := by
  have hp : (fs.any fun q => decide (q.1 = p)) = (valF fs p).isSome := by
    unfold valF
    rw [Option.isSome_map, Bool.eq_iff_iff, List.any_eq_true, List.find?_isSome]
  unfold putF
  rw [hp]
  cases hv : valF fs p with
  | none =>
    rw [if_neg (by simp), valF_snoc]
    by_cases e : j = p
    · rw [e, hv]
      simp
    · rw [if_neg (fun z => e z.symm), if_neg e, Option.or_none]
  | some x =>
    rw [if_pos (by simp), valF_map]
    by_cases e : j = p
    · rw [if_pos e, e, hv]
      simp
    · simp [e]
theorem valF_some {fs : List (Str × α)} {p : Str} {c : α} (h : valF fs p = some c) : (p, c) ∈ fs := by
  unfold valF at h
  rw [Option.map_eq_some_iff] at h
  obtain ⟨q, hq, rfl⟩ := h
  have h1 := List.find?_some hq
  have h2 := List.mem_of_find?_eq_some hq
  have h3 : q.1 = p := of_decide_eq_true h1
  rw [← h3]
  exact h2
theorem valF_none {fs : List (Str × α)} {p : Str} (h : valF fs p = none) : p ∉ fs.map (·.1) := by
  intro hm
  obtain ⟨q, hq, e⟩ := List.mem_map.mp hm
  unfold valF at h
  rw [Option.map_eq_none_iff, List.find?_eq_none] at h
  exact h q hq (decide_eq_true e)
theorem valF_mem {fs : List (Str × α)} (nd : (fs.map (·.1)).Nodup) {p : Str} {c : α} (h : (p, c) ∈ fs) : valF fs p = some c := by
  induction fs with
  | nil => cases h
  | cons q r ih =>
    rw [List.map_cons, List.nodup_cons] at nd
    rcases List.mem_cons.mp h with e | h
    · subst e
      simp [valF]
    · have e : q.1 ≠ p := fun z => nd.1 (List.mem_map.mpr ⟨_, h, z.symm⟩)
      have := ih nd.2 h
      simpa [valF, List.find?_cons, e] using this
theorem valF_isSome {fs : List (Str × α)} {p : Str} : (valF fs p).isSome = true ↔ p ∈ fs.map (·.1) := by
  constructor
  · intro h
    obtain ⟨c, hc⟩ := Option.isSome_iff_exists.mp h
    exact List.mem_map.mpr ⟨_, valF_some hc, rfl⟩
  · intro h
    cases e : valF fs p with
    | none => exact absurd h (valF_none e)
    | some c => rfl
end
/-! the order of texts -/
def Lt (x y : Str) : Prop := x.cps.toList < y.cps.toList
instance (x y : Str) : Decidable (Lt x y) := inferInstanceAs (Decidable (x.cps.toList < y.cps.toList))
theorem Lt.irrefl (x : Str) : ¬ Lt x x := List.lt_irrefl _
theorem Lt.trans {x y z : Str} (a : Lt x y) (b : Lt y z) : Lt x z := List.lt_trans a b
theorem Lt.ne {x y : Str} (a : Lt x y) : x ≠ y := fun e => Lt.irrefl y (by rw [e] at a; exact a)
theorem Lt.tri {x y : Str} (a : ¬ Lt y x) (n : x ≠ y) : Lt x y := by
  have h : x.cps.toList ≤ y.cps.toList := a
  rcases List.le_iff_lt_or_eq.mp h with h | h
  · exact h
  · exact absurd (TL.ext_tl h) n
abbrev Asc (xs : List Str) : Prop := xs.Pairwise Lt
theorem Asc.nodup {xs : List Str} (h : Asc xs) : xs.Nodup := h.imp fun a => Lt.ne a
theorem rising_asc : ∀ {xs : List Str} {p : Str}, PyProof.Rows.risingS p xs = true → (p :: xs).Nodup → Asc (p :: xs)
  | [], p, _, _ => List.pairwise_singleton _ _
  | x :: r, p, h, nd => by
    have h' : (!PySem.Spec.ltCps x.cps.toList p.cps.toList && PyProof.Rows.risingS x r) = true := h
    rw [Bool.and_eq_true, Bool.not_eq_true', PyProof.Rows.ltCps_eq] at h'
    have nd' := List.nodup_cons.mp nd
    have ih := rising_asc h'.2 nd'.2
    have hpx : Lt p x := Lt.tri (of_decide_eq_false h'.1) fun e => nd'.1 (by rw [e]; exact List.mem_cons_self ..)
    refine List.pairwise_cons.mpr ⟨fun y hy => ?_, ih⟩
    rcases List.mem_cons.mp hy with rfl | hy
    · exact hpx
    · exact hpx.trans ((List.pairwise_cons.mp ih).1 y hy)
theorem asc_of {xs : List Str} (h : PyProof.Rows.sortedS xs = true) (nd : xs.Nodup) : Asc xs := by
  cases xs with
  | nil => exact List.Pairwise.nil
  | cons p r => exact rising_asc h nd
/-- two rising rows of the same texts are one -/
theorem Asc.unique : ∀ {xs ys : List Str}, Asc xs → Asc ys → (∀ p, p ∈ xs ↔ p ∈ ys) → xs = ys
  | [], [], _, _, _ => rfl
  | [], y :: r, _, _, h => absurd ((h y).mpr (List.mem_cons_self ..)) (by simp)
  | x :: r, [], _, _, h => absurd ((h x).mp (List.mem_cons_self ..)) (by simp)
  | x :: r, y :: q, a, b, h => by
    have a' := List.pairwise_cons.mp a
    have b' := List.pairwise_cons.mp b
    have e : x = y := by
      rcases List.mem_cons.mp ((h x).mp (List.mem_cons_self ..)) with e | hx
      · exact e
      · rcases List.mem_cons.mp ((h y).mpr (List.mem_cons_self ..)) with e | hy
        · exact e.symm
        · exact absurd ((a'.1 y hy).trans (b'.1 x hx)) (Lt.irrefl _)
    subst e
    have : r = q := Asc.unique a'.2 b'.2 fun p => by
      constructor
      · intro hp
        rcases List.mem_cons.mp ((h p).mp (List.mem_cons_of_mem _ hp)) with e | hq
        · subst e
          exact absurd (a'.1 _ hp) (Lt.irrefl _)
        · exact hq
      · intro hp
        rcases List.mem_cons.mp ((h p).mpr (List.mem_cons_of_mem _ hp)) with e | hq
        · subst e
          exact absurd (b'.1 _ hp) (Lt.irrefl _)
        · exact hq
    rw [this]
/-- rising files with the same content at each path are one -/
theorem fs_unique {α : Type} {fs gs : List (Str × α)} (a : Asc (fs.map (·.1))) (b : Asc (gs.map (·.1))) (h : ∀ p, valF fs p = valF gs p) : fs = gs := by
  have e : fs.map (·.1) = gs.map (·.1) := a.unique b fun p => by rw [← valF_isSome, ← valF_isSome, h]
  have hl : fs.length = gs.length := by simpa using congrArg List.length e
  refine List.ext_getElem hl fun i h1 h2 => ?_
  have e1 : (fs[i]).1 = (gs[i]).1 := by
    have := congrArg (fun l => l[i]?) e
    simpa [h1, h2] using this
  have v1 := valF_mem a.nodup (p := (fs[i]).1) (c := (fs[i]).2) (List.getElem_mem h1)
  have v2 := valF_mem b.nodup (p := (gs[i]).1) (c := (gs[i]).2) (List.getElem_mem h2)
  rw [h, e1] at v1
  rw [v1] at v2
  exact Prod.ext e1 (Option.some.inj v2)
theorem putF_keys {α : Type} (fs : List (Str × α)) (p : Str) (c : α) : (putF fs p c).map (·.1) = if p ∈ fs.map (·.1) then fs.map (·.1) else fs.map (·.1) ++ [p] := by
  unfold putF
  by_cases h : p ∈ fs.map (·.1)
  · have h1 : (fs.any fun q => decide (q.1 = p)) = true := by
      obtain ⟨q, hq, e⟩ := List.mem_map.mp h
      exact List.any_eq_true.mpr ⟨q, hq, decide_eq_true e⟩
    rw [if_pos h, if_pos h1, List.map_map]
    congr 1
    funext q
    simp only [Function.comp]
    split <;> rfl
  · have h1 : ¬ (fs.any fun q => decide (q.1 = p)) = true := fun z => by
      obtain ⟨q, hq, e⟩ := List.any_eq_true.mp z
      exact h (List.mem_map.mpr ⟨q, hq, of_decide_eq_true e⟩)
    rw [if_neg h, if_neg h1, List.map_append]
    rfl
theorem putF_nodup {α : Type} {fs : List (Str × α)} {p : Str} {c : α} (nd : (fs.map (·.1)).Nodup) : ((putF fs p c).map (·.1)).Nodup := by
  rw [putF_keys]
  split
  · exact nd
  · rename_i h
    rw [List.nodup_append]
    exact ⟨nd, by simp, fun a ha b hb => by
      rw [List.mem_singleton.mp hb]
      exact fun e => h (by rw [← e]; exact ha)⟩
theorem putF_mem {α : Type} {fs : List (Str × α)} {p : Str} {c : α} {q : Str × α} (h : q ∈ putF fs p c) : q = (p, c) ∨ q ∈ fs := by
  unfold putF at h
  split at h
  · obtain ⟨z, hz, e⟩ := List.mem_map.mp h
    split at e
    · rename_i hz1
      exact .inl (by rw [← e, hz1])
    · exact .inr (by rw [← e]; exact hz)
  · rcases List.mem_append.mp h with h | h
    · exact .inr h
    · exact .inl (List.mem_singleton.mp h)
theorem dropF_sub {α : Type} {fs : List (Str × α)} {p : Str} {q : Str × α} (h : q ∈ dropF fs p) : q ∈ fs := (List.mem_filter.mp h).1
theorem dropF_nodup {α : Type} {fs : List (Str × α)} {p : Str} (nd : (fs.map (·.1)).Nodup) : ((dropF fs p).map (·.1)).Nodup := by
  have : ((dropF fs p).map (·.1)).Sublist (fs.map (·.1)) := List.Sublist.map _ List.filter_sublist
  exact this.nodup nd
theorem valF_drop {α : Type} (fs : List (Str × α)) (p j : Str) : valF (dropF fs p) j = if j = p then none else valF fs j := by
  induction fs with
  | nil => simp [valF, dropF]
  | cons q r ih =>
    unfold dropF at ih ⊢
    by_cases e : q.1 = p
    · rw [List.filter_cons_of_neg (by simp [e]), ih]
      by_cases ej : j = p
      · simp [ej]
      · rw [if_neg ej, if_neg ej]
        have : q.1 ≠ j := fun z => ej (by rw [← z, e])
        simp [valF, List.find?_cons, this]
    · rw [List.filter_cons_of_pos (by simp [e])]
      by_cases eq : q.1 = j
      · have : j ≠ p := fun z => e (by rw [eq, z])
        rw [if_neg this]
        simp [valF, List.find?_cons, eq]
      · have h1 : valF (q :: List.filter (fun q => decide (q.fst ≠ p)) r) j = valF (List.filter (fun q => decide (q.fst ≠ p)) r) j := by simp [valF, List.find?_cons, eq]
        have h2 : valF (q :: r) j = valF r j := by simp [valF, List.find?_cons, eq]
        rw [h1, ih, h2]
/-- by the rising row of its paths -/
def sortF {α : Type} [Inhabited α] (fs : List (Str × α)) (ks : List Str) : List (Str × α) := ks.map fun p => (p, (valF fs p).getD default)
theorem sortF_keys {α : Type} [Inhabited α] (fs : List (Str × α)) (ks : List Str) : (sortF fs ks).map (·.1) = ks := by
  unfold sortF
  rw [List.map_map]
  exact List.map_id' ks
theorem valF_sortF {α : Type} [Inhabited α] {fs : List (Str × α)} : ∀ {ks : List Str} (p : Str), valF (sortF fs ks) p = if p ∈ ks then some ((valF fs p).getD default) else none
  | [], p => by simp [sortF, valF]
  | k :: r, p => by
    have ih := valF_sortF (fs := fs) (ks := r) p
    unfold sortF at ih ⊢
    by_cases e : k = p
    · subst e
      simp [valF]
    · have h1 : valF (List.map (fun p => (p, (valF fs p).getD default)) (k :: r)) p = valF (List.map (fun p => (p, (valF fs p).getD default)) r) p := by simp [valF, List.find?_cons, e]
      rw [h1, ih]
      have : (p ∈ k :: r) ↔ p ∈ r := by
        rw [List.mem_cons]
        exact ⟨fun h => h.resolve_left fun z => e z.symm, .inr⟩
      simp only [this]
theorem sortF_val {α : Type} [Inhabited α] {fs : List (Str × α)} {ks : List Str} (h : ks.Perm (fs.map (·.1))) (p : Str) : valF (sortF fs ks) p = valF fs p := by
  rw [valF_sortF]
  by_cases e : p ∈ ks
  · rw [if_pos e]
    have := valF_isSome.mpr (h.mem_iff.mp e)
    obtain ⟨c, hc⟩ := Option.isSome_iff_exists.mp this
    rw [hc]
    rfl
  · rw [if_neg e]
    cases hv : valF fs p with
    | none => rfl
    | some c => exact absurd (h.mem_iff.mpr (valF_isSome.mp (by rw [hv]; rfl))) e
theorem kvF_put' (fs : Fs) (p c : Str) : putK (kvF fs) (Sum.inr p) (.str c) = kvF (putF fs p c) := kvF_put V.str fs p c
theorem kvF_val' (fs : Fs) (p : Str) : valV (kvF fs) (Sum.inr p) = (valF fs p).map V.str := kvF_val V.str fs p
theorem kvF_drop' (fs : Fs) (p : Str) : dropK (kvF fs) (Sum.inr p) = kvF (dropF fs p) := kvF_drop V.str fs p
theorem kvF_keys' (fs : Fs) : (kvF fs).map (·.1) = (fs.map (·.1)).map Sum.inr := kvF_keys V.str fs
end Kl

namespace Kl
open PySem L2 Kd
abbrev allPaths : List Str := ["app/main", "app/side", "app/sub/deep", "appx/z", "build/a", "build/b", "build/c", "build/lib/b", "builds/a", "doc/more", "doc/new", "doc/note", "fleet/places", "own/rules", "pack/goals", "set/all", "set/b", "set/eu/west", "sets/a"]
theorem nodup_le {α : Type} [DecidableEq α] : ∀ {xs ys : List α}, xs.Nodup → (∀ x ∈ xs, x ∈ ys) → xs.length ≤ ys.length
  | [], _, _, _ => Nat.zero_le _
  | x :: r, ys, nd, h => by
    have nd' := List.nodup_cons.mp nd
    have ih := nodup_le (xs := r) (ys := ys.erase x) nd'.2 fun z hz => (List.mem_erase_of_ne (fun e => nd'.1 (by rw [← e]; exact hz))).mpr (h z (List.mem_cons_of_mem _ hz))
    have hx := h x (List.mem_cons_self ..)
    have := List.length_erase_of_mem hx
    have : 0 < ys.length := List.length_pos_of_mem hx
    rw [List.length_cons]
    omega
structure FOk (fs : Fs) : Prop where
  nd : (fs.map (·.1)).Nodup
  path : ∀ q ∈ fs, q.1 ∈ allPaths
  ct : ∀ q ∈ fs, Ct 1000 q.2
theorem FOk.few {fs : Fs} (h : FOk fs) : fs.length ≤ 20 := by
  have := nodup_le (ys := allPaths) h.nd fun p hp => by
    obtain ⟨q, hq, e⟩ := List.mem_map.mp hp
    rw [← e]
    exact h.path q hq
  rw [List.length_map] at this
  exact Nat.le_trans this (by decide)
theorem FOk.nil : FOk [] := ⟨List.nodup_nil, fun _ h => (nomatch h), fun _ h => (nomatch h)⟩
theorem FOk.put {fs : Fs} (h : FOk fs) {p c : Str} (hp : p ∈ allPaths) (hc : Ct 1000 c) : FOk (putF fs p c) := by
  refine ⟨putF_nodup h.nd, fun q hq => ?_, fun q hq => ?_⟩
  · rcases putF_mem hq with e | e
    · rw [e]
      exact hp
    · exact h.path q e
  · rcases putF_mem hq with e | e
    · rw [e]
      exact hc
    · exact h.ct q e
theorem FOk.drop {fs : Fs} (h : FOk fs) {p : Str} : FOk (dropF fs p) := ⟨dropF_nodup h.nd, fun q hq => h.path q (dropF_sub hq), fun q hq => h.ct q (dropF_sub hq)⟩
theorem FOk.sort {fs : Fs} (h : FOk fs) {ks : List Str} (hk : ks.Perm (fs.map (·.1))) : FOk (sortF fs ks) := by
  have hv : ∀ q ∈ sortF fs ks, q ∈ fs := fun q hq => by
    obtain ⟨p, hp, e⟩ := List.mem_map.mp hq
    obtain ⟨c, hc⟩ := Option.isSome_iff_exists.mp (valF_isSome.mpr (hk.mem_iff.mp hp))
    rw [hc] at e
    rw [← e]
    exact valF_some hc
  exact ⟨by rw [sortF_keys]; exact hk.nodup_iff.mpr h.nd, fun q hq => h.path q (hv q hq), fun q hq => h.ct q (hv q hq)⟩
theorem putF_ne (fs : Fs) (p c : Str) : putF fs p c ≠ [] := fun h => by
  have := putF_keys fs p c
  rw [h] at this
  split at this
  · rename_i hm
    rw [← this] at hm
    cases hm
  · exact absurd (congrArg List.length this) (by simp)
/-- a dict of files at dd, made since H0 -/
structure FilesAt (b : Addr) (H0 : Hp) (dd : Addr) (fs : Fs) (H : Hp) : Prop where
  go : Go b H0 H
  new : H0 dd = none
  at_ : H dd = some (.dK (kvF fs))
  ok : FOk fs
theorem FilesAt.ne {b : Addr} {H0 H : Hp} {dd : Addr} {fs : Fs} (r : FilesAt b H0 dd fs H) : b ≠ dd := fun z => by
  obtain ⟨i, _, q⟩ := r.go.cell
  rw [z, r.at_] at q
  cases q
theorem FilesAt.step {b : Addr} {H0 H H' : Hp} {dd : Addr} {fs : Fs} (r : FilesAt b H0 dd fs H) (g : Go b H H') : FilesAt b H0 dd fs H' :=
  ⟨r.go.trans g, r.new, g.keep _ _ (Ne.symm r.ne) r.at_, r.ok⟩
theorem FilesAt.put {b : Addr} {H0 H : Hp} {dd : Addr} {fs : Fs} (r : FilesAt b H0 dd fs H) {p c : Str} (hp : p ∈ allPaths) (hc : Ct 1000 c) : FilesAt b H0 dd (putF fs p c) (upd H dd (.dK (kvF (putF fs p c)))) :=
  ⟨r.go.mut r.new r.ne, r.new, upd_same, r.ok.put hp hc⟩
theorem FilesAt.dput {b : Addr} {H0 H : Hp} {dd : Addr} {fs : Fs} (r : FilesAt b H0 dd fs H) {p c : Str} : DPut H dd (.str p) (.str c) (upd H dd (.dK (kvF (putF fs p c)))) := by
  rw [← kvF_put']
  refine DPut.k (k := Sum.inr p) r.at_ ?_
  unfold kvF kvG
  rw [List.length_map]
  exact small_lt (by have := r.ok.few; omega)
theorem FilesAt.dget {b : Addr} {H0 H : Hp} {dd : Addr} {fs : Fs} (r : FilesAt b H0 dd fs H) {p c : Str} (h : valF fs p = some c) : DGet H dd (.str p) (some (.str c)) := by
  have := DGet.k (k := Sum.inr p) r.at_
  rw [kvF_val', h] at this
  exact this
def pairD (q : Str × Str) : D := .tup [.str q.1, .str q.2]
def filesD (fs : Fs) : D := .tup (fs.map pairD)
theorem pair_rep {H : Hp} {t : Addr} {p c : Str} (h : H t = some (.tup [.str p, .str c])) : Rep H (pairD (p, c)) (.ref t) :=
  ⟨t, _, rfl, .inl h, by show 2 ≤ sizeLine; decide, .str p, [.str c], rfl, rfl, .str c, [], rfl, rfl, rfl⟩
theorem Tk.of {H : Hp} {p : Addr} {u o : HO} (h : H p = some u) (n : ∀ xs, u ≠ .tup xs) (n2 : ∀ o xs, u ≠ .frz o (.tup xs)) : Tk H (upd H p o) := fun a ys e => e.imp
    (fun e => by rw [upd_ne (ne_of e h (fun z => n ys z.symm))]; exact e)
    (fun ⟨o2, e⟩ => ⟨o2, by rw [upd_ne (ne_of e h (fun z => n2 o2 ys z.symm))]; exact e⟩)
/-- a pair of a path and its rows -/
structure OtherAt (H : Hp) (v : V) (t : Addr) (nm : Str) (p : Addr) (xs : List Str) : Prop where
  v_ : v = .ref t
  tup : H t = some (.tup [.str nm, .ref p])
  rows : Strs H p xs
  few : xs.length ≤ 1000
  sg : ∀ x ∈ xs, Sg 400 x
  path : nm ∈ allPaths
  ct : Ct 1000 (contentOf xs)
abbrev Other (H : Hp) (v : V) : Prop := ∃ (t : Addr) (nm : Str) (p : Addr) (xs : List Str), OtherAt H v t nm p xs
theorem Other.go {b : Addr} {H H' : Hp} {v : V} (h : Other H v) (c : ∃ i : Int, 0 ≤ i ∧ H b = some (.lst [.int i])) (g : Go b H H') : Other H' v := by
  obtain ⟨t, nm, p, xs, o⟩ := h
  exact ⟨t, nm, p, xs, o.v_, g.keep _ _ (fun z => by
    obtain ⟨i, _, q⟩ := c
    have := o.tup
    rw [z, q] at this
    cases this) o.tup, o.rows.go c g, o.few, o.sg, o.path, o.ct⟩
theorem Other.dict {H : Hp} {v : V} {dd : Addr} {kvs : List (Key × V)} {u : HO} (h : Other H v) (e : H dd = some (.dK kvs)) : Other (upd H dd u) v := by
  obtain ⟨t, nm, p, xs, o⟩ := h
  refine ⟨t, nm, p, xs, o.v_, ?_, ?_, o.few, o.sg, o.path, o.ct⟩
  · rw [upd_ne (ne_of o.tup e (fun z => nomatch z))]
    exact o.tup
  · unfold Strs
    rw [upd_ne (ne_of o.rows e (fun z => nomatch z))]
    exact o.rows
theorem Other.mk' {b : Addr} {H0 H : Hp} {m n : Nat} {p t : Addr} {nm : Str} {xs : List Str} (r : RowsAt b H0 m n p xs H) (ht : H t = none) (hp : nm ∈ allPaths) (hm : m ≤ 400) (hn : n ≤ 1000) (hk : n * (m + 1) ≤ 1000) : Other (upd H t (.tup [.str nm, .ref p])) (.ref t) :=
  ⟨t, nm, p, xs, rfl, upd_same, by unfold Strs; rw [upd_ne (ne_of_none r.at_ ht)]; exact r.at_, Nat.le_trans r.few hn, fun x hx => (r.sg x hx).mono hm, hp, content_ct r.few r.sg hk⟩
/-- a drawn tree -/
def spTree (K : PySem.W.Frag) : Sp := fun vs H Q _ => ∃ (a b : Addr) (ns : List Int), vs = [.ref a, .ref b] ∧ Sp0 K a b ns H ∧
  ∀ (v : V) (fs : Fs) (H' : Hp), Go b H H' → Rep H' (filesD fs) v → FOk fs → Asc (fs.map (·.1)) → fs ≠ [] → Q v H'
abbrev rLenQ (K : PySem.W.Frag) : List V → Hp → VK → Prop := fun xs H Q => ∃ p ys, xs = [.ref p] ∧ (SqL K H p ys ∨ SqT K H p ys) ∧ Q (.int ys.length) H
theorem cut_take (xs : List Str) (i : Nat) : cutV (xs.map V.str) none (some (i : Int)) = (xs.take i).map V.str := by
  unfold cutV
  rw [HT.sIx_none, HT.sIx_nat, List.drop_zero, ← List.map_take, List.length_map, Nat.sub_zero]
  congr 1
  by_cases h : i ≤ xs.length
  · rw [Nat.min_eq_left h]
  · rw [Nat.min_eq_right (by omega), List.take_of_length_le (Nat.le_refl _), List.take_of_length_le (by omega)]
theorem cut_drop (xs : List Str) (i : Nat) : cutV (xs.map V.str) (some (i : Int)) none = (xs.drop i).map V.str := by
  unfold cutV
  rw [HT.sIx_none, HT.sIx_nat, ← List.map_drop, List.length_map, ← List.map_take]
  congr 1
  by_cases h : i ≤ xs.length
  · rw [Nat.min_eq_left h, List.take_of_length_le (by rw [List.length_drop] <;> exact Nat.le_refl _)]
  · rw [Nat.min_eq_right (by omega), List.drop_of_length_le (Nat.le_refl _), List.drop_of_length_le (by omega), List.take_nil]
section
variable {P : Program} {w : World} {K : PySem.W.Frag} {mg : Str → Option Value} {base : Heap}
abbrev s_l_tree : Stmt := topS 68
theorem sc_l_tree : FnScope ["row", "spot", "files", "path", "rows", "cut", "others", "pair", "k"] ["row", "spot"] (defScope s_l_tree) := ⟨rfl, rfl, rfl, by decide +kernel, rfl, by decide +kernel, by decide +kernel⟩
theorem ok_tree {f : Addr} {fd : FuncData} (F : Fun K "_law_tree" "_law_tree" s_l_tree f fd) (T : Glo mg) (c_l_take : C8.Cal P w K mg base 2 "_law_take" (spTk K) []) (c_l_text : C8.Cal P w K mg base 3 "_law_text" (spText K) [])
    (c_l_rule_rows : C8.Cal P w K mg base 7 "_law_rule_rows" (spRules K) []) (c_l_content : C8.Cal P w K mg base 1 "_law_content" (spContent K) []) (c_l_setting_rows : C8.Cal P w K mg base 3 "_law_setting_rows" (spRows K 20 25) [])
    (c_l_place_rows : C8.Cal P w K mg base 3 "_law_place_rows" (spRows K 28 25) []) (c_l_own_rows : C8.Cal P w K mg base 3 "_law_own_rows" (spRows K 40 7) []) (c_l_goal_rows : C8.Cal P w K mg base 3 "_law_goal_rows" (spRows K 20 7) []) :
    FnOk P w K mg base CX0 8 f fd ["row", "spot"] (spTree K) := by
  refine F.ok sc_l_tree (fun vs H Q E h => ?_) (fun cdv A outer s H vs Q E hr h => ?_)
  · obtain ⟨a, b, ns, rfl, _⟩ := h
    rfl
  · obtain ⟨a, b, ns, rfl, S, kk⟩ := h
    have hu := hu_of hr
    refine ⟨_, (pss_cons (ps_set (i := 2) sc_l_tree.nd rfl (.inr rfl) (pe_disp (pps_cons pe_str (C8.pe_c c_l_text hr (by omega) (by rfl) (pa_cons (pv 0) (pa_cons (pv 1) pa_nil))) (pps_cons pe_str (C8.pe_c c_l_text hr (by omega) (by rfl) (pa_cons (pv 0) (pa_cons (pv 1) pa_nil))) pps_nil)) (by rfl) (by rfl) (fun z => by cases z) (by decide)))
      (pss_cons (ps_for PassesOwn.never rfl (pi_list (pe_lst (pa_strs rfl))) (pg_name (i := 3) sc_l_tree.nd rfl (.inl rfl))
      (pss_one (ps_if (pt_cmpR op_eq (C8.pe_c c_l_take hr (by omega) (by rfl) (pa_cons (pv 0) (pa_cons (pv 1) (pa_cons pe_int pa_nil)))) pe_int (nomark _))
        (pss_one (ps_dput hu (pv 2) (pv 3) (C8.pe_c c_l_text hr (by omega) (by rfl) (pa_cons (pv 0) (pa_cons (pv 1) pa_nil))) rfl))
        pss_nil)))
      (pss_cons (ps_set (i := 4) sc_l_tree.nd rfl (.inr rfl) (C8.pe_c c_l_rule_rows hr (by omega) (by rfl) (pa_cons (pv 0) (pa_cons (pv 1) (pa_cons (pe_op op_add pe_int (C8.pe_c c_l_take hr (by omega) (by rfl) (pa_cons (pv 0) (pa_cons (pv 1) (pa_cons pe_int pa_nil))))) pa_nil)))))
      (pss_cons (ps_set (i := 4) sc_l_tree.nd rfl (.inr rfl) (pe_ix ix_list (pe_lc (own := [("k", 8)]) (g := gName 8) (tt := _) rfl sc_l_tree.nd (pi_range1 (by rfl) T.range (pa_cons (pe_op op_add (pe_callB call_len_seq (by rfl) T.len PySem.boot_len (pa_cons (pv 4) pa_nil)) pe_int) pa_nil)) (blkOk_by (N := ["row", "spot", "files", "path", "rows", "cut", "others", "pair", "k"]) (sc := defScope s_l_tree) (by decide +kernel)) (fun _ _ _ _ _ => (pg_name (i := 8) sc_l_tree.nd rfl (.inl rfl))) (fun _ _ _ _ _ => (pts_one (pt_cmpR op_le (pe_callB call_len_str (by rfl) T.len PySem.boot_len (pa_cons (C8.pe_c c_l_content hr (by omega) (by rfl) (pa_cons (pe_slice (r := rSlL K) sl_list (pv 4) po_none (po_some (pv 8))) pa_nil)) pa_nil)) pe_int (nomark _)))) (fun _ _ _ _ _ => (pe_slice (r := rSlL K) sl_list (pv 4) po_none (po_some (pv 8))))) (pe_un un_neg pe_int) (fun _ _ => rfl)))
      (pss_cons (ps_set (i := 5) sc_l_tree.nd rfl (.inl rfl) (C8.pe_c c_l_take hr (by omega) (by rfl) (pa_cons (pv 0) (pa_cons (pv 1) (pa_cons (pe_op op_add (pe_callB call_len_seq (by rfl) T.len PySem.boot_len (pa_cons (pv 4) pa_nil)) pe_int) pa_nil)))))
      (pss_cons (ps_dput hu (pv 2) pe_str (C8.pe_c c_l_content hr (by omega) (by rfl) (pa_cons (pe_slice sl_list (pv 4) po_none (po_some (pv 5))) pa_nil)) rfl)
      (pss_cons (ps_dput hu (pv 2) (pe_ix ix_list (pe_lst (pa_strs rfl)) (pe_op op_fdiv (C8.pe_c c_l_take hr (by omega) (by rfl) (pa_cons (pv 0) (pa_cons (pv 1) (pa_cons pe_int pa_nil)))) pe_int) (fun _ _ => rfl)) (C8.pe_c c_l_content hr (by omega) (by rfl) (pa_cons (pe_slice sl_list (pv 4) (po_some (pv 5)) po_none) pa_nil)) rfl)
      (pss_cons (ps_set (i := 6) sc_l_tree.nd rfl (.inl rfl) (pe_lst (pa_cons (pe_tup (pa_cons pe_str (pa_cons (C8.pe_c c_l_setting_rows hr (by omega) (by rfl) (pa_cons (pv 0) (pa_cons (pv 1) pa_nil))) pa_nil))) (pa_cons (pe_tup (pa_cons (pe_ix ix_list (pe_lst (pa_strs rfl)) (C8.pe_c c_l_take hr (by omega) (by rfl) (pa_cons (pv 0) (pa_cons (pv 1) (pa_cons pe_int pa_nil)))) (fun _ _ => rfl)) (pa_cons (C8.pe_c c_l_setting_rows hr (by omega) (by rfl) (pa_cons (pv 0) (pa_cons (pv 1) pa_nil))) pa_nil))) (pa_cons (pe_tup (pa_cons pe_str (pa_cons (C8.pe_c c_l_place_rows hr (by omega) (by rfl) (pa_cons (pv 0) (pa_cons (pv 1) pa_nil))) pa_nil))) pa_nil)))))
      (pss_cons (ps_set (i := 6) sc_l_tree.nd rfl (.inl rfl) (pe_op op_cat (pv 6) (pe_lst (pa_cons (pe_tup (pa_cons pe_str (pa_cons (C8.pe_c c_l_own_rows hr (by omega) (by rfl) (pa_cons (pv 0) (pa_cons (pv 1) pa_nil))) pa_nil))) (pa_cons (pe_tup (pa_cons pe_str (pa_cons (C8.pe_c c_l_goal_rows hr (by omega) (by rfl) (pa_cons (pv 0) (pa_cons (pv 1) pa_nil))) pa_nil))) pa_nil)))))
      (pss_cons (ps_for PassesOwn.never rfl (pi_list (pv 6)) (pg_name (i := 7) sc_l_tree.nd rfl (.inl rfl))
      (pss_one (ps_if (pt_cmpR op_gt (C8.pe_c c_l_take hr (by omega) (by rfl) (pa_cons (pv 0) (pa_cons (pv 1) (pa_cons pe_int pa_nil)))) pe_int (nomark _))
        (pss_one (ps_dput hu (pv 2) (pe_ix ix_tup (pv 7) pe_int (fun _ _ => rfl)) (C8.pe_c c_l_content hr (by omega) (by rfl) (pa_cons (pe_ix ix_tup (pv 7) pe_int (fun _ _ => rfl)) pa_nil)) rfl))
        pss_nil)))
      (pss_one (ps_ret (pe_callTy call_tuple_of (by rfl) T.tuple PyProof.Rows.boot_tuple (pa_cons (pe_lc (own := [("path", 3)]) (g := gName 3) (tt := tYes) rfl sc_l_tree.nd (pi_list (pe_callB (call_sortedD rfl) (by rfl) T.sorted (by decide +kernel) (pa_cons (pv 2) pa_nil))) (blkOk_by (N := ["row", "spot", "files", "path", "rows", "cut", "others", "pair", "k"]) (sc := defScope s_l_tree) (by decide +kernel)) (fun _ _ _ _ _ => (pg_name (i := 3) sc_l_tree.nd rfl (.inl rfl))) (fun _ _ _ _ _ => pts_nil) (fun _ _ _ _ _ => (pe_tup (pa_cons (pv 3) (pa_cons (pe_dget hu (pv 2) (pv 3) (fun _ _ => rfl)) pa_nil))))) pa_nil)))))))))))))), ?_⟩
    refine fun dd hdd => ?_
    have g0 := (Go.refl S.cell).new (o := .dK []) hdd
    refine ⟨_, rfl, _, rfl, a, b, ns, rfl, S.go g0, fun x1 H1 g1 hx1 => ⟨_, rfl, _, rfl, a, b, ns, rfl, S.go (g0.trans g1), fun x2 H2 g2 hx2 => ?_⟩⟩
    have g12 := (g0.trans g1).trans g2
    have hbd : b ≠ dd := fun z => by
      obtain ⟨i, _, q⟩ := S.cell
      rw [z, hdd] at q
      cases q
    have hd2 : H2 dd = some (.dK []) := (g1.trans g2).keep _ _ (Ne.symm hbd) upd_same
    refine ⟨hd2, [(Sum.inr "app/main", .str x1), (Sum.inr "doc/note", .str x2)], rfl, (by show 2 ≤ 15; decide), ?_⟩
    have em : mergeK [] [((Sum.inr "app/main" : Key), V.str x1), ((Sum.inr "doc/note" : Key), V.str x2)] = kvF (putF (putF [] "app/main" x1) "doc/note" x2) := by
      rw [← kvF_put', ← kvF_put']
      rfl
    rw [em]
    have F0 : FilesAt b H dd (putF (putF [] "app/main" x1) "doc/note" x2) (upd H2 dd (.dK (kvF (putF (putF [] "app/main" x1) "doc/note" x2)))) :=
      ⟨g12.mut hdd hbd, hdd, upd_same, (FOk.nil.put (by decide) (ct_mem hx1 (by decide +kernel))).put (by decide) (ct_mem hx2 (by decide +kernel))⟩
    have n0 : putF (putF [] "app/main" x1) "doc/note" x2 ≠ [] := putF_ne _ _ _
    generalize putF (putF [] "app/main" x1) "doc/note" x2 = fs0 at F0 n0 ⊢
    have F1 := F0
    generalize upd H2 dd (.dK (kvF fs0)) = H3 at F1 ⊢
    refine ⟨(by show 6 ≤ sizeLine; decide), fun l hl => ?_⟩
    have hld : l ≠ dd := fun z => by
      rw [z, F1.at_] at hl
      cases hl
    have F2 := F1.step ((Go.refl F1.go.cell).new (o := .lst ((["app/side", "app/sub/deep", "doc/more", "appx/z", "sets/a", "builds/a"] : List Str).map V.str)) hl)
    refine ⟨l, rfl, ⟨_, SqL.of upd_same⟩, for_list (K := K) (a := l) (xs := (["app/side", "app/sub/deep", "doc/more", "appx/z", "sets/a", "builds/a"] : List Str).map V.str)
        (fun j σ H1 => ∃ (fs : Fs) (k3 : Option V), σ = [some (.ref a), some (.ref b), some (.ref dd), k3, none, none, none, none, none] ∧ FilesAt b H dd fs H1 ∧ fs ≠ [] ∧ Strs H1 l ["app/side", "app/sub/deep", "doc/more", "appx/z", "sets/a", "builds/a"])
        ⟨fs0, _, rfl, F2, n0, upd_same⟩ (fun i σ H1 _ ⟨_, _, _, _, _, z⟩ => SqL.of z) ?_ ?_⟩
    · rintro j x σ H4 hj ⟨fs, k3, rfl, G, ne, hs⟩
      obtain ⟨v, hv, rfl⟩ := List.mem_map.mp (List.mem_of_getElem? hj)
      have hv : v ∈ allPaths := mem_sub (by decide) hv
      refine ⟨_, rfl, _, rfl, a, b, ns, 2, rfl, S.go G.go, by decide, fun d H5 g5 _ _ => ?_⟩
      have hs := hs.go G.go.cell g5
      have G := G.step g5
      refine ⟨rfl, _, rfl, ite2 (fun _ => ?_) (fun _ => ⟨_, _, rfl, G, ne, hs⟩)⟩
      refine ⟨_, rfl, _, rfl, a, b, ns, rfl, S.go G.go, fun x6 H6 g6 hx6 => ?_⟩
      have hs := hs.go G.go.cell g6
      have G := G.step g6
      exact ⟨_, rfl, _, rfl, dd, _, rfl, G.dput, _, _, rfl, G.put hv (ct_mem hx6 (by decide +kernel)), putF_ne _ _ _, by unfold Strs; rw [upd_ne hld]; exact hs⟩
    · rintro σ H4 ⟨fs, k3, rfl, G, ne, hs⟩
      refine ⟨_, rfl, _, rfl, _, rfl, _, rfl, a, b, ns, 5, rfl, S.go G.go, by decide, fun d H5 g5 d0 d1 => ?_⟩
      obtain ⟨d, rfl⟩ := Int.eq_ofNat_of_zero_le d0
      have G := G.step g5
      have e1 : [V.ref a, V.ref b, V.int (1 + (d : Int))] = [V.ref a, V.ref b, V.int ((1 + d : Nat) : Int)] := by rw [show ((1 + d : Nat) : Int) = 1 + (d : Int) by omega]
      refine ⟨_, _, rfl, rfl, a, b, ns, 1 + d, e1, S.go G.go, by omega, fun rp xs H6 R0 => ?_⟩
      have G := G.step R0.go
      have R := R0.at_
      have few := R0.few
      have sg := R0.sg
      clear R0
      refine ⟨_, rfl, rp, _, rfl, .inl (SqL.of R), _, _, rfl, rfl, _, rfl, (rng_of (by omega) (by rw [List.length_map]; omega)).1, (rng_of (by omega) (by rw [List.length_map]; omega)).2, fun D hD => ?_⟩
      have g7 := (Go.refl G.go.cell).new (o := .lst []) hD
      have hbD : b ≠ D := fun z => by
        obtain ⟨i, _, q⟩ := G.go.cell
        rw [z, hD] at q
        cases q
      have lc : ∀ m : Nat, (xs.take m).length ≤ 1000 := fun m => Nat.le_trans (List.length_take_le' _ _) (by omega)
      have sgt : ∀ m : Nat, ∀ x ∈ xs.take m, Sg 400 x := fun m x hx => sg x (List.mem_of_mem_take hx)
      have small : ∀ m : Nat, (contentOf (xs.take m)).length ≤ sizeLine := fun m => small_of (Nat.le_trans (content_ct (n := 8) (Nat.le_trans (List.length_take_le' _ _) few) (sgt m) (k := 3208) (by decide)).len (by decide))
      refine lc_range (n := ((((xs.map V.str).length : Int) + 1)).toNat) (fun i H7 => Go b H6 H7 ∧ ∃ vs : List V, H7 D = some (.lst vs) ∧ vs.length ≤ i ∧ (0 < i → ∃ (w : List V) (q : Addr) (m : Nat), vs = w ++ [.ref q] ∧ Strs H7 q (xs.take m) ∧ (contentOf (xs.take m)).length ≤ 1000 ∧ q ≠ D))
        ⟨g7, [], upd_same, Nat.le_refl _, fun h => absurd h (Nat.lt_irrefl _)⟩ ?_ ?_
      · rintro i H7 hi ⟨g, vs, e, hl, hv⟩
        have R7 := R.go G.go.cell g
        have hi' : i ≤ 8 := by
          rw [List.length_map] at hi
          omega
        refine ⟨rfl, _, rfl, _, rfl, _, rfl, rp, _, rfl, SqL.of R7, fun q1 hq1 => ?_⟩
        have e0 : (0 : Int) + (i : Int) = (i : Int) := Int.zero_add _
        rw [e0, cut_take]
        have g8 := g.new (o := .lst ((xs.take i).map V.str)) hq1
        refine ⟨q1, xs.take i, rfl, upd_same, lc i, sgt i, fun H8 s8 => ?_⟩
        have g9 := g8.trans (Go.same g8.cell s8)
        have nD : ∀ {q : Addr}, H7 q = none → D ≠ q := fun h z => by
          rw [← z, e] at h
          cases h
        have e8 : H8 D = some (.lst vs) := s8 _ _ (by rw [upd_ne (nD hq1)]; exact e)
        refine ⟨_, rfl, small i, _, _, rfl, rfl, _, rfl, ?_⟩
        have k8 : ∀ {q : Addr} {ys : List Str}, Strs H7 q ys → Strs H8 q ys := fun h => s8 _ _ (by rw [upd_ne (ne_of_none h hq1)]; exact h)
        refine ite2 (fun c => ?_) (fun c => ?_)
        · have R8 := k8 R7
          refine ⟨_, rfl, _, rfl, _, rfl, rp, _, rfl, SqL.of R8, fun q2 hq2 => ?_⟩
          rw [cut_take]
          have hDq : D ≠ q2 := fun z => by
            rw [← z, e8] at hq2
            cases hq2
          refine ⟨vs, by rw [upd_ne hDq]; exact e8, small_lt (by omega), (g9.new hq2).mut hD hbD, vs ++ [.ref q2], upd_same, by rw [List.length_append]; simp only [List.length_cons, List.length_nil]; omega, fun _ => ⟨vs, q2, i, rfl, by unfold Strs; rw [upd_ne (Ne.symm hDq)]; exact upd_same, ?_, Ne.symm hDq⟩⟩
          have := of_decide_eq_true c
          omega
        · refine ⟨g9, vs, e8, by omega, fun _ => ?_⟩
          by_cases hi0 : 0 < i
          · obtain ⟨w, q, m, ev, hq, hc, hn⟩ := hv hi0
            exact ⟨w, q, m, ev, k8 hq, hc, hn⟩
          · exfalso
            apply c
            have : i = 0 := by omega
            subst this
            rw [content_len, List.take_zero]
            decide
      · rintro H7 ⟨g, vs, e, hl, hv⟩
        obtain ⟨w, q, m, ev, hq, hc, hn⟩ := hv (by rw [List.length_map]; omega)
        subst ev
        refine ⟨_, rfl, D, _, _, _, rfl, rfl, SqL.of e, atI_last w _, ?_⟩
        have G := G.step g
        have few2 : (xs.take m).length ≤ 8 := Nat.le_trans (List.length_take_le' _ _) few
        have sg2 := sgt m
        clear hv lc sgt small few sg R
        generalize xs.take m = ys at hq hc few2 sg2
        refine ⟨_, rfl, _, rfl, _, rfl, q, _, rfl, .inl (SqL.of hq), _, _, rfl, rfl, a, b, ns, _, rfl, S.go G.go, by omega, fun cu H8 g8 c0 c1 => ?_⟩
        obtain ⟨cu, rfl⟩ := Int.eq_ofNat_of_zero_le c0
        have hq := hq.go G.go.cell g8
        have G := G.step g8
        have ct : Ct 1000 (contentOf (ys.take cu)) := ⟨Nat.le_trans (content_take ys cu) hc, content_all fun x hx => sg2 x (List.mem_of_mem_take hx)⟩
        have cd : Ct 1000 (contentOf (ys.drop cu)) := ⟨Nat.le_trans (content_drop ys cu) hc, content_all fun x hx => sg2 x (List.mem_of_mem_drop hx)⟩
        refine ⟨_, rfl, _, rfl, _, rfl, q, _, rfl, SqL.of hq, fun q1 hq1 => ?_⟩
        rw [cut_take]
        refine ⟨q1, ys.take cu, rfl, upd_same, Nat.le_trans (List.length_take_le' _ _) (by omega), fun x hx => sg2 x (List.mem_of_mem_take hx), fun H9 s9 => ?_⟩
        have g9 := (Go.refl G.go.cell).new (o := .lst ((ys.take cu).map V.str)) hq1
        have hq := (hq.go G.go.cell g9).go g9.cell (Go.same g9.cell s9)
        have G := (G.step g9).step (Go.same g9.cell s9)
        have hqd : q ≠ dd := fun z => by
          unfold Strs at hq
          rw [z, G.at_] at hq
          cases hq
        refine ⟨_, rfl, dd, _, rfl, G.dput, ?_⟩
        have G := G.put (p := "build/a") (by decide) ct
        have ne := putF_ne fs "build/a" (contentOf (ys.take cu))
        have hq : Strs (upd H9 dd (.dK (kvF (putF fs "build/a" (contentOf (ys.take cu)))))) q ys := by
          unfold Strs
          rw [upd_ne hqd]
          exact hq
        generalize putF fs "build/a" (contentOf (ys.take cu)) = fs at G ne hq ⊢
        generalize upd H9 dd (.dK (kvF fs)) = H10 at G hq ⊢
        refine ⟨_, rfl, _, rfl, _, rfl, q, _, rfl, SqL.of hq, fun q1 hq1 => ?_⟩
        rw [cut_drop]
        refine ⟨q1, ys.drop cu, rfl, upd_same, by rw [List.length_drop]; omega, fun x hx => sg2 x (List.mem_of_mem_drop hx), fun H11 s11 => ?_⟩
        have g11 := (Go.refl G.go.cell).new (o := .lst ((ys.drop cu).map V.str)) hq1
        have G := (G.step g11).step (Go.same g11.cell s11)
        refine ⟨_, rfl, (by show 2 ≤ sizeLine; decide), fun l hl => ⟨_, rfl, _, rfl, a, b, ns, 3, rfl, S.go (G.go.new hl), by decide, fun d H12 g12 d0 d1 => ?_⟩⟩
        obtain ⟨nm, hnm, enm⟩ := strs_at (xs := (["build/b", "build/lib/b"] : List Str)) (d := d / 2) (by omega) (by show d / 2 < 2; omega)
        have hs := strs_new G.go.cell hl g12
        have G := (G.step ((Go.refl G.go.cell).new hl)).step g12
        refine ⟨_, _, rfl, rfl, ⟨by decide, by decide⟩, l, _, d / 2, _, rfl, rfl, SqL.of hs, enm, dd, _, rfl, G.dput, ?_⟩
        have G := G.put (p := nm) (mem_sub (by decide) hnm) cd
        have ne := putF_ne fs nm (contentOf (ys.drop cu))
        clear hq hs g11 s11 g12 hnm enm
        generalize putF fs nm (contentOf (ys.drop cu)) = fs at G ne ⊢
        generalize upd H12 dd (.dK (kvF fs)) = H13 at G ⊢
        refine ⟨_, rfl, _, rfl, a, b, ns, rfl, S.go G.go, fun p1 y1 I1 R1 => ?_⟩
        have G := G.step R1.go
        refine ⟨(by show 2 ≤ sizeLine; decide), fun t1 ht1 => ?_⟩
        have O1 := Other.mk' (nm := "set/all") R1 ht1 (by decide) (by decide) (by decide) (by decide)
        have gn := (Go.refl G.go.cell).new (o := .tup [.str "set/all", .ref p1]) ht1
        have G := G.step gn
        clear gn
        generalize upd I1 t1 (.tup [.str "set/all", .ref p1]) = I2 at G O1 ⊢
        refine ⟨(by show 2 ≤ sizeLine; decide), fun l hl => ⟨_, rfl, _, rfl, a, b, ns, 2, rfl, S.go (G.go.new hl), by decide, fun d I3 g12 d0 d1 => ?_⟩⟩
        obtain ⟨nm, hnm, enm⟩ := strs_at (xs := (["set/b", "set/eu/west"] : List Str)) d0 d1
        have hs := strs_new G.go.cell hl g12
        have gn := (Go.refl G.go.cell).new (o := .lst ((["set/b", "set/eu/west"] : List Str).map V.str)) hl
        have O1 := (O1.go G.go.cell gn).go gn.cell g12
        have G := (G.step gn).step g12
        refine ⟨l, _, d, _, rfl, rfl, SqL.of hs, enm, _, rfl, _, rfl, a, b, ns, rfl, S.go G.go, fun p2 y2 I4 R2 => ?_⟩
        have O1 := O1.go G.go.cell R2.go
        have G := G.step R2.go
        refine ⟨(by show 2 ≤ sizeLine; decide), fun t2 ht2 => ?_⟩
        have O2 := Other.mk' (nm := nm) R2 ht2 (mem_sub (by decide) hnm) (by decide) (by decide) (by decide)
        have gm := (Go.refl G.go.cell).new (o := .tup [.str nm, .ref p2]) ht2
        have O1 := O1.go G.go.cell gm
        have G := G.step gm
        clear gn gm hs
        generalize upd I4 t2 (.tup [.str nm, .ref p2]) = I5 at G O1 O2 ⊢
        refine ⟨_, rfl, _, rfl, a, b, ns, rfl, S.go G.go, fun p3 y3 I6 R3 => ?_⟩
        have O1 := O1.go G.go.cell R3.go
        have O2 := O2.go G.go.cell R3.go
        have G := G.step R3.go
        refine ⟨(by show 2 ≤ sizeLine; decide), fun t3 ht3 => ?_⟩
        have O3 := Other.mk' (nm := "fleet/places") R3 ht3 (by decide) (by decide) (by decide) (by decide)
        have gm := (Go.refl G.go.cell).new (o := .tup [.str "fleet/places", .ref p3]) ht3
        have O1 := O1.go G.go.cell gm
        have O2 := O2.go G.go.cell gm
        have G := G.step gm
        clear gm
        generalize upd I6 t3 (.tup [.str "fleet/places", .ref p3]) = I7 at G O1 O2 O3 ⊢
        refine ⟨(by show 3 ≤ sizeLine; decide), fun q6 hq6 => ?_⟩
        have gm := (Go.refl G.go.cell).new (o := .lst [.ref t1, .ref t2, .ref t3]) hq6
        have O1 := O1.go G.go.cell gm
        have O2 := O2.go G.go.cell gm
        have O3 := O3.go G.go.cell gm
        have L6 : upd I7 q6 (.lst [.ref t1, .ref t2, .ref t3]) q6 = some (.lst [.ref t1, .ref t2, .ref t3]) := upd_same
        have hb6 : q6 ≠ b := fun z => by
          obtain ⟨i, _, q⟩ := G.go.cell
          rw [← z, hq6] at q
          cases q
        have G := G.step gm
        clear gm
        generalize upd I7 q6 (.lst [.ref t1, .ref t2, .ref t3]) = I8 at G O1 O2 O3 L6 ⊢
        -- two more
        refine ⟨_, rfl, _, rfl, _, rfl, a, b, ns, rfl, S.go G.go, fun p4 y4 I9 R4 => ?_⟩
        have O1 := O1.go G.go.cell R4.go
        have O2 := O2.go G.go.cell R4.go
        have O3 := O3.go G.go.cell R4.go
        have L6 := R4.go.keep _ _ hb6 L6
        have G := G.step R4.go
        refine ⟨(by show 2 ≤ sizeLine; decide), fun t4 ht4 => ?_⟩
        have O4 := Other.mk' (nm := "own/rules") R4 ht4 (by decide) (by decide) (by decide) (by decide)
        have gm := (Go.refl G.go.cell).new (o := .tup [.str "own/rules", .ref p4]) ht4
        have O1 := O1.go G.go.cell gm
        have O2 := O2.go G.go.cell gm
        have O3 := O3.go G.go.cell gm
        have L6 := gm.keep _ _ hb6 L6
        have G := G.step gm
        clear gm
        generalize upd I9 t4 (.tup [.str "own/rules", .ref p4]) = J1 at G O1 O2 O3 O4 L6 ⊢
        refine ⟨_, rfl, _, rfl, a, b, ns, rfl, S.go G.go, fun p5 y5 J2 R5 => ?_⟩
        have O1 := O1.go G.go.cell R5.go
        have O2 := O2.go G.go.cell R5.go
        have O3 := O3.go G.go.cell R5.go
        have O4 := O4.go G.go.cell R5.go
        have L6 := R5.go.keep _ _ hb6 L6
        have G := G.step R5.go
        refine ⟨(by show 2 ≤ sizeLine; decide), fun t5 ht5 => ?_⟩
        have O5 := Other.mk' (nm := "pack/goals") R5 ht5 (by decide) (by decide) (by decide) (by decide)
        have gm := (Go.refl G.go.cell).new (o := .tup [.str "pack/goals", .ref p5]) ht5
        have O1 := O1.go G.go.cell gm
        have O2 := O2.go G.go.cell gm
        have O3 := O3.go G.go.cell gm
        have O4 := O4.go G.go.cell gm
        have L6 := gm.keep _ _ hb6 L6
        have G := G.step gm
        clear gm
        generalize upd J2 t5 (.tup [.str "pack/goals", .ref p5]) = J3 at G O1 O2 O3 O4 O5 L6 ⊢
        refine ⟨(by show 2 ≤ sizeLine; decide), fun q7 hq7 => ?_⟩
        have gm := (Go.refl G.go.cell).new (o := .lst [.ref t4, .ref t5]) hq7
        have O1 := O1.go G.go.cell gm
        have O2 := O2.go G.go.cell gm
        have O3 := O3.go G.go.cell gm
        have O4 := O4.go G.go.cell gm
        have O5 := O5.go G.go.cell gm
        have L6 := gm.keep _ _ hb6 L6
        have G := G.step gm
        clear gm
        refine ⟨q6, q7, _, _, rfl, rfl, L6, upd_same, (by show 5 ≤ sizeLine; decide), fun q8 hq8 => ?_⟩
        have gm := (Go.refl G.go.cell).new (o := .lst ([.ref t1, .ref t2, .ref t3] ++ [.ref t4, .ref t5])) hq8
        have OA : ∀ v ∈ ([.ref t1, .ref t2, .ref t3] ++ [.ref t4, .ref t5] : List V), Other (upd (upd J3 q7 (.lst [.ref t4, .ref t5])) q8 (.lst ([.ref t1, .ref t2, .ref t3] ++ [.ref t4, .ref t5]))) v := by
          intro v hv
          simp only [List.cons_append, List.nil_append, List.mem_cons, List.not_mem_nil, or_false] at hv
          rcases hv with rfl | rfl | rfl | rfl | rfl
          · exact O1.go G.go.cell gm
          · exact O2.go G.go.cell gm
          · exact O3.go G.go.cell gm
          · exact O4.go G.go.cell gm
          · exact O5.go G.go.cell gm
        have L8 : upd (upd J3 q7 (.lst [.ref t4, .ref t5])) q8 (.lst ([.ref t1, .ref t2, .ref t3] ++ [.ref t4, .ref t5])) q8 = some (.lst ([.ref t1, .ref t2, .ref t3] ++ [.ref t4, .ref t5])) := upd_same
        have hb8 : q8 ≠ b := fun z => by
          obtain ⟨i, _, q⟩ := G.go.cell
          rw [← z, hq8] at q
          cases q
        have G := G.step gm
        clear gm O1 O2 O3 O4 O5 L6
        generalize upd (upd J3 q7 (.lst [.ref t4, .ref t5])) q8 (.lst ([.ref t1, .ref t2, .ref t3] ++ [.ref t4, .ref t5])) = J4 at G OA L8 ⊢
        generalize ([.ref t1, .ref t2, .ref t3] ++ [.ref t4, .ref t5] : List V) = os at OA L8 ⊢
        clear R1 R2 R3 R4 R5
        refine ⟨_, rfl, q8, rfl, ⟨_, SqL.of L8⟩, for_list (K := K) (a := q8) (xs := os)
            (fun j σ H1 => ∃ (fs : Fs) (k7 : Option V), σ = [some (.ref a), some (.ref b), some (.ref dd), k3, some (.ref q), some (.int (cu : Int)), some (.ref q8), k7, none] ∧ FilesAt b H dd fs H1 ∧ fs ≠ [] ∧ H1 q8 = some (.lst os) ∧ ∀ v ∈ os, Other H1 v)
            ⟨fs, _, rfl, G, ne, L8, OA⟩ (fun i σ H1 _ ⟨_, _, _, _, _, z, _⟩ => SqL.of z) ?_ ?_⟩
        · rintro j x σ H4 hj ⟨fs, k7, rfl, G, ne, L8, OA⟩
          have hx := List.mem_of_getElem? hj
          refine ⟨_, rfl, _, rfl, a, b, ns, 4, rfl, S.go G.go, by decide, fun d H5 g5 _ _ => ?_⟩
          have OA : ∀ v ∈ os, Other H5 v := fun v hv => (OA v hv).go G.go.cell g5
          have L8 := g5.keep _ _ hb8 L8
          have G := G.step g5
          refine ⟨_, _, rfl, rfl, _, rfl, ite2 (fun _ => ?_) (fun _ => ⟨_, _, rfl, G, ne, L8, OA⟩)⟩
          obtain ⟨t, nm, p, xs, O⟩ := OA x hx
          obtain rfl := O.v_
          refine ⟨_, rfl, t, _, 1, _, rfl, rfl, SqT.of O.tup, rfl, p, xs, rfl, O.rows, O.few, O.sg, fun H6 s6 => ?_⟩
          have g6 := Go.same G.go.cell s6
          have ht6 : H6 t = some (.tup [.str nm, .ref p]) := s6 _ _ O.tup
          have OA : ∀ v ∈ os, Other H6 v := fun v hv => (OA v hv).go G.go.cell g6
          have L8 := g6.keep _ _ hb8 L8
          have G := G.step g6
          have hq8d : q8 ≠ dd := fun z => by
            rw [z, G.at_] at L8
            cases L8
          exact ⟨_, rfl, _, rfl, t, _, 0, _, rfl, rfl, SqT.of ht6, rfl, dd, _, rfl, G.dput, _, _, rfl, G.put O.path O.ct, putF_ne _ _ _, by rw [upd_ne hq8d]; exact L8, fun v hv => (OA v hv).dict G.at_⟩
        · rintro σ H4 ⟨fs, k7, rfl, G, ne, _, _⟩
          have hl20 := G.ok.few
          refine ⟨_, rfl, dd, kvF fs, fs.map (·.1), rfl, .inl G.at_, kvF_keys' fs, by rw [List.length_map]; omega, fun ks p perm srt hp => ?_⟩
          have gp := (Go.refl G.go.cell).new (o := .lst (ks.map V.str)) hp
          have G := G.step gp
          have asc : Asc ks := asc_of srt (perm.nodup_iff.mpr G.ok.nd)
          have hks : ks.length ≤ 20 := by
            rw [perm.length_eq, List.length_map]
            exact hl20
          have hP : upd H4 p (.lst (ks.map V.str)) p = some (.lst (ks.map V.str)) := upd_same
          have hpb : p ≠ b := fun z => by
            obtain ⟨i, _, q⟩ := gp.cell
            rw [← z, upd_same] at q
            have q' := HO.lst.inj (Option.some.inj q)
            cases ks with
            | nil => cases q'
            | cons y r => cases (List.cons.inj q').1
          clear gp
          generalize upd H4 p (.lst (ks.map V.str)) = H5 at G hP ⊢
          refine ⟨p, rfl, ⟨_, SqL.of hP⟩, fun D hD => ?_⟩
          have hbD : b ≠ D := fun z => by
            obtain ⟨i, _, q⟩ := G.go.cell
            rw [z, hD] at q
            cases q
          refine lc_list (K := K) (a := p) (xs := ks.map V.str) (fun i H6 => Go b H5 H6 ∧ ∃ vs : List V, H6 D = some (.lst vs) ∧ vs.length = i ∧ Reps H6 ((sortF fs (ks.take i)).map pairD) vs)
            ⟨(Go.refl G.go.cell).new hD, [], upd_same, rfl, rfl⟩ (fun i H6 _ q => SqL.of (q.1.keep _ _ hpb hP)) ?_ ?_
          · rintro i x H6 hx ⟨g6, vs, e, hl, hr⟩
            rw [List.getElem?_map] at hx
            obtain ⟨k, hk, rfl⟩ := Option.map_eq_some_iff.mp hx
            have hi : i < ks.length := (List.getElem?_eq_some_iff.mp hk).1
            have hkm : k ∈ fs.map (·.1) := perm.mem_iff.mp (List.mem_of_getElem? hk)
            obtain ⟨c, hc⟩ := Option.isSome_iff_exists.mp (valF_isSome.mpr hkm)
            have G6 := G.step g6
            refine ⟨rfl, _, rfl, _, rfl, _, rfl, dd, _, rfl, G6.dget hc, (by show 2 ≤ sizeLine; decide), fun t ht => ?_⟩
            have htD : D ≠ t := fun z => by
              rw [← z, e] at ht
              cases ht
            refine ⟨vs, by rw [upd_ne htD]; exact e, small_lt (by omega), (g6.new ht).mut hD hbD, vs ++ [.ref t], upd_same, by rw [List.length_append]; simp only [List.length_cons, List.length_nil]; omega, ?_⟩
            have es : (sortF fs (ks.take (i + 1))).map pairD = (sortF fs (ks.take i)).map pairD ++ [pairD (k, c)] := by
              unfold sortF
              rw [List.take_add_one, hk, List.map_append, List.map_append]
              simp [hc]
            rw [es]
            have tk : Tk (upd H6 t (.tup [.str k, .str c])) (upd (upd H6 t (.tup [.str k, .str c])) D (.lst (vs ++ [.ref t]))) := Tk.lst (by rw [upd_ne htD]; exact e)
            exact Reps.snoc (Reps.keep tk (Reps.keep (Tk.new ht) hr)) (Rep.keep tk (pair_rep upd_same))
          · rintro H6 ⟨g6, vs, e, hl, hr⟩
            rw [List.length_map] at hl hr
            rw [List.take_length] at hr
            refine ⟨D, _, rfl, .inl ⟨SqL.of e, fun l hl2 => ?_⟩⟩
            refine kk (.ref l) (sortF fs ks) _ ((G.go.trans g6).new hl2) ⟨l, vs, rfl, .inl upd_same, small_of (by omega), Reps.keep (Tk.new hl2) hr⟩ (G.ok.sort perm) (by rw [sortF_keys]; exact asc) ?_
            intro h0
            have := congrArg (List.map (·.1)) h0
            rw [sortF_keys] at this
            rw [this] at perm
            exact ne (by simpa using perm.length_eq.symm)
end
end Kl

namespace Kl
open PySem L2 Kd
abbrev Es := List (Str × Option Str)
def encO : Option Str → V
  | none => .non
  | some c => .str c
structure EOk (es : Es) : Prop where
  nd : (es.map (·.1)).Nodup
  path : ∀ q ∈ es, q.1 ∈ allPaths
  ct : ∀ q ∈ es, ∀ c, q.2 = some c → Ct 1000 c
theorem EOk.few {es : Es} (h : EOk es) : es.length ≤ 20 := by
  have := nodup_le (ys := allPaths) h.nd fun p hp => by
    obtain ⟨q, hq, e⟩ := List.mem_map.mp hp
    rw [← e]
    exact h.path q hq
  rw [List.length_map] at this
  exact Nat.le_trans this (by decide)
theorem EOk.nil : EOk [] := ⟨List.nodup_nil, fun _ h => (nomatch h), fun _ h => (nomatch h)⟩
theorem EOk.put {es : Es} (h : EOk es) {p : Str} {o : Option Str} (hp : p ∈ allPaths) (hc : ∀ c, o = some c → Ct 1000 c) : EOk (putF es p o) := by
  refine ⟨putF_nodup h.nd, fun q hq => ?_, fun q hq => ?_⟩
  · rcases putF_mem hq with e | e
    · rw [e]
      exact hp
    · exact h.path q e
  · rcases putF_mem hq with e | e
    · rw [e]
      exact hc
    · exact h.ct q e
theorem EOk.sort {es : Es} (h : EOk es) {ks : List Str} (hk : ks.Perm (es.map (·.1))) : EOk (sortF es ks) := by
  have hv : ∀ q ∈ sortF es ks, q ∈ es := fun q hq => by
    obtain ⟨p, hp, e⟩ := List.mem_map.mp hq
    obtain ⟨c, hc⟩ := Option.isSome_iff_exists.mp (valF_isSome.mpr (hk.mem_iff.mp hp))
    rw [hc] at e
    rw [← e]
    exact valF_some hc
  exact ⟨by rw [sortF_keys]; exact hk.nodup_iff.mpr h.nd, fun q hq => h.path q (hv q hq), fun q hq => h.ct q (hv q hq)⟩
/-- a dict of changes at dd, made since H0 -/
structure EditsAt (b : Addr) (H0 : Hp) (dd : Addr) (es : Es) (H : Hp) : Prop where
  go : Go b H0 H
  new : H0 dd = none
  at_ : H dd = some (.dK (kvG encO es))
  ok : EOk es
theorem EditsAt.ne {b : Addr} {H0 H : Hp} {dd : Addr} {es : Es} (r : EditsAt b H0 dd es H) : b ≠ dd := fun z => by
  obtain ⟨i, _, q⟩ := r.go.cell
  rw [z, r.at_] at q
  cases q
theorem EditsAt.step {b : Addr} {H0 H H' : Hp} {dd : Addr} {es : Es} (r : EditsAt b H0 dd es H) (g : Go b H H') : EditsAt b H0 dd es H' :=
  ⟨r.go.trans g, r.new, g.keep _ _ (Ne.symm r.ne) r.at_, r.ok⟩
theorem EditsAt.put {b : Addr} {H0 H : Hp} {dd : Addr} {es : Es} (r : EditsAt b H0 dd es H) {p : Str} {o : Option Str} (hp : p ∈ allPaths) (hc : ∀ c, o = some c → Ct 1000 c) : EditsAt b H0 dd (putF es p o) (upd H dd (.dK (kvG encO (putF es p o)))) :=
  ⟨r.go.mut r.new r.ne, r.new, upd_same, r.ok.put hp hc⟩
theorem EditsAt.puts {b : Addr} {H0 H : Hp} {dd : Addr} {es : Es} (r : EditsAt b H0 dd es H) {p c : Str} (hp : p ∈ allPaths) (hc : Ct 1000 c) : EditsAt b H0 dd (putF es p (some c)) (upd H dd (.dK (kvG encO (putF es p (some c))))) :=
  r.put hp fun d e => by
    obtain rfl := Option.some.inj e
    exact hc
theorem EditsAt.dput {b : Addr} {H0 H : Hp} {dd : Addr} {es : Es} (r : EditsAt b H0 dd es H) {p : Str} (o : Option Str) : DPut H dd (.str p) (encO o) (upd H dd (.dK (kvG encO (putF es p o)))) := by
  rw [← kvF_put]
  refine DPut.k (k := Sum.inr p) r.at_ ?_
  unfold kvG
  rw [List.length_map]
  exact small_lt (by have := r.ok.few; omega)
theorem EditsAt.dget {b : Addr} {H0 H : Hp} {dd : Addr} {es : Es} (r : EditsAt b H0 dd es H) {p : Str} {o : Option Str} (h : valF es p = some o) : DGet H dd (.str p) (some (encO o)) := by
  have := DGet.k (k := Sum.inr p) r.at_
  rw [kvF_val, h] at this
  exact this
theorem pair_of {H : Hp} {q : Str × Str} {v : V} (h : Rep H (pairD q) v) : ∃ t, v = .ref t ∧ Rd H t (.tup [.str q.1, .str q.2]) := by
  obtain ⟨t, vs, rfl, ht, _, x, r, rfl, hx, y, r2, rfl, hy, hn⟩ := h
  cases (show r2 = [] from hn)
  cases (show x = V.str q.1 from hx)
  cases (show y = V.str q.2 from hy)
  exact ⟨t, rfl, ht⟩
def changeD : Str × Option Str → D
  | (p, none) => .tup [.str "drop", .str p]
  | (p, some c) => .tup [.str "put", .str p, .str c]
def editD (es : Es) : D := .tup (es.map changeD)
theorem drop_rep {H : Hp} {t : Addr} {p : Str} (h : H t = some (.tup [.str "drop", .str p])) : Rep H (changeD (p, none)) (.ref t) :=
  ⟨t, _, rfl, .inl h, by show 2 ≤ sizeLine; decide, .str "drop", [.str p], rfl, rfl, .str p, [], rfl, rfl, rfl⟩
theorem put_rep {H : Hp} {t : Addr} {p c : Str} (h : H t = some (.tup [.str "put", .str p, .str c])) : Rep H (changeD (p, some c)) (.ref t) :=
  ⟨t, _, rfl, .inl h, by show 3 ≤ sizeLine; decide, .str "put", [.str p, .str c], rfl, rfl, .str p, [.str c], rfl, rfl, .str c, [], rfl, rfl, rfl⟩
/-- a drawn edit -/
def spEdit (K : PySem.W.Frag) : Sp := fun vs H Q _ => ∃ (a b : Addr) (ns : List Int) (u : V) (fs : Fs), vs = [.ref a, .ref b, u] ∧ Sp0 K a b ns H ∧ Rep H (filesD fs) u ∧ FOk fs ∧ fs ≠ [] ∧
  ∀ (v : V) (es : Es) (H' : Hp), Go b H H' → Rep H' (editD es) v → EOk es → Asc (es.map (·.1)) → Q v H'
section
variable {P : Program} {w : World} {K : PySem.W.Frag} {mg : Str → Option Value} {base : Heap}
abbrev s_l_edit : Stmt := topS 69
theorem sc_l_edit : FnScope ["row", "spot", "files", "made", "k", "style", "path"] ["row", "spot", "files"] (defScope s_l_edit) := ⟨rfl, rfl, rfl, by decide +kernel, rfl, by decide +kernel, by decide +kernel⟩
theorem ok_edit {f : Addr} {fd : FuncData} (F : Fun K "_law_edit" "_law_edit" s_l_edit f fd) (T : Glo mg) (c_l_take : C8.Cal P w K mg base 2 "_law_take" (spTk K) []) (c_l_text : C8.Cal P w K mg base 3 "_law_text" (spText K) [])
    (c_l_expression : C8.Cal P w K mg base 6 "_law_expression" (spEx K 3) []) (c_l_content : C8.Cal P w K mg base 1 "_law_content" (spContent K) []) (c_l_setting_rows : C8.Cal P w K mg base 3 "_law_setting_rows" (spRows K 20 25) [])
    (c_l_place_rows : C8.Cal P w K mg base 3 "_law_place_rows" (spRows K 28 25) []) (c_l_own_rows : C8.Cal P w K mg base 3 "_law_own_rows" (spRows K 40 7) []) (c_l_goal_rows : C8.Cal P w K mg base 3 "_law_goal_rows" (spRows K 20 7) []) :
    FnOk P w K mg base CX0 7 f fd ["row", "spot", "files"] (spEdit K) := by
  refine F.ok sc_l_edit (fun vs H Q E h => ?_) (fun cdv A outer s H vs Q E hr h => ?_)
  · obtain ⟨a, b, ns, u, fs, rfl, _⟩ := h
    rfl
  · obtain ⟨a, b, ns, u, fs, rfl, S, hU, fok, fne, kk⟩ := h
    obtain ⟨vp, vs, rfl, hvp, hvl, hvs⟩ := hU
    have hlen := hvs.len
    rw [List.length_map] at hlen
    have hpos : 0 < vs.length := by
      rw [hlen]
      exact List.length_pos_iff.mpr fne
    have hu := hu_of hr
    refine ⟨_, (pss_cons (ps_set (i := 3) sc_l_edit.nd rfl (.inr rfl) pe_dnewK)
      (pss_cons (ps_for PassesOwn.never rfl (pi_range1 (by rfl) T.range (pa_cons (pe_op op_add pe_int (C8.pe_c c_l_take hr (by omega) (by rfl) (pa_cons (pv 0) (pa_cons (pv 1) (pa_cons (pe_ix ix_list (pe_lst (pa_cons pe_int (pa_cons pe_int (pa_cons pe_int (pa_cons pe_int pa_nil))))) (C8.pe_c c_l_take hr (by omega) (by rfl) (pa_cons (pv 0) (pa_cons (pv 1) (pa_cons pe_int pa_nil)))) (fun _ _ => rfl)) pa_nil))))) pa_nil)) (pg_name (i := 4) sc_l_edit.nd rfl (.inl rfl))
      (pss_cons (ps_set (i := 5) sc_l_edit.nd rfl (.inl rfl) (C8.pe_c c_l_take hr (by omega) (by rfl) (pa_cons (pv 0) (pa_cons (pv 1) (pa_cons pe_int pa_nil)))))
        (pss_cons (ps_set (i := 6) sc_l_edit.nd rfl (.inl rfl) (pe_ix ix_tup (pe_ifExp (pt_cmpR op_gt (pe_callB call_len_seq (by rfl) T.len PySem.boot_len (pa_cons (pv 2) pa_nil)) pe_int (nomark _)) (pe_ix ix_tup (pv 2) (C8.pe_c c_l_take hr (by omega) (by rfl) (pa_cons (pv 0) (pa_cons (pv 1) (pa_cons (pe_callB call_len_seq (by rfl) T.len PySem.boot_len (pa_cons (pv 2) pa_nil)) pa_nil)))) (fun _ _ => rfl)) (pe_tup (pa_strs rfl))) pe_int (fun _ _ => rfl)))
        (pss_one (ps_if (pt_cmpR op_lt (pv 5) pe_int (nomark _))
        (pss_one (ps_dput hu (pv 3) (pe_ix ix_list (pe_lst (pa_strs rfl)) (C8.pe_c c_l_take hr (by omega) (by rfl) (pa_cons (pv 0) (pa_cons (pv 1) (pa_cons pe_int pa_nil)))) (fun _ _ => rfl)) (C8.pe_c c_l_text hr (by omega) (by rfl) (pa_cons (pv 0) (pa_cons (pv 1) pa_nil))) rfl))
        (pss_one (ps_if (pt_cmpR op_eq (pv 5) pe_int (nomark _))
          (pss_one (ps_dput hu (pv 3) (pv 6) pe_non rfl))
          (pss_one (ps_if (pt_cmpR op_eq (pv 5) pe_int (nomark _))
            (pss_one (ps_dput hu (pv 3) pe_str (C8.pe_c c_l_content hr (by omega) (by rfl) (pa_cons (C8.pe_c c_l_setting_rows hr (by omega) (by rfl) (pa_cons (pv 0) (pa_cons (pv 1) pa_nil))) pa_nil)) rfl))
            (pss_one (ps_if (pt_cmpR op_eq (pv 5) pe_int (nomark _))
              (pss_one (ps_dput hu (pv 3) pe_str (C8.pe_c c_l_content hr (by omega) (by rfl) (pa_cons (C8.pe_c c_l_place_rows hr (by omega) (by rfl) (pa_cons (pv 0) (pa_cons (pv 1) pa_nil))) pa_nil)) rfl))
              (pss_one (ps_if (pt_cmpR op_eq (pv 5) pe_int (nomark _))
                (pss_one (ps_dput hu (pv 3) pe_str (C8.pe_c c_l_content hr (by omega) (by rfl) (pa_cons (C8.pe_c c_l_own_rows hr (by omega) (by rfl) (pa_cons (pv 0) (pa_cons (pv 1) pa_nil))) pa_nil)) rfl))
                (pss_one (ps_if (pt_cmpR op_eq (pv 5) pe_int (nomark _))
                  (pss_one (ps_dput hu (pv 3) pe_str (C8.pe_c c_l_content hr (by omega) (by rfl) (pa_cons (C8.pe_c c_l_goal_rows hr (by omega) (by rfl) (pa_cons (pv 0) (pa_cons (pv 1) pa_nil))) pa_nil)) rfl))
                  (pss_one (ps_if (pt_cmpR op_eq (pv 5) pe_int (nomark _))
                    (pss_one (ps_dput hu (pv 3) pe_str (pe_op op_add_str (pe_op op_add_str (pe_op op_add_str (pe_op op_add_str pe_str (pe_callTy call_str_int (by rfl) T.str (by decide +kernel) (pa_cons (C8.pe_c c_l_take hr (by omega) (by rfl) (pa_cons (pv 0) (pa_cons (pv 1) (pa_cons pe_int pa_nil)))) pa_nil))) pe_str) (pe_join pe_str (C8.pe_c c_l_expression hr (by omega) (by rfl) (pa_cons (pv 0) (pa_cons (pv 1) (pa_cons (pe_lst pa_nil) (pa_cons pe_int pa_nil))))))) pe_str) rfl))
                    (pss_one (ps_dput hu (pv 3) (pe_ix ix_list (pe_lst (pa_strs rfl)) (C8.pe_c c_l_take hr (by omega) (by rfl) (pa_cons (pv 0) (pa_cons (pv 1) (pa_cons pe_int pa_nil)))) (fun _ _ => rfl)) (pe_ix ix_list (pe_lst (pa_strs rfl)) (C8.pe_c c_l_take hr (by omega) (by rfl) (pa_cons (pv 0) (pa_cons (pv 1) (pa_cons pe_int pa_nil)))) (fun _ _ => rfl)) rfl)))))))))))))))))))
      (pss_one (ps_ret (pe_callTy call_tuple_of (by rfl) T.tuple PyProof.Rows.boot_tuple (pa_cons (pe_lc (own := [("path", 6)]) (g := gName 6) (tt := tYes) rfl sc_l_edit.nd (pi_list (pe_callB (call_sortedD rfl) (by rfl) T.sorted (by decide +kernel) (pa_cons (pv 3) pa_nil))) (blkOk_by (N := ["row", "spot", "files", "made", "k", "style", "path"]) (sc := defScope s_l_edit) (by decide +kernel)) (fun _ _ _ _ _ => (pg_name (i := 6) sc_l_edit.nd rfl (.inl rfl))) (fun _ _ _ _ _ => pts_nil) (fun _ _ _ _ _ => (pe_ifExp (pt_cmp (pc_isN (pe_dget hu (pv 3) (pv 6) (fun _ _ => rfl)))) (pe_tup (pa_cons pe_str (pa_cons (pv 6) pa_nil))) (pe_tup (pa_cons pe_str (pa_cons (pv 6) (pa_cons (pe_dget hu (pv 3) (pv 6) (fun _ _ => rfl)) pa_nil))))))) pa_nil)))))), ?_⟩
    refine fun dd hdd => ?_
    have G0 : EditsAt b H dd [] (upd H dd (.dK [])) := ⟨(Go.refl S.cell).new hdd, hdd, upd_same, EOk.nil⟩
    refine ⟨_, rfl, _, rfl, (by show 4 ≤ sizeLine; decide), fun l hl => ⟨_, rfl, _, rfl, a, b, ns, 4, rfl, S.go (G0.go.new hl), by decide, fun d H2 g2 h0 h1 => ?_⟩⟩
    have hd : ∃ m : Int, 0 < m ∧ m ≤ 8 ∧ atI [V.int 2, V.int 2, V.int 2, V.int 8] d = some (.int m) := by
      rcases (show d = 0 ∨ d = 1 ∨ d = 2 ∨ d = 3 by omega) with rfl | rfl | rfl | rfl
      · exact ⟨2, by decide, by decide, rfl⟩
      · exact ⟨2, by decide, by decide, rfl⟩
      · exact ⟨2, by decide, by decide, rfl⟩
      · exact ⟨8, by decide, by decide, rfl⟩
    obtain ⟨m, m0, m1, em⟩ := hd
    have gl := (Go.refl G0.go.cell).new (o := .lst [.int 2, .int 2, .int 2, .int 8]) hl
    have G2 := (G0.step gl).step g2
    have hl2 : H2 l = some (.lst [.int 2, .int 2, .int 2, .int 8]) := g2.keep _ _ (fun z => by
      obtain ⟨i, _, q⟩ := G0.go.cell
      rw [z, q] at hl
      cases hl) upd_same
    refine ⟨l, _, d, _, rfl, rfl, SqL.of hl2, em, a, b, ns, m, rfl, S.go G2.go, m0, fun n H3 g3 n0 n1 => ?_⟩
    have G3 := G2.step g3
    refine ⟨_, _, rfl, rfl, _, rfl, (rng_of (by omega) (by omega)).1, (rng_of (by omega) (by omega)).2, for_range (n := (1 + n).toNat) (fun j σ H1 => ∃ (es : Es) (k4 k5 k6 : Option V), σ = [some (.ref a), some (.ref b), some (.ref vp), some (.ref dd), k4, k5, k6] ∧ EditsAt b H dd es H1)
        ⟨[], _, _, _, rfl, G3⟩ ?_ ?_⟩
    · rintro j σ H4 hj ⟨es, k4, k5, k6, rfl, G⟩
      refine ⟨_, rfl, _, rfl, a, b, ns, 12, rfl, S.go G.go, by decide, fun st H5 g5 s0 s1 => ?_⟩
      have G := G.step g5
      have hv5 : Rd H5 vp (.tup vs) := G.go.tk S.cell _ _ hvp
      refine ⟨_, rfl, vp, _, rfl, .inr (.inl hv5), _, _, rfl, rfl, _, rfl, ite2 (fun _ => ?_) (fun c => absurd (decide_eq_true (show (0 : Int) < (vs.length : Int) by omega)) c)⟩
      refine ⟨_, rfl, _, rfl, _, rfl, _, rfl, vp, _, rfl, .inr (.inl hv5), a, b, ns, _, rfl, S.go G.go, by omega, fun d H6 g6 d0 d1 => ?_⟩
      have G := G.step g6
      have tk6 : Tk H H6 := G.go.tk S.cell
      obtain ⟨d, rfl⟩ := Int.eq_ofNat_of_zero_le d0
      have hd : d < fs.length := by omega
      obtain ⟨x, hx, hxr⟩ := hvs.get (i := d) (d := pairD (fs[d])) (by rw [List.getElem?_map, List.getElem?_eq_getElem hd]; rfl)
      obtain ⟨t, rfl, ht⟩ := pair_of (hxr.keep tk6)
      have hp : (fs[d]).1 ∈ allPaths := fok.path _ (List.getElem_mem hd)
      refine ⟨vp, _, d, _, rfl, rfl, .inl (tk6 _ _ hvp), atI_nat hx, t, _, 0, _, rfl, rfl, .inl ht, rfl, ?_⟩
      generalize (fs[d]).1 = path at hp ⊢
      have fin : ∀ {es' : Es} {k4' k5' k6' : Option V} {H' : Hp}, EditsAt b H dd es' H' → ∃ (es : Es) (k4 k5 k6 : Option V), [some (V.ref a), some (V.ref b), some (V.ref vp), some (V.ref dd), k4', k5', k6'] = [some (V.ref a), some (V.ref b), some (V.ref vp), some (V.ref dd), k4, k5, k6] ∧ EditsAt b H dd es H' := fun g => ⟨_, _, _, _, rfl, g⟩
      refine ⟨_, rfl, _, _, rfl, rfl, _, rfl, ite2 (fun _ => ?_) (fun _ => ?_)⟩
      · refine ⟨_, rfl, _, rfl, a, b, ns, rfl, S.go G.go, fun x H7 g7 hx7 => ?_⟩
        have G := G.step g7
        refine ⟨_, rfl, (by show 6 ≤ sizeLine; decide), fun l hl => ⟨_, rfl, _, rfl, a, b, ns, 6, rfl, S.go (G.go.new hl), by decide, fun d H8 g8 d0 d1 => ?_⟩⟩
        obtain ⟨nm, hnm, enm⟩ := strs_at (xs := (["app/main", "app/side", "doc/note", "app/sub/deep", "doc/new", "appx/z"] : List Str)) d0 d1
        have hs := strs_new G.go.cell hl g8
        have G := (G.step ((Go.refl G.go.cell).new hl)).step g8
        exact ⟨l, _, d, _, rfl, rfl, SqL.of hs, enm, dd, _, rfl, G.dput (some x), fin (G.puts (mem_sub (by decide) hnm) (ct_mem hx7 (by decide +kernel)))⟩
      refine ⟨_, rfl, rfl, _, rfl, ite2 (fun _ => ?_) (fun _ => ?_)⟩
      · exact ⟨_, rfl, _, rfl, dd, _, rfl, G.dput none, fin (G.put hp fun _ e => nomatch e)⟩
      refine ⟨_, rfl, rfl, _, rfl, ite2 (fun _ => ?_) (fun _ => ?_)⟩
      · refine ⟨_, rfl, _, rfl, a, b, ns, rfl, S.go G.go, fun p xs H7 R => ⟨p, xs, rfl, R.at_, Nat.le_trans R.few (by decide), fun x hx => (R.sg x hx).mono (by decide), fun H8 s8 => ?_⟩⟩
        have G := (G.step R.go).step (Go.same R.go.cell s8)
        exact ⟨_, rfl, dd, _, rfl, G.dput (some _), fin (G.puts (p := "set/all") (by decide) (content_ct R.few R.sg (by decide)))⟩
      refine ⟨_, rfl, rfl, _, rfl, ite2 (fun _ => ?_) (fun _ => ?_)⟩
      · refine ⟨_, rfl, _, rfl, a, b, ns, rfl, S.go G.go, fun p xs H7 R => ⟨p, xs, rfl, R.at_, Nat.le_trans R.few (by decide), fun x hx => (R.sg x hx).mono (by decide), fun H8 s8 => ?_⟩⟩
        have G := (G.step R.go).step (Go.same R.go.cell s8)
        exact ⟨_, rfl, dd, _, rfl, G.dput (some _), fin (G.puts (p := "fleet/places") (by decide) (content_ct R.few R.sg (by decide)))⟩
      refine ⟨_, rfl, rfl, _, rfl, ite2 (fun _ => ?_) (fun _ => ?_)⟩
      · refine ⟨_, rfl, _, rfl, a, b, ns, rfl, S.go G.go, fun p xs H7 R => ⟨p, xs, rfl, R.at_, Nat.le_trans R.few (by decide), fun x hx => (R.sg x hx).mono (by decide), fun H8 s8 => ?_⟩⟩
        have G := (G.step R.go).step (Go.same R.go.cell s8)
        exact ⟨_, rfl, dd, _, rfl, G.dput (some _), fin (G.puts (p := "own/rules") (by decide) (content_ct R.few R.sg (by decide)))⟩
      refine ⟨_, rfl, rfl, _, rfl, ite2 (fun _ => ?_) (fun _ => ?_)⟩
      · refine ⟨_, rfl, _, rfl, a, b, ns, rfl, S.go G.go, fun p xs H7 R => ⟨p, xs, rfl, R.at_, Nat.le_trans R.few (by decide), fun x hx => (R.sg x hx).mono (by decide), fun H8 s8 => ?_⟩⟩
        have G := (G.step R.go).step (Go.same R.go.cell s8)
        exact ⟨_, rfl, dd, _, rfl, G.dput (some _), fin (G.puts (p := "pack/goals") (by decide) (content_ct R.few R.sg (by decide)))⟩
      refine ⟨_, rfl, rfl, _, rfl, ite2 (fun _ => ?_) (fun _ => ?_)⟩
      · refine ⟨_, rfl, _, rfl, a, b, ns, 3, rfl, S.go G.go, by decide, fun d H7 g7 d0 d1 => ?_⟩
        have G := G.step g7
        obtain ⟨d, rfl⟩ := Int.eq_ofNat_of_zero_le d0
        have kn : Sg 2 (toString (d : Int)) := sg_num (by omega)
        have q1 := (sg_of (m := 8) (x := "target n") (by decide +kernel)).cat kn
        have q2 := q1.cat (sg_of (m := 3) (x := " = ") (by decide +kernel))
        refine ⟨_, rfl, log_small (by omega), _, _, rfl, rfl, (sg_of (m := 8) (by decide +kernel)).sz kn, _, _, rfl, rfl, q1.sz (sg_of (m := 3) (by decide +kernel)), ⟨_, rfl⟩, ?_⟩
        refine ⟨_, rfl, _, rfl, (by show 0 ≤ sizeLine; decide), fun q hq => ⟨a, b, q, ns, [], 2, rfl, S.go (G.go.new hq), upd_same, by decide, by decide, fun p xs H8 g8 _ hs he => ?_⟩⟩
        obtain ⟨hab, hsum⟩ := he.about fun _ h => nomatch h
        have G := (G.step ((Go.refl G.go.cell).new hq)).step g8
        have nl : ctB 1 "\n" = true := by decide +kernel
        have c1 := (q2.cat hab).ct.cat (ct_of nl)
        exact ⟨_, p, xs, rfl, rfl, .inl (SqL.of hs), hsum, _, _, rfl, rfl, q2.sz hab, _, _, rfl, rfl, small_of (by have := (q2.cat hab).len; have := (ct_of nl).len; omega), _, rfl, dd, _, rfl, G.dput (some _), fin (G.puts (p := "build/c") (by decide) (c1.mono (by decide)))⟩
      · refine ⟨(by show 4 ≤ sizeLine; decide), fun l hl => ⟨_, rfl, _, rfl, a, b, ns, 4, rfl, S.go (G.go.new hl), by decide, fun d H7 g7 d0 d1 => ?_⟩⟩
        obtain ⟨x, hx, ex⟩ := strs_at (xs := (["wrong line\n", "\nend\n", "need util 2 1\n", "x =\n"] : List Str)) d0 d1
        have hs1 := strs_new G.go.cell hl g7
        have G := (G.step ((Go.refl G.go.cell).new hl)).step g7
        refine ⟨l, _, d, _, rfl, rfl, SqL.of hs1, ex, _, rfl, (by show 5 ≤ sizeLine; decide), fun l2 hl2 => ⟨_, rfl, _, rfl, a, b, ns, 5, rfl, S.go (G.go.new hl2), by decide, fun d H8 g8 d0 d1 => ?_⟩⟩
        obtain ⟨nm, hnm, enm⟩ := strs_at (xs := (["set/all", "build/b", "own/rules", "fleet/places", "pack/goals"] : List Str)) d0 d1
        have hs2 := strs_new G.go.cell hl2 g8
        have G := (G.step ((Go.refl G.go.cell).new hl2)).step g8
        exact ⟨l2, _, d, _, rfl, rfl, SqL.of hs2, enm, dd, _, rfl, G.dput (some x), fin (G.puts (mem_sub (by decide) hnm) (ct_mem hx (by decide +kernel)))⟩
    · rintro σ H4 ⟨fs, k4, k5, k6, rfl, G⟩
      have hl20 := G.ok.few
      refine ⟨_, rfl, dd, kvG encO fs, fs.map (·.1), rfl, .inl G.at_, kvF_keys encO fs, by rw [List.length_map]; omega, fun ks p perm srt hp => ?_⟩
      have gp := (Go.refl G.go.cell).new (o := .lst (ks.map V.str)) hp
      have G := G.step gp
      have asc : Asc ks := asc_of srt (perm.nodup_iff.mpr G.ok.nd)
      have hks : ks.length ≤ 20 := by
        rw [perm.length_eq, List.length_map]
        exact hl20
      have hP : upd H4 p (.lst (ks.map V.str)) p = some (.lst (ks.map V.str)) := upd_same
      have hpb : p ≠ b := fun z => by
        obtain ⟨i, _, q⟩ := gp.cell
        rw [← z, upd_same] at q
        have q' := HO.lst.inj (Option.some.inj q)
        cases ks with
        | nil => cases q'
        | cons y r => cases (List.cons.inj q').1
      clear gp
      generalize upd H4 p (.lst (ks.map V.str)) = H5 at G hP ⊢
      refine ⟨p, rfl, ⟨_, SqL.of hP⟩, fun D hD => ?_⟩
      have hbD : b ≠ D := fun z => by
        obtain ⟨i, _, q⟩ := G.go.cell
        rw [z, hD] at q
        cases q
      refine lc_list (K := K) (a := p) (xs := ks.map V.str) (fun i H6 => Go b H5 H6 ∧ ∃ vs : List V, H6 D = some (.lst vs) ∧ vs.length = i ∧ Reps H6 ((sortF fs (ks.take i)).map changeD) vs)
        ⟨(Go.refl G.go.cell).new hD, [], upd_same, rfl, rfl⟩ (fun i H6 _ q => SqL.of (q.1.keep _ _ hpb hP)) ?_ ?_
      · rintro i x H6 hx ⟨g6, vs, e, hl, hr⟩
        rw [List.getElem?_map] at hx
        obtain ⟨k, hk, rfl⟩ := Option.map_eq_some_iff.mp hx
        have hi : i < ks.length := (List.getElem?_eq_some_iff.mp hk).1
        have hkm : k ∈ fs.map (·.1) := perm.mem_iff.mp (List.mem_of_getElem? hk)
        obtain ⟨c, hc⟩ := Option.isSome_iff_exists.mp (valF_isSome.mpr hkm)
        have G6 := G.step g6
        have es : (sortF fs (ks.take (i + 1))).map changeD = (sortF fs (ks.take i)).map changeD ++ [changeD (k, c)] := by
          unfold sortF
          rw [List.take_add_one, hk, List.map_append, List.map_append]
          simp [hc]
        have nx : ∀ {t : Addr} {xs : List V}, H6 t = none → Rep (upd H6 t (.tup xs)) (changeD (k, c)) (.ref t) → ∃ acc, upd H6 t (.tup xs) D = some (.lst acc) ∧ acc.length < sizeLine ∧ Go b H5 (upd (upd H6 t (.tup xs)) D (.lst (acc ++ [.ref t]))) ∧ ∃ vs : List V, upd (upd H6 t (.tup xs)) D (.lst (acc ++ [.ref t])) D = some (.lst vs) ∧ vs.length = i + 1 ∧ Reps (upd (upd H6 t (.tup xs)) D (.lst (acc ++ [.ref t]))) ((sortF fs (ks.take (i + 1))).map changeD) vs := by
          intro t xs ht hrep
          have htD : D ≠ t := fun z => by
            rw [← z, e] at ht
            cases ht
          refine ⟨vs, by rw [upd_ne htD]; exact e, small_lt (by omega), (g6.new ht).mut hD hbD, vs ++ [.ref t], upd_same, by rw [List.length_append]; simp only [List.length_cons, List.length_nil]; omega, ?_⟩
          rw [es]
          have tk : Tk (upd H6 t (.tup xs)) (upd (upd H6 t (.tup xs)) D (.lst (vs ++ [.ref t]))) := Tk.lst (by rw [upd_ne htD]; exact e)
          exact Reps.snoc (Reps.keep tk (Reps.keep (Tk.new ht) hr)) (Rep.keep tk hrep)
        have dg := G6.dget hc
        cases c with
        | none =>
          refine ⟨rfl, _, rfl, _, rfl, dd, _, rfl, dg, _, rfl, ite2 (fun _ => ?_) (fun c => absurd rfl c)⟩
          exact ⟨_, rfl, (by show 2 ≤ sizeLine; decide), fun t ht => nx ht (drop_rep upd_same)⟩
        | some c =>
          refine ⟨rfl, _, rfl, _, rfl, dd, _, rfl, dg, _, rfl, ite2 (fun z => by cases (show V.str c = V.non from of_decide_eq_true z)) (fun _ => ?_)⟩
          exact ⟨_, rfl, _, rfl, _, rfl, dd, _, rfl, dg, (by show 3 ≤ sizeLine; decide), fun t ht => nx ht (put_rep upd_same)⟩
      · rintro H6 ⟨g6, vs, e, hl, hr⟩
        rw [List.length_map] at hl hr
        rw [List.take_length] at hr
        refine ⟨D, _, rfl, .inl ⟨SqL.of e, fun l hl2 => ?_⟩⟩
        exact kk (.ref l) (sortF fs ks) _ ((G.go.trans g6).new hl2) ⟨l, vs, rfl, .inl upd_same, small_of (by omega), Reps.keep (Tk.new hl2) hr⟩ (G.ok.sort perm) (by rw [sortF_keys]; exact asc)
end
end Kl

namespace Kl
open PySem L2 Kd
/-! dicts of files, and back -/
abbrev PairAt (K : PySem.W.Frag) (H : Hp) : Addr → Key × V → Prop := fun p kv => SqT K H p [kV kv.1, kv.2]
theorem SqT.same {K : PySem.W.Frag} {H H' : Hp} {p : Addr} {xs : List V} (s : Same H H') (h : SqT K H p xs) : SqT K H' p xs := by
  rcases h with (h | ⟨o, h⟩) | h
  · exact .inl (.inl (s _ _ h))
  · exact .inl (.inr ⟨o, s _ _ h⟩)
  · exact .inr h
theorem Same.tk {H H' : Hp} (s : Same H H') : Tk H H' := Tk.same s
theorem map_take_succ {α β : Type} (f : α → β) {l : List α} {i : Nat} {x : α} (h : l[i]? = some x) : (l.take (i + 1)).map f = (l.take i).map f ++ [f x] := by
  rw [List.take_add_one, h, List.map_append]
  rfl
/-- [(one[0], ..) for one in files]: a list of pairs -/
theorem lc_pairs {K : PySem.W.Frag} {j : Nat} {t2 : TE} {σ : L2.St} {H1 : Hp} {D : Addr} {Qd : Hp → Prop} {a : Addr} {vs : List V} {fs : Fs} {enc : Str → V}
    (hw : ∀ x, wipe ((wipe σ [j]).set j (some x)) [j] = wipe σ [j]) (hj : ∀ x, ((wipe σ [j]).set j (some x))[j]? = some (some x)) (ha : SqT K H1 a vs) (hr : Reps H1 (fs.map pairD) vs) (hl : fs.length ≤ 1000) (hD : H1 D = none)
    (h2 : ∀ (q : Str × Str) (t : Addr) (H2 : Hp) (Qv : VK), Rd H2 t (.tup [.str q.1, .str q.2]) → Qv (enc q.2) H2 → t2 ((wipe σ [j]).set j (some (.ref t))) H2 Qv)
    (hd : ∀ (H2 : Hp) (ps : List Addr), Same H1 H2 → H2 D = some (.lst (ps.map V.ref)) → Paired (PairAt K H2) ps (kvG enc fs) → Qd H2) :
    ∃ W : Nat → Nat → Hp → Prop, (∃ m, W 0 m (upd H1 D (.lst []))) ∧ ∀ i m H, W i m H →
      ((Itt K a).stop i H ∧ Qd H) ∨ ((Itt K a).go i H ∧ ∃ Nx : Hp → Prop, (∀ H', Nx H' → ∃ m', m' < m ∧ W (i + 1) m' H') ∧ ∀ x H', (Itt K a).yld i H x H' → gName j x (wipe σ [j]) H' fun σ2 H2 => wipe σ2 [j] = wipe σ [j] ∧ tYes σ2 H2 fun b H3 =>
        if b = true then (tTup (tCons (tOp (rIxT K) (tVar j) (tC (.int 0))) (tCons t2 tNil))) σ2 H3 fun y H4 => ∃ acc, H4 D = some (.lst acc) ∧ acc.length < sizeLine ∧ Nx (upd H4 D (.lst (acc ++ [y]))) else Nx H3) := by
  have hlen := hr.len
  rw [List.length_map] at hlen
  refine lc_tup (K := K) (a := a) (xs := vs) (fun i H => Same H1 H ∧ ∃ ps : List Addr, H D = some (.lst (ps.map V.ref)) ∧ ps.length = i ∧ Paired (PairAt K H) ps (kvG enc (fs.take i)))
    ⟨Same.new hD, [], upd_same, rfl, .nil⟩ (fun i H _ p => SqT.same p.1 ha) ?_ ?_
  · rintro i x H hx ⟨s, ps, e, hi, pr⟩
    have hil : i < fs.length := by
      have := (List.getElem?_eq_some_iff.mp hx).1
      omega
    have hq : fs[i]? = some fs[i] := List.getElem?_eq_getElem hil
    obtain ⟨v, hv, hrep⟩ := hr.get (i := i) (d := pairD fs[i]) (by rw [List.getElem?_map, hq]; rfl)
    obtain rfl : v = x := Option.some.inj (hv.symm.trans hx)
    obtain ⟨t, rfl, ht⟩ := pair_of (hrep.keep (Same.tk s))
    refine ⟨hw _, _, hj _, t, _, 0, _, rfl, rfl, .inl ht, rfl, h2 fs[i] t H _ ht ⟨(by show 2 ≤ sizeLine; decide), fun p hp => ?_⟩⟩
    have hDp : D ≠ p := fun z => by
      rw [← z, e] at hp
      cases hp
    refine ⟨ps.map V.ref, by rw [upd_ne hDp]; exact e, by rw [List.length_map]; exact small_lt (by omega), Same.mut (fun b o z => by rw [upd_ne (ne_of_none (s b o z) hp)]; exact s b o z) hD, ps ++ [p], by rw [upd_same, List.map_append]; rfl, by rw [List.length_append]; simp only [List.length_cons, List.length_nil]; omega, ?_⟩
    have en : kvG enc (fs.take (i + 1)) = kvG enc (fs.take i) ++ [(Sum.inr fs[i].1, enc fs[i].2)] := map_take_succ _ hq
    rw [en]
    have keep : ∀ (a : Addr) (kv : Key × V), PairAt K H a kv → PairAt K (upd (upd H p (.tup [.str fs[i].1, enc fs[i].2])) D (.lst (ps.map V.ref ++ [.ref p]))) a kv := fun a kv h => by
      rcases h with (h | ⟨o, h⟩) | h
      · refine .inl (.inl ?_)
        rw [upd_ne (ne_of h e (fun z => nomatch z)), upd_ne (ne_of_none h hp)]
        exact h
      · refine .inl (.inr ⟨o, ?_⟩)
        rw [upd_ne (ne_of h e (fun z => nomatch z)), upd_ne (ne_of_none h hp)]
        exact h
      · exact .inr h
    exact Paired.snoc (Paired.mono keep pr) (SqT.of (by rw [upd_ne (Ne.symm hDp)]; exact upd_same))
  · rintro H ⟨s, ps, e, hi, pr⟩
    rw [hlen, List.take_length] at pr
    exact hd H ps s e pr
/-- [(path, files[path]) for path in sorted(files)]: rising pairs -/
theorem lc_sorted {K : PySem.W.Frag} {i0 j : Nat} {σ : L2.St} {H1 : Hp} {D p dd : Addr} {Qd : Hp → Prop} {ks : List Str} {fs : Fs}
    (hw : ∀ x, wipe ((wipe σ [j]).set j (some x)) [j] = wipe σ [j]) (hj : ∀ x, ((wipe σ [j]).set j (some x))[j]? = some (some x)) (hi0 : ∀ x, ((wipe σ [j]).set j (some x))[i0]? = some (some (.ref dd)))
    (hp : H1 p = some (.lst (ks.map V.str))) (hdd : H1 dd = some (.dK (kvF fs))) (perm : ks.Perm (fs.map (·.1))) (hl : ks.length ≤ 1000) (hD : H1 D = none)
    (hd : ∀ (H2 : Hp) (vs : List V), Same H1 H2 → H2 D = some (.lst vs) → vs.length = ks.length → Reps H2 ((sortF fs ks).map pairD) vs → Qd H2) :
    ∃ W : Nat → Nat → Hp → Prop, (∃ m, W 0 m (upd H1 D (.lst []))) ∧ ∀ i m H, W i m H →
      ((Itl K p).stop i H ∧ Qd H) ∨ ((Itl K p).go i H ∧ ∃ Nx : Hp → Prop, (∀ H', Nx H' → ∃ m', m' < m ∧ W (i + 1) m' H') ∧ ∀ x H', (Itl K p).yld i H x H' → gName j x (wipe σ [j]) H' fun σ2 H2 => wipe σ2 [j] = wipe σ [j] ∧ tYes σ2 H2 fun b H3 =>
        if b = true then (tTup (tCons (tVar j) (tCons (tDGet (tVar i0) (tVar j)) tNil))) σ2 H3 fun y H4 => ∃ acc, H4 D = some (.lst acc) ∧ acc.length < sizeLine ∧ Nx (upd H4 D (.lst (acc ++ [y]))) else Nx H3) := by
  refine lc_list (K := K) (a := p) (xs := ks.map V.str) (fun i H => Same H1 H ∧ ∃ vs : List V, H D = some (.lst vs) ∧ vs.length = i ∧ Reps H ((sortF fs (ks.take i)).map pairD) vs)
    ⟨Same.new hD, [], upd_same, rfl, rfl⟩ (fun i H _ q => SqL.of (q.1 _ _ hp)) ?_ ?_
  · rintro i x H hx ⟨s, vs, e, hi, hr⟩
    rw [List.getElem?_map] at hx
    obtain ⟨k, hk, rfl⟩ := Option.map_eq_some_iff.mp hx
    have hil : i < ks.length := (List.getElem?_eq_some_iff.mp hk).1
    have hkm : k ∈ fs.map (·.1) := perm.mem_iff.mp (List.mem_of_getElem? hk)
    obtain ⟨c, hc⟩ := Option.isSome_iff_exists.mp (valF_isSome.mpr hkm)
    have dg : DGet H dd (.str k) (some (.str c)) := by
      have := DGet.k (k := Sum.inr k) (s _ _ hdd)
      rw [kvF_val', hc] at this
      exact this
    refine ⟨hw _, _, hj _, _, hi0 _, _, hj _, dd, _, rfl, dg, (by show 2 ≤ sizeLine; decide), fun t ht => ?_⟩
    have htD : D ≠ t := fun z => by
      rw [← z, e] at ht
      cases ht
    refine ⟨vs, by rw [upd_ne htD]; exact e, small_lt (by omega), Same.mut (fun b o z => by rw [upd_ne (ne_of_none (s b o z) ht)]; exact s b o z) hD, vs ++ [.ref t], upd_same, by rw [List.length_append]; simp only [List.length_cons, List.length_nil]; omega, ?_⟩
    have es : (sortF fs (ks.take (i + 1))).map pairD = (sortF fs (ks.take i)).map pairD ++ [pairD (k, c)] := by
      unfold sortF
      rw [List.take_add_one, hk, List.map_append, List.map_append]
      simp [hc]
    rw [es]
    have tk : Tk (upd H t (.tup [.str k, .str c])) (upd (upd H t (.tup [.str k, .str c])) D (.lst (vs ++ [.ref t]))) := Tk.lst (by rw [upd_ne htD]; exact e)
    exact Reps.snoc (Reps.keep tk (Reps.keep (Tk.new ht) hr)) (Rep.keep tk (pair_rep upd_same))
  · rintro H ⟨s, vs, e, hi, hr⟩
    rw [List.length_map] at hi hr
    rw [List.take_length] at hr
    exact hd H vs s e hi hr
/-- pairs of different paths, one by one -/
theorem merge_new {α : Type} (f : α → V) : ∀ (gs fs : List (Str × α)), ((fs ++ gs).map (·.1)).Nodup → mergeK (kvG f fs) (kvG f gs) = kvG f (fs ++ gs)
  | [], fs, _ => by rw [List.append_nil]; rfl
  | q :: r, fs, nd => by
    have hn : valV (kvG f fs) (Sum.inr q.1) = none := by
      rw [kvF_val]
      cases e : valF fs q.1 with
      | none => rfl
      | some c =>
        have h1 : q.1 ∈ fs.map (·.1) := valF_isSome.mp (by rw [e]; rfl)
        rw [List.map_append, List.map_cons, List.nodup_append] at nd
        exact absurd rfl (nd.2.2 _ h1 _ (List.mem_cons_self ..))
    have ih := merge_new f r (fs ++ [q]) (by rw [List.append_assoc]; exact nd)
    rw [List.append_assoc] at ih
    rw [← show fs ++ [q] ++ r = fs ++ q :: r by simp, List.append_assoc] 
    refine Eq.trans ?_ ih
    show mergeK (putK (kvG f fs) (Sum.inr q.1) (f q.2)) (kvG f r) = _
    rw [putK_new (f q.2) hn]
    unfold kvG
    rw [List.map_append]
    rfl
theorem merge_all {α : Type} (f : α → V) {fs : List (Str × α)} (nd : (fs.map (·.1)).Nodup) : mergeK [] (kvG f fs) = kvG f fs := merge_new f fs [] nd
end Kl

namespace Kl
open PySem L2 Kd
/-- the files after a change, after all -/
def stepE (fs : Fs) : Str × Option Str → Fs
  | (p, none) => dropF fs p
  | (p, some c) => putF fs p c
def applyE (fs : Fs) (es : Es) : Fs := es.foldl stepE fs
theorem FOk.stepE {fs : Fs} (h : FOk fs) {q : Str × Option Str} (hp : q.1 ∈ allPaths) (hc : ∀ c, q.2 = some c → Ct 1000 c) : FOk (stepE fs q) := by
  obtain ⟨p, o⟩ := q
  cases o with
  | none => exact h.drop
  | some c => exact h.put hp (hc c rfl)
theorem FOk.applyE : ∀ {es : Es} {fs : Fs}, FOk fs → EOk es → FOk (applyE fs es)
  | [], fs, h, _ => h
  | q :: r, fs, h, e => FOk.applyE (es := r) (h.stepE (e.path q (List.mem_cons_self ..)) (e.ct q (List.mem_cons_self ..)))
      ⟨(List.nodup_cons.mp e.nd).2, fun z hz => e.path z (List.mem_cons_of_mem _ hz), fun z hz => e.ct z (List.mem_cons_of_mem _ hz)⟩
theorem dropF_none {α : Type} {fs : List (Str × α)} {p : Str} (h : valF fs p = none) : dropF fs p = fs := by
  refine List.filter_eq_self.mpr fun q hq => decide_eq_true fun e => valF_none h (List.mem_map.mpr ⟨q, hq, e⟩)
theorem EOk.take {es : Es} (h : EOk es) (i : Nat) : EOk (es.take i) :=
  ⟨by rw [List.map_take]; exact (List.take_sublist _ _).nodup h.nd, fun q hq => h.path q (List.mem_of_mem_take hq), fun q hq => h.ct q (List.mem_of_mem_take hq)⟩
theorem change_of {H : Hp} {q : Str × Option Str} {v : V} (h : Rep H (changeD q) v) : ∃ t, v = .ref t ∧ match q with
    | (p, none) => Rd H t (.tup [.str "drop", .str p])
    | (p, some c) => Rd H t (.tup [.str "put", .str p, .str c]) := by
  obtain ⟨p, o⟩ := q
  cases o with
  | none =>
    obtain ⟨t, vs, rfl, ht, _, x, r, rfl, hx, y, r2, rfl, hy, hn⟩ := h
    cases (show r2 = [] from hn)
    cases (show x = V.str "drop" from hx)
    cases (show y = V.str p from hy)
    exact ⟨t, rfl, ht⟩
  | some c =>
    obtain ⟨t, vs, rfl, ht, _, x, r, rfl, hx, y, r2, rfl, hy, z, r3, rfl, hz, hn⟩ := h
    cases (show r3 = [] from hn)
    cases (show x = V.str "put" from hx)
    cases (show y = V.str p from hy)
    cases (show z = V.str c from hz)
    exact ⟨t, rfl, ht⟩
/-- a dict of files at dd, made since H0; all else stands -/
structure NewF (H0 : Hp) (dd : Addr) (fs : Fs) (H : Hp) : Prop where
  same : Same H0 H
  new : H0 dd = none
  at_ : H dd = some (.dK (kvF fs))
  ok : FOk fs
theorem NewF.put {H0 H : Hp} {dd : Addr} {fs gs : Fs} (r : NewF H0 dd fs H) (h : FOk gs) : NewF H0 dd gs (upd H dd (.dK (kvF gs))) :=
  ⟨Same.mut r.same r.new, r.new, upd_same, h⟩
theorem NewF.room {H0 H : Hp} {dd : Addr} {fs : Fs} (r : NewF H0 dd fs H) : (kvF fs).length < sizeLine := by
  unfold kvF kvG
  rw [List.length_map]
  exact small_lt (by have := r.ok.few; omega)
theorem NewF.dput {H0 H : Hp} {dd : Addr} {fs : Fs} (r : NewF H0 dd fs H) {p c : Str} : DPut H dd (.str p) (.str c) (upd H dd (.dK (kvF (putF fs p c)))) := by
  rw [← kvF_put']
  exact DPut.k (k := Sum.inr p) r.at_ r.room
/-- an edit told -/
def spEdited (_ : PySem.W.Frag) : Sp := fun vs H Q _ => ∃ (u v : V) (fs : Fs) (es : Es), vs = [u, v] ∧ Rep H (filesD fs) u ∧ FOk fs ∧ Rep H (editD es) v ∧ EOk es ∧
  ∀ (x : V) (gs : Fs) (H' : Hp), Same H H' → Rep H' (filesD gs) x → FOk gs → Asc (gs.map (·.1)) → (∀ p, valF gs p = valF (applyE fs es) p) → Q x H'
section
variable {P : Program} {w : World} {K : PySem.W.Frag} {mg : Str → Option Value} {base : Heap}
abbrev s_l_edited : Stmt := topS 70
theorem sc_l_edited : FnScope ["files", "edit", "one", "known", "path"] ["files", "edit"] (defScope s_l_edited) := ⟨rfl, rfl, rfl, by decide +kernel, rfl, by decide +kernel, by decide +kernel⟩
theorem ok_edited {f : Addr} {fd : FuncData} (F : Fun K "_law_edited" "_law_edited" s_l_edited f fd) (T : Glo mg) : FnOk P w K mg base CX0 1 f fd ["files", "edit"] (spEdited K) := by
  refine F.ok sc_l_edited (fun vs H Q E h => ?_) (fun cdv A outer s H vs Q E hr h => ?_)
  · obtain ⟨u, v, fs, es, rfl, _⟩ := h
    rfl
  · obtain ⟨u, v, fs, es, rfl, hU, fok, hV, eok, kk⟩ := h
    obtain ⟨up, us, rfl, hup, _, hus⟩ := hU
    obtain ⟨vp, vs, rfl, hvp, _, hvs⟩ := hV
    have hu := hu_of hr
    refine ⟨_, (pss_cons (ps_set (i := 3) sc_l_edited.nd rfl (.inr rfl) (pe_callTy (call_dictP rfl) (by rfl) T.dict (by decide +kernel) (pa_cons (pe_lc (own := [("one", 2)]) (g := gName 2) (tt := tYes) rfl sc_l_edited.nd (pi_tup (pv 0)) (blkOk_by (N := ["files", "edit", "one", "known", "path"]) (sc := defScope s_l_edited) (by decide +kernel)) (fun _ _ _ _ _ => (pg_name (i := 2) sc_l_edited.nd rfl (.inl rfl))) (fun _ _ _ _ _ => pts_nil) (fun _ _ _ _ _ => (pe_tup (pa_cons (pe_ix (r := rIxT K) ix_tup (pv 2) pe_int (fun _ _ => rfl)) (pa_cons (pe_ix (r := rIxT K) ix_tup (pv 2) pe_int (fun _ _ => rfl)) pa_nil))))) pa_nil)))
      (pss_cons (ps_for PassesOwn.never rfl (pi_tup (pv 1)) (pg_name (i := 2) sc_l_edited.nd rfl (.inl rfl))
      (pss_one (ps_if (pt_cmpR op_eq (pe_ix ix_tup (pv 2) pe_int (fun _ _ => rfl)) pe_str (nomark _))
        (pss_one (ps_dput hu (pv 3) (pe_ix ix_tup (pv 2) pe_int (fun _ _ => rfl)) (pe_ix ix_tup (pv 2) pe_int (fun _ _ => rfl)) rfl))
        (pss_one (ps_if (pt_cmp (pc_din hu (pe_ix ix_tup (pv 2) pe_int (fun _ _ => rfl)) (pv 3)))
          (pss_one (ps_expr (pe_dpop1 (pv 3) (pe_ix ix_tup (pv 2) pe_int (fun _ _ => rfl)) ⟨rfl, rfl, rfl, rfl⟩)))
          pss_nil)))))
      (pss_one (ps_ret (pe_callTy call_tuple_of (by rfl) T.tuple PyProof.Rows.boot_tuple (pa_cons (pe_lc (own := [("path", 4)]) (g := gName 4) (tt := tYes) rfl sc_l_edited.nd (pi_list (pe_callB (call_sortedD rfl) (by rfl) T.sorted (by decide +kernel) (pa_cons (pv 3) pa_nil))) (blkOk_by (N := ["files", "edit", "one", "known", "path"]) (sc := defScope s_l_edited) (by decide +kernel)) (fun _ _ _ _ _ => (pg_name (i := 4) sc_l_edited.nd rfl (.inl rfl))) (fun _ _ _ _ _ => pts_nil) (fun _ _ _ _ _ => (pe_tup (pa_cons (pv 4) (pa_cons (pe_dget hu (pv 3) (pv 4) (fun _ _ => rfl)) pa_nil))))) pa_nil)))))), ?_⟩
    have fl := fok.few
    refine ⟨_, rfl, up, rfl, ⟨_, .inl hup⟩, fun D hD => lc_pairs (vs := us) (fs := fs) (enc := V.str) (fun _ => rfl) (fun _ => rfl) (.inl hup) hus (by omega) hD (fun q t H2 Qv ht hq => ⟨_, rfl, t, _, 1, _, rfl, rfl, .inl ht, rfl, hq⟩) fun H1 ps s1 e1 pr => ?_⟩
    refine ⟨D, ps, _, rfl, SqL.of e1, pr, fun dd hdd => ?_⟩
    rw [merge_all V.str fok.nd]
    have hdd0 : H dd = none := by
      cases e : H dd with
      | none => rfl
      | some o =>
        rw [s1 _ _ e] at hdd
        cases hdd
    have N1 : NewF H dd fs (upd H1 dd (.dK (kvG V.str fs))) := ⟨Same.mut s1 hdd0, hdd0, upd_same, fok⟩
    clear pr e1
    generalize upd H1 dd (.dK (kvG V.str fs)) = H2 at N1 ⊢
    have hlen := hvs.len
    rw [List.length_map] at hlen
    have ne0 : ∀ {H3 : Hp} {gs : Fs}, NewF H dd gs H3 → Rd H3 vp (.tup vs) := fun n => Rd.same n.same hvp
    refine ⟨_, rfl, vp, rfl, ⟨_, .inl (ne0 N1)⟩, for_tup (K := K) (a := vp) (xs := vs) (fun i σ H3 => ∃ k2 : Option V, σ = [some (.ref up), some (.ref vp), k2, some (.ref dd), none] ∧ NewF H dd (applyE fs (es.take i)) H3)
      ⟨_, rfl, N1⟩ (fun i σ H3 _ ⟨_, _, n⟩ => .inl (ne0 n)) ?_ ?_⟩
    · rintro i x σ H3 hx ⟨k2, rfl, N⟩
      have hil : i < es.length := by
        have := (List.getElem?_eq_some_iff.mp hx).1
        omega
      have hq : es[i]? = some es[i] := List.getElem?_eq_getElem hil
      obtain ⟨v, hv, hrep⟩ := hvs.get (i := i) (d := changeD es[i]) (by rw [List.getElem?_map, hq]; rfl)
      obtain rfl : v = x := Option.some.inj (hv.symm.trans hx)
      have hrep := hrep.keep (Same.tk N.same)
      have hm := eok.path _ (List.getElem_mem hil)
      have hc := eok.ct _ (List.getElem_mem hil)
      have ea : applyE fs (es.take (i + 1)) = stepE (applyE fs (es.take i)) es[i] := by
        unfold applyE
        rw [List.take_add_one, hq, List.foldl_append]
        rfl
      rw [ea]
      generalize es[i] = q at hrep hm hc ⊢
      generalize applyE fs (es.take i) = gs at N ⊢
      obtain ⟨p, o⟩ := q
      obtain ⟨t, rfl, ht⟩ := change_of hrep
      cases o with
      | some c =>
        refine ⟨_, rfl, t, _, 0, _, rfl, rfl, .inl ht, rfl, rfl, _, rfl, ite2 (fun _ => ?_) (fun z => absurd rfl z)⟩
        exact ⟨_, rfl, t, _, 2, _, rfl, rfl, .inl ht, rfl, _, rfl, _, rfl, t, _, 1, _, rfl, rfl, .inl ht, rfl, dd, _, rfl, N.dput, _, rfl, N.put (N.ok.put hm (hc c rfl))⟩
      | none =>
        refine ⟨_, rfl, t, _, 0, _, rfl, rfl, .inl ht, rfl, rfl, _, rfl, ite2 (fun z => absurd (V.str.inj (of_decide_eq_true z)) (by decide)) (fun _ => ?_)⟩
        have dg : DGet H3 dd (.str p) ((valF gs p).map V.str) := by
          have := DGet.k (k := Sum.inr p) N.at_
          rw [kvF_val'] at this
          exact this
        refine ⟨_, rfl, t, _, 1, _, rfl, rfl, .inl ht, rfl, _, rfl, dd, _, rfl, dg, _, rfl, ite2 (fun z => ?_) (fun z => ?_)⟩
        · rw [Option.isSome_map] at z
          obtain ⟨c, hc⟩ := Option.isSome_iff_exists.mp z
          refine ⟨_, rfl, dd, rfl, .inl ⟨_, .inl N.at_⟩, _, rfl, t, _, 1, _, rfl, rfl, .inl ht, rfl, kvF gs, Sum.inr p, .str c, N.at_, rfl, by rw [kvF_val', hc]; rfl, ?_⟩
          rw [kvF_drop']
          exact ⟨_, rfl, N.put N.ok.drop⟩
        · rw [Option.isSome_map] at z
          have hn : valF gs p = none := by
            cases e : valF gs p with
            | none => rfl
            | some c => exact absurd (by rw [e]; rfl) z
          refine ⟨_, rfl, ?_⟩
          show NewF H dd (dropF gs p) H3
          rw [dropF_none hn]
          exact N
    · rintro σ H3 ⟨k2, rfl, N⟩
      have e1 : es.take vs.length = es := List.take_of_length_le (by omega)
      rw [e1] at N
      generalize hg : applyE fs es = gs at N kk
      have gl := N.ok.few
      refine ⟨_, rfl, dd, kvF gs, gs.map (·.1), rfl, .inl N.at_, kvF_keys' gs, by rw [List.length_map]; omega, fun ks p perm srt hp => ?_⟩
      have asc : Asc ks := asc_of srt (perm.nodup_iff.mpr N.ok.nd)
      have hks : ks.length ≤ 20 := by
        rw [perm.length_eq, List.length_map]
        exact gl
      have hp0 : dd ≠ p := fun z => by
        rw [← z, N.at_] at hp
        cases hp
      have s4 : Same H (upd H3 p (.lst (ks.map V.str))) := fun b o e => by rw [upd_ne (ne_of_none (N.same b o e) hp)]; exact N.same b o e
      refine ⟨p, rfl, ⟨_, SqL.of upd_same⟩, fun D2 hD2 => lc_sorted (fun _ => rfl) (fun _ => rfl) (fun _ => rfl) upd_same (by rw [upd_ne hp0]; exact N.at_) perm (by omega) hD2 fun H5 ws s5 e5 l5 r5 => ⟨D2, _, rfl, .inl ⟨SqL.of e5, fun l hl => ?_⟩⟩⟩
      have s6 : Same H (upd H5 l (.tup ws)) := fun b o e => by
        have := s5 b o (s4 b o e)
        rw [upd_ne (ne_of_none this hl)]
        exact this
      exact kk (.ref l) (sortF gs ks) _ s6 ⟨l, ws, rfl, .inl upd_same, small_of (by omega), Reps.keep (Tk.new hl) r5⟩ (N.ok.sort perm) (by rw [sortF_keys]; exact asc) (fun q => sortF_val perm q)
end
end Kl

namespace Kl
open PySem L2 Kd
def mergeF {α : Type} (a l : List (Str × α)) : List (Str × α) := l.foldl (fun acc q => putF acc q.1 q.2) a
theorem mergeK_F {α : Type} (f : α → V) : ∀ (l a : List (Str × α)), mergeK (kvG f a) (kvG f l) = kvG f (mergeF a l)
  | [], _ => rfl
  | q :: r, a => by
    have := mergeK_F f r (putF a q.1 q.2)
    rw [← kvF_put] at this
    exact this
theorem mergeF_nodup {α : Type} : ∀ (l a : List (Str × α)), (a.map (·.1)).Nodup → ((mergeF a l).map (·.1)).Nodup
  | [], _, h => h
  | q :: r, a, h => mergeF_nodup r (putF a q.1 q.2) (putF_nodup h)
theorem mergeF_mem {α : Type} (p : Str) : ∀ (l a : List (Str × α)), p ∈ (mergeF a l).map (·.1) ↔ p ∈ a.map (·.1) ∨ p ∈ l.map (·.1)
  | [], a => by simp [mergeF]
  | q :: r, a => by
    have ih := mergeF_mem p r (putF a q.1 q.2)
    have hk : p ∈ (putF a q.1 q.2).map (·.1) ↔ p ∈ a.map (·.1) ∨ p = q.1 := by
      rw [putF_keys]
      split
      · rename_i hm
        exact ⟨.inl, fun h => h.elim id fun e => by rw [e]; exact hm⟩
      · rw [List.mem_append, List.mem_singleton]
    show p ∈ (mergeF (putF a q.1 q.2) r).map (·.1) ↔ _
    rw [ih, hk, List.map_cons, List.mem_cons, or_assoc]
theorem Reps.append {H : Hp} : ∀ {ds es : List D} {vs ws : List V}, Reps H ds vs → Reps H es ws → Reps H (ds ++ es) (vs ++ ws)
  | [], _, _, _, h, k => by
    cases (show _ = [] from h)
    exact k
  | _ :: _, _, _, _, ⟨v, r, e, h, q⟩, k => by
    subst e
    exact ⟨v, r ++ _, rfl, h, Reps.append q k⟩
theorem catA_ok {K : PySem.W.Frag} {a b : Addr} {xs ys : List V} {H : Hp} {Q : VK} (ha : SqT K H a xs) (hb : SqT K H b ys) (hz : xs.length + ys.length ≤ sizeLine)
    (k : ∀ (p : Addr) (H' : Hp), Same H H' → SqT K H' p (xs ++ ys) → Q (.ref p) H') : rCatA K (.ref a) (.ref b) H Q := by
  refine ⟨a, b, xs, ys, rfl, rfl, ha, hb, hz, fun e => ?_, fun _ e => ?_, fun _ _ p hp => k p _ (Same.new hp) (SqT.of upd_same)⟩
  · subst e
    exact k b H (fun _ _ z => z) hb
  · subst e
    exact k a H (fun _ _ z => z) (by rw [List.append_nil]; exact ha)
/-- what changes between two -/
def betw (a b : Option Str) : Option (Option Str) :=
  match b with
  | none => if a.isSome = true then some none else none
  | some c => if a = some c then none else some (some c)
def betweenL (fs gs : Fs) (ks : List Str) : Es := ks.filterMap fun p => (betw (valF fs p) (valF gs p)).map fun o => (p, o)
theorem betweenL_snoc (fs gs : Fs) {ks : List Str} {i : Nat} {p : Str} (h : ks[i]? = some p) : betweenL fs gs (ks.take (i + 1)) = betweenL fs gs (ks.take i) ++ ((betw (valF fs p) (valF gs p)).map fun o => (p, o)).toList := by
  unfold betweenL
  rw [List.take_add_one, h, List.filterMap_append]
  congr 1
def spBetween (_ : PySem.W.Frag) : Sp := fun vs H Q _ => ∃ (u v : V) (fs gs : Fs), vs = [u, v] ∧ Rep H (filesD fs) u ∧ FOk fs ∧ Rep H (filesD gs) v ∧ FOk gs ∧
  ∀ (x : V) (ks : List Str) (H' : Hp), Same H H' → Rep H' (editD (betweenL fs gs ks)) x → Asc ks → (∀ p, p ∈ ks ↔ p ∈ fs.map (·.1) ∨ p ∈ gs.map (·.1)) → Q x H'
section
variable {P : Program} {w : World} {K : PySem.W.Frag} {mg : Str → Option Value} {base : Heap}
abbrev s_l_between : Stmt := topS 71
theorem sc_l_between : FnScope ["old", "new", "low", "high", "made", "path", "one"] ["old", "new"] (defScope s_l_between) := ⟨rfl, rfl, rfl, by decide +kernel, rfl, by decide +kernel, by decide +kernel⟩
theorem ok_between {f : Addr} {fd : FuncData} (F : Fun K "_law_between" "_law_between" s_l_between f fd) (T : Glo mg) : FnOk P w K mg base CX0 1 f fd ["old", "new"] (spBetween K) := by
  refine F.ok sc_l_between (fun vs H Q E h => ?_) (fun cdv A outer s H vs Q E hr h => ?_)
  · obtain ⟨u, v, fs, gs, rfl, _⟩ := h
    rfl
  · obtain ⟨u, v, fs, gs, rfl, hU, fok, hV, gok, kk⟩ := h
    obtain ⟨up, us, rfl, hup, _, hus⟩ := hU
    obtain ⟨vp, vs, rfl, hvp, _, hvs⟩ := hV
    have hu := hu_of hr
    refine ⟨_, (pss_cons (ps_set (i := 2) sc_l_between.nd rfl (.inl rfl) (pe_callTy (call_dictP rfl) (by rfl) T.dict (by decide +kernel) (pa_cons (pe_lc (own := [("one", 6)]) (g := gName 6) (tt := tYes) rfl sc_l_between.nd (pi_tup (pv 0)) (blkOk_by (N := ["old", "new", "low", "high", "made", "path", "one"]) (sc := defScope s_l_between) (by decide +kernel)) (fun _ _ _ _ _ => (pg_name (i := 6) sc_l_between.nd rfl (.inl rfl))) (fun _ _ _ _ _ => pts_nil) (fun _ _ _ _ _ => (pe_tup (pa_cons (pe_ix (r := rIxT K) ix_tup (pv 6) pe_int (fun _ _ => rfl)) (pa_cons (pe_ix (r := rIxT K) ix_tup (pv 6) pe_int (fun _ _ => rfl)) pa_nil))))) pa_nil)))
      (pss_cons (ps_set (i := 3) sc_l_between.nd rfl (.inl rfl) (pe_callTy (call_dictP rfl) (by rfl) T.dict (by decide +kernel) (pa_cons (pe_lc (own := [("one", 6)]) (g := gName 6) (tt := tYes) rfl sc_l_between.nd (pi_tup (pv 1)) (blkOk_by (N := ["old", "new", "low", "high", "made", "path", "one"]) (sc := defScope s_l_between) (by decide +kernel)) (fun _ _ _ _ _ => (pg_name (i := 6) sc_l_between.nd rfl (.inl rfl))) (fun _ _ _ _ _ => pts_nil) (fun _ _ _ _ _ => (pe_tup (pa_cons (pe_ix (r := rIxT K) ix_tup (pv 6) pe_int (fun _ _ => rfl)) (pa_cons (pe_ix (r := rIxT K) ix_tup (pv 6) pe_int (fun _ _ => rfl)) pa_nil))))) pa_nil)))
      (pss_cons (ps_set (i := 4) sc_l_between.nd rfl (.inl rfl) (pe_lst pa_nil))
      (pss_cons (ps_for PassesOwn.never rfl (pi_list (pe_callB (call_sortedD rfl) (by rfl) T.sorted (by decide +kernel) (pa_cons (pe_callTy (call_dictP rfl) (by rfl) T.dict (by decide +kernel) (pa_cons (pe_lc (own := [("one", 6)]) (g := gName 6) (tt := tYes) rfl sc_l_between.nd (pi_tup (pe_op op_catA (pv 0) (pv 1))) (blkOk_by (N := ["old", "new", "low", "high", "made", "path", "one"]) (sc := defScope s_l_between) (by decide +kernel)) (fun _ _ _ _ _ => (pg_name (i := 6) sc_l_between.nd rfl (.inl rfl))) (fun _ _ _ _ _ => pts_nil) (fun _ _ _ _ _ => (pe_tup (pa_cons (pe_ix (r := rIxT K) ix_tup (pv 6) pe_int (fun _ _ => rfl)) (pa_cons pe_int pa_nil))))) pa_nil)) pa_nil))) (pg_name (i := 5) sc_l_between.nd rfl (.inl rfl))
      (pss_one (ps_if (pt_cmp (pc_dnotin hu (pv 5) (pv 3)))
        (pss_one (ps_expr (pe_bm PySem.F.plainAttrs_list PySem.F.slot_list_append PySem.F.type_list_append mt_append (pv 4) (pa_cons (pe_tup (pa_cons pe_str (pa_cons (pv 5) pa_nil))) pa_nil))))
        (pss_one (ps_if (PW.pt (pw_or (pt_cmp (pc_dnotin hu (pv 5) (pv 2))) (pw_or1 (pt_cmpR op_ne (pe_dget hu (pv 2) (pv 5) (fun _ _ => rfl)) (pe_dget hu (pv 3) (pv 5) (fun _ _ => rfl)) (nomark _)))))
          (pss_one (ps_expr (pe_bm PySem.F.plainAttrs_list PySem.F.slot_list_append PySem.F.type_list_append mt_append (pv 4) (pa_cons (pe_tup (pa_cons pe_str (pa_cons (pv 5) (pa_cons (pe_dget hu (pv 3) (pv 5) (fun _ _ => rfl)) pa_nil)))) pa_nil))))
          pss_nil)))))
      (pss_one (ps_ret (pe_callTy call_tuple_of (by rfl) T.tuple PyProof.Rows.boot_tuple (pa_cons (pv 4) pa_nil)))))))), ?_⟩
    have fl := fok.few
    have gl := gok.few
    have ul := hus.len
    have vl := hvs.len
    rw [List.length_map] at ul vl
    refine ⟨_, rfl, up, rfl, ⟨_, .inl hup⟩, fun D hD => lc_pairs (vs := us) (fs := fs) (enc := V.str) (fun _ => rfl) (fun _ => rfl) (.inl hup) hus (by omega) hD (fun q t H2 Qv ht hq => ⟨_, rfl, t, _, 1, _, rfl, rfl, .inl ht, rfl, hq⟩) fun H1 ps s1 e1 pr => ?_⟩
    refine ⟨D, ps, _, rfl, SqL.of e1, pr, fun lo hlo => ?_⟩
    rw [merge_all V.str fok.nd]
    have hlo0 : H lo = none := by
      cases e : H lo with
      | none => rfl
      | some o =>
        rw [s1 _ _ e] at hlo
        cases hlo
    have N1 : NewF H lo fs (upd H1 lo (.dK (kvG V.str fs))) := ⟨Same.mut s1 hlo0, hlo0, upd_same, fok⟩
    clear pr e1
    generalize upd H1 lo (.dK (kvG V.str fs)) = H2 at N1 ⊢
    refine ⟨_, rfl, vp, rfl, ⟨_, .inl (Rd.same N1.same hvp)⟩, fun D2 hD2 => lc_pairs (vs := vs) (fs := gs) (enc := V.str) (fun _ => rfl) (fun _ => rfl) (.inl (Rd.same N1.same hvp)) (hvs.keep (Same.tk N1.same)) (by omega) hD2 (fun q t H2 Qv ht hq => ⟨_, rfl, t, _, 1, _, rfl, rfl, .inl ht, rfl, hq⟩) fun H3 ps2 s3 e3 pr => ?_⟩
    refine ⟨D2, ps2, _, rfl, SqL.of e3, pr, fun hi hhi => ?_⟩
    rw [merge_all V.str gok.nd]
    have s3' : Same H H3 := fun b o e => s3 b o (N1.same b o e)
    have hhi0 : H hi = none := by
      cases e : H hi with
      | none => rfl
      | some o =>
        rw [s3' _ _ e] at hhi
        cases hhi
    have lo3 := s3 _ _ N1.at_
    have N2 : NewF H hi gs (upd H3 hi (.dK (kvG V.str gs))) := ⟨Same.mut s3' hhi0, hhi0, upd_same, gok⟩
    have lo4 : upd H3 hi (.dK (kvG V.str gs)) lo = some (.dK (kvF fs)) := by rw [upd_ne (ne_of_none lo3 hhi)]; exact lo3
    clear pr e3
    generalize upd H3 hi (.dK (kvG V.str gs)) = H4 at N2 lo4 ⊢
    refine ⟨(by show 0 ≤ sizeLine; decide), fun md hmd => ?_⟩
    have md0 : H md = none := by
      cases e : H md with
      | none => rfl
      | some o =>
        rw [N2.same _ _ e] at hmd
        cases hmd
    have s5 : Same H4 (upd H4 md (.lst [])) := Same.new hmd
    have s5' : Same H (upd H4 md (.lst [])) := fun b o e => s5 b o (N2.same b o e)
    have lo5 := s5 _ _ lo4
    have hi5 := s5 _ _ N2.at_
    have md5 : upd H4 md (.lst []) md = some (.lst []) := upd_same
    generalize upd H4 md (.lst []) = H5 at s5' lo5 hi5 md5 ⊢
    refine ⟨_, rfl, _, rfl, ?_⟩
    refine catA_ok (.inl (Rd.same s5' hup)) (.inl (Rd.same s5' hvp)) (small_of (by omega)) fun cp H6 s6 hcp => ?_
    have s6' : Same H H6 := fun b o e => s6 b o (s5' b o e)
    refine ⟨cp, rfl, ⟨_, hcp⟩, fun D3 hD3 => lc_pairs (vs := us ++ vs) (fs := fs ++ gs) (enc := fun _ => V.int 1) (fun _ => rfl) (fun _ => rfl) hcp (by rw [List.map_append]; exact Reps.append (hus.keep (Same.tk s6')) (hvs.keep (Same.tk s6'))) (by rw [List.length_append]; omega) hD3 (fun q t H2 Qv ht hq => hq) fun H7 ps3 s7 e7 pr => ?_⟩
    refine ⟨D3, ps3, _, rfl, SqL.of e7, pr, fun du hdu => ?_⟩
    rw [show mergeK [] (kvG (fun _ : Str => V.int 1) (fs ++ gs)) = kvG (fun _ : Str => V.int 1) (mergeF [] (fs ++ gs)) from mergeK_F _ _ []]
    have mem : ∀ p, p ∈ (mergeF [] (fs ++ gs)).map (·.1) ↔ p ∈ fs.map (·.1) ∨ p ∈ gs.map (·.1) := fun p => by
      rw [mergeF_mem, List.map_append, List.mem_append]
      simp
    have mnd : ((mergeF [] (fs ++ gs)).map (·.1)).Nodup := mergeF_nodup _ _ List.nodup_nil
    have mlen : ((mergeF [] (fs ++ gs)).map (·.1)).length ≤ 20 := Nat.le_trans (nodup_le (ys := allPaths) mnd fun p hp => by
      rcases (mem p).mp hp with h | h
      · obtain ⟨q, hq, e⟩ := List.mem_map.mp h
        rw [← e]
        exact fok.path q hq
      · obtain ⟨q, hq, e⟩ := List.mem_map.mp h
        rw [← e]
        exact gok.path q hq) (by decide)
    generalize mergeF [] (fs ++ gs) = m at mem mnd mlen ⊢
    have s8 : Same H5 (upd H7 du (.dK (kvG (fun _ : Str => V.int 1) m))) := fun b o e => by
      have := s7 b o (s6 b o e)
      rw [upd_ne (ne_of_none this hdu)]
      exact this
    clear pr e7
    refine ⟨du, kvG (fun _ : Str => V.int 1) m, m.map (·.1), rfl, .inl upd_same, kvF_keys _ m, by omega, fun ks p perm srt hp => ?_⟩
    generalize upd H7 du (.dK (kvG (fun _ : Str => V.int 1) m)) = H8 at s8 hp ⊢
    have asc : Asc ks := asc_of srt (perm.nodup_iff.mpr mnd)
    have hks : ks.length ≤ 20 := by
      rw [perm.length_eq]
      exact mlen
    have memk : ∀ p, p ∈ ks ↔ p ∈ fs.map (·.1) ∨ p ∈ gs.map (·.1) := fun p => perm.mem_iff.trans (mem p)
    have md8 := s8 _ _ md5
    have hpm : p ≠ md := fun z => by
      rw [z, md8] at hp
      cases hp
    have s9 : Same H5 (upd H8 p (.lst (ks.map V.str))) := fun b o e => by
      have := s8 b o e
      rw [upd_ne (ne_of_none this hp)]
      exact this
    have p9 : upd H8 p (.lst (ks.map V.str)) p = some (.lst (ks.map V.str)) := upd_same
    generalize upd H8 p (.lst (ks.map V.str)) = H9 at s9 p9 ⊢
    refine ⟨p, rfl, ⟨_, SqL.of p9⟩, for_list (K := K) (a := p) (xs := ks.map V.str) (fun i σ Hi => ∃ (k5 : Option V) (ws : List V), σ = [some (.ref up), some (.ref vp), some (.ref lo), some (.ref hi), some (.ref md), k5, none] ∧ Same H Hi ∧ Hi lo = some (.dK (kvF fs)) ∧ Hi hi = some (.dK (kvF gs)) ∧ Hi p = some (.lst (ks.map V.str)) ∧ Hi md = some (.lst ws) ∧ ws.length ≤ i ∧ Reps Hi ((betweenL fs gs (ks.take i)).map changeD) ws)
      ⟨_, [], rfl, fun b o e => s9 b o (s5' b o e), s9 _ _ lo5, s9 _ _ hi5, p9, s9 _ _ md5, Nat.le_refl _, rfl⟩ (fun i σ Hi _ ⟨_, _, _, _, _, _, z, _⟩ => SqL.of z) ?_ ?_⟩
    · rintro i x σ Hi hx ⟨k5, ws, rfl, sH, lo_, hi_, p_, md_, wl, wr⟩
      rw [List.getElem?_map] at hx
      obtain ⟨k, hk, rfl⟩ := Option.map_eq_some_iff.mp hx
      have hil : i < ks.length := (List.getElem?_eq_some_iff.mp hk).1
      have snoc := betweenL_snoc fs gs hk
      have dl : DGet Hi lo (.str k) ((valF fs k).map V.str) := by
        have := DGet.k (k := Sum.inr k) lo_
        rw [kvF_val'] at this
        exact this
      have dh : DGet Hi hi (.str k) ((valF gs k).map V.str) := by
        have := DGet.k (k := Sum.inr k) hi_
        rw [kvF_val'] at this
        exact this
      have push : ∀ {t : Addr} {xs : List V} {o : Option Str} {k5 : Option V}, betw (valF fs k) (valF gs k) = some o → Hi t = none → Rep (upd Hi t (.tup xs)) (changeD (k, o)) (.ref t) → (∃ (k5' : Option V) (ws' : List V), [some (V.ref up), some (V.ref vp), some (V.ref lo), some (V.ref hi), some (V.ref md), k5, none] = [some (V.ref up), some (V.ref vp), some (V.ref lo), some (V.ref hi), some (V.ref md), k5', none] ∧ Same H (upd (upd Hi t (.tup xs)) md (.lst (ws ++ [.ref t]))) ∧ upd (upd Hi t (.tup xs)) md (.lst (ws ++ [.ref t])) lo = some (.dK (kvF fs)) ∧ upd (upd Hi t (.tup xs)) md (.lst (ws ++ [.ref t])) hi = some (.dK (kvF gs)) ∧ upd (upd Hi t (.tup xs)) md (.lst (ws ++ [.ref t])) p = some (.lst (ks.map V.str)) ∧ upd (upd Hi t (.tup xs)) md (.lst (ws ++ [.ref t])) md = some (.lst ws') ∧ ws'.length ≤ i + 1 ∧ Reps (upd (upd Hi t (.tup xs)) md (.lst (ws ++ [.ref t]))) ((betweenL fs gs (ks.take (i + 1))).map changeD) ws') ∧ upd Hi t (.tup xs) md = some (.lst ws) := by
        intro t xs o k5 hb ht hrep
        have tm : md ≠ t := fun z => by
          rw [← z, md_] at ht
          cases ht
        have md1 : upd Hi t (.tup xs) md = some (.lst ws) := by rw [upd_ne tm]; exact md_
        refine ⟨⟨_, ws ++ [.ref t], rfl, Same.mut (fun b o e => by rw [upd_ne (ne_of_none (sH b o e) ht)]; exact sH b o e) md0, ?_, ?_, ?_, upd_same, by rw [List.length_append]; simp only [List.length_cons, List.length_nil]; omega, ?_⟩, md1⟩
        · rw [upd_ne (ne_of lo_ md_ (fun z => nomatch z)), upd_ne (ne_of_none lo_ ht)]
          exact lo_
        · rw [upd_ne (ne_of hi_ md_ (fun z => nomatch z)), upd_ne (ne_of_none hi_ ht)]
          exact hi_
        · rw [upd_ne hpm, upd_ne (ne_of_none p_ ht)]
          exact p_
        · rw [snoc, hb, List.map_append]
          have tk : Tk (upd Hi t (.tup xs)) (upd (upd Hi t (.tup xs)) md (.lst (ws ++ [.ref t]))) := Tk.lst md1
          exact Reps.snoc (Reps.keep tk (Reps.keep (Tk.new ht) wr)) (Rep.keep tk hrep)
      have skip : ∀ {k5 : Option V}, betw (valF fs k) (valF gs k) = none → ∃ (k5' : Option V) (ws' : List V), [some (V.ref up), some (V.ref vp), some (V.ref lo), some (V.ref hi), some (V.ref md), k5, none] = [some (V.ref up), some (V.ref vp), some (V.ref lo), some (V.ref hi), some (V.ref md), k5', none] ∧ Same H Hi ∧ Hi lo = some (.dK (kvF fs)) ∧ Hi hi = some (.dK (kvF gs)) ∧ Hi p = some (.lst (ks.map V.str)) ∧ Hi md = some (.lst ws') ∧ ws'.length ≤ i + 1 ∧ Reps Hi ((betweenL fs gs (ks.take (i + 1))).map changeD) ws' := by
        intro k5 hb
        refine ⟨_, ws, rfl, sH, lo_, hi_, p_, md_, by omega, ?_⟩
        rw [snoc, hb, Option.map_none, Option.toList_none, List.append_nil]
        exact wr
      have wroom : ws.length < sizeLine := small_lt (by omega)
      have hin := (memk k).mp (List.mem_of_getElem? hk)
      refine ⟨_, rfl, _, rfl, hi, _, rfl, dh, _, rfl, ite2 (fun z => ?_) (fun z => ?_)⟩
      · have hg : valF gs k = none := by
          cases e : valF gs k with
          | none => rfl
          | some c => rw [e] at z; cases z
        have hf : (valF fs k).isSome = true := by
          rcases hin with h | h
          · exact valF_isSome.mpr h
          · rw [← valF_isSome, hg] at h
            cases h
        have hb : betw (valF fs k) (valF gs k) = some none := by
          rw [hg]
          show (if (valF fs k).isSome = true then some none else none) = _
          rw [if_pos hf]
        refine ⟨_, rfl, .inl ⟨rfl, _, SqL.of md_⟩, _, rfl, (by show 2 ≤ sizeLine; decide), fun t ht => ?_⟩
        have pu := push (k5 := some (.str k)) hb ht (drop_rep upd_same)
        exact ⟨md, _, _, rfl, rfl, pu.2, wroom, pu.1⟩
      · obtain ⟨c, hc⟩ : ∃ c, valF gs k = some c := by
          cases e : valF gs k with
          | none => rw [e] at z; exact absurd rfl z
          | some c => exact ⟨c, rfl⟩
        rw [hc] at dh
        cases hf : valF fs k with
        | none =>
          rw [hf] at dl
          have hb : betw (valF fs k) (valF gs k) = some (some c) := by
            rw [hf, hc]
            rfl
          refine ⟨_, rfl, _, rfl, lo, _, rfl, dl, _, rfl, iteT (iteT ?_)⟩
          refine ⟨_, rfl, .inl ⟨rfl, _, SqL.of md_⟩, _, rfl, _, rfl, _, rfl, hi, _, rfl, dh, (by show 3 ≤ sizeLine; decide), fun t ht => ?_⟩
          have pu := push (k5 := some (.str k)) hb ht (put_rep upd_same)
          exact ⟨md, _, _, rfl, rfl, pu.2, wroom, pu.1⟩
        | some d =>
          rw [hf] at dl
          refine ⟨_, rfl, _, rfl, lo, _, rfl, dl, _, rfl, iteF ?_⟩
          refine ⟨_, rfl, _, rfl, lo, _, rfl, dl, _, rfl, _, rfl, hi, _, rfl, dh, rfl, _, rfl, ite2 (fun z => ?_) (fun z => ?_)⟩
          · have hn : d ≠ c := fun e => by
              subst e
              simp at z
            have hb : betw (valF fs k) (valF gs k) = some (some c) := by
              rw [hf, hc]
              show (if some d = some c then none else some (some c)) = _
              rw [if_neg (fun e => hn (Option.some.inj e))]
            refine ⟨_, rfl, .inl ⟨rfl, _, SqL.of md_⟩, _, rfl, _, rfl, _, rfl, hi, _, rfl, dh, (by show 3 ≤ sizeLine; decide), fun t ht => ?_⟩
            have pu := push (k5 := some (.str k)) hb ht (put_rep upd_same)
            exact ⟨md, _, _, rfl, rfl, pu.2, wroom, pu.1⟩
          · have hn : d = c := by
              simpa using z
            refine skip ?_
            rw [hf, hc, hn]
            show (if some c = some c then none else some (some c)) = _
            rw [if_pos rfl]
    · rintro σ Hi ⟨k5, ws, rfl, sH, lo_, hi_, p_, md_, wl, wr⟩
      rw [List.length_map] at wl wr
      rw [List.take_length] at wr
      refine ⟨_, rfl, md, _, rfl, .inl ⟨SqL.of md_, fun l hl => ?_⟩⟩
      exact kk (.ref l) ks _ (fun b o e => by rw [upd_ne (ne_of_none (sH b o e) hl)]; exact sH b o e) ⟨l, ws, rfl, .inl upd_same, small_of (by omega), Reps.keep (Tk.new hl) wr⟩ asc memk
end
end Kl

namespace Kl
open PySem L2 Kd
/-! data of lists and tuples -/
mutual
def RepX (N : Addr → Prop) (H : Hp) : D → V → Prop
  | .non, v => v = .non
  | .bl b, v => v = .bl b
  | .int i, v => v = .int i
  | .str x, v => v = .str x
  | .tup ds, v => ∃ (a : Addr) (vs : List V), v = .ref a ∧ N a ∧ (Rd H a (.tup vs) ∨ H a = some (.lst vs)) ∧ vs.length ≤ sizeLine ∧ RepsX N H ds vs
def RepsX (N : Addr → Prop) (H : Hp) : List D → List V → Prop
  | [], vs => vs = []
  | d :: ds, vs => ∃ (v : V) (r : List V), vs = v :: r ∧ RepX N H d v ∧ RepsX N H ds r
end
mutual
theorem RepX.keep {N M : Addr → Prop} {H H' : Hp} (k : ∀ a, N a → M a) (g : ∀ a u, N a → H a = some u → H' a = some u) : ∀ {d : D} {v : V}, RepX N H d v → RepX M H' d v
  | .non, _, h => h
  | .bl _, _, h => h
  | .int _, _, h => h
  | .str _, _, h => h
  | .tup _, _, ⟨a, vs, e, n, h, l, r⟩ => ⟨a, vs, e, k a n, h.imp (fun h => h.imp (g a _ n) fun ⟨o, h⟩ => ⟨o, g a _ n h⟩) (g a _ n), l, RepsX.keep k g r⟩
theorem RepsX.keep {N M : Addr → Prop} {H H' : Hp} (k : ∀ a, N a → M a) (g : ∀ a u, N a → H a = some u → H' a = some u) : ∀ {ds : List D} {vs : List V}, RepsX N H ds vs → RepsX M H' ds vs
  | [], _, h => h
  | _ :: _, _, ⟨v, r, e, h, q⟩ => ⟨v, r, e, RepX.keep k g h, RepsX.keep k g q⟩
end
abbrev RepL : Hp → D → V → Prop := RepX (fun _ => True)
abbrev RepsL : Hp → List D → List V → Prop := RepsX (fun _ => True)
theorem RepX.same {N : Addr → Prop} {H H' : Hp} (s : Same H H') {d : D} {v : V} (r : RepX N H d v) : RepX N H' d v := r.keep (fun _ n => n) (fun a u _ e => s a u e)
theorem RepsX.same {N : Addr → Prop} {H H' : Hp} (s : Same H H') {d : List D} {v : List V} (r : RepsX N H d v) : RepsX N H' d v := r.keep (fun _ n => n) (fun a u _ e => s a u e)
theorem RepX.any {N : Addr → Prop} {H : Hp} {d : D} {v : V} (r : RepX N H d v) : RepL H d v := r.keep (fun _ _ => trivial) (fun _ _ _ e => e)
mutual
theorem Rep.loose {H : Hp} : ∀ {d : D} {v : V}, Rep H d v → RepL H d v
  | .non, _, h => h
  | .bl _, _, h => h
  | .int _, _, h => h
  | .str _, _, h => h
  | .tup _, _, ⟨a, vs, e, h, l, r⟩ => ⟨a, vs, e, trivial, .inl h, l, Reps.loose r⟩
theorem Reps.loose {H : Hp} : ∀ {ds : List D} {vs : List V}, Reps H ds vs → RepsL H ds vs
  | [], _, h => h
  | _ :: _, _, ⟨v, r, e, h, q⟩ => ⟨v, r, e, Rep.loose h, Reps.loose q⟩
end
theorem RepsX.len {N : Addr → Prop} {H : Hp} : ∀ {ds : List D} {vs : List V}, RepsX N H ds vs → vs.length = ds.length
  | [], _, h => by cases (show _ = [] from h); rfl
  | d :: ds, _, ⟨v, r, e, h, q⟩ => by subst e; exact congrArg (· + 1) (RepsX.len q)
theorem RepsX.get {N : Addr → Prop} {H : Hp} : ∀ {ds : List D} {vs : List V} {i : Nat} {d : D}, RepsX N H ds vs → ds[i]? = some d → ∃ v, vs[i]? = some v ∧ RepX N H d v
  | [], _, i, d, _, e => by simp at e
  | c :: ds, _, 0, d, ⟨v, r, e1, h, q⟩, e => by
    subst e1
    obtain rfl : c = d := Option.some.inj e
    exact ⟨v, rfl, h⟩
  | c :: ds, _, i + 1, d, ⟨v, r, e1, h, q⟩, e => by
    subst e1
    exact RepsX.get (ds := ds) (i := i) q e
theorem RepsX.snoc {N : Addr → Prop} {H : Hp} : ∀ {ds : List D} {vs : List V} {d : D} {v : V}, RepsX N H ds vs → RepX N H d v → RepsX N H (ds ++ [d]) (vs ++ [v])
  | [], _, d, v, h, r => by
    cases (show _ = [] from h)
    exact ⟨v, [], rfl, r, rfl⟩
  | c :: ds, _, d, v, ⟨u, r, e, h, q⟩, rv => by
    subst e
    exact ⟨u, r ++ [v], rfl, h, RepsX.snoc q rv⟩
def spLoose (_ : PySem.W.Frag) (n : Nat) : Sp := fun vs H Q _ => ∃ (d : D) (v : V) (t : Int), vs = [v, .int t] ∧ Rep H d v ∧ D.dep d < n ∧ ∀ (x : V) (H' : Hp), Same H H' → RepX (fun a => H a = none) H' d x → Q x H'
section
variable {P : Program} {w : World} {K : PySem.W.Frag} {mg : Str → Option Value} {base : Heap}
abbrev s_l_loose : Stmt := topS 44
theorem sc_l_loose : FnScope ["value", "turn", "made", "one"] ["value", "turn"] (defScope s_l_loose) := ⟨rfl, rfl, rfl, by decide +kernel, rfl, by decide +kernel, by decide +kernel⟩
theorem ok_loose {f : Addr} {fd : FuncData} (A : At K mg "_law_loose" s_l_loose ["value", "turn"] f fd) (T : Glo mg) : ∀ n : Nat, FnOk P w K mg base CX0 n f fd ["value", "turn"] (spLoose K n)
  | 0 => ⟨fun vs H Q E ⟨d, v, t, e, _⟩ => by subst e; rfl, fun A outer s H args us vs Q E hr he hb hv ⟨d, v, t, e, _, z, _⟩ => absurd z (Nat.not_lt_zero _)⟩
  | n + 1 => by
    have c_l_loose : C8.Cal P w K mg base n "_law_loose" (spLoose K n) [] := cal_of A (ok_loose A T n)
    refine A.fn.ok sc_l_loose (fun vs H Q E h => ?_) (fun cdv A outer s H vs Q E hr h => ?_)
    · obtain ⟨d, v, t, rfl, _⟩ := h
      rfl
    · obtain ⟨d, v, t, rfl, rv, hd, k⟩ := h
      refine ⟨_, (pss_cons (ps_if (pt_val (pe_callB call_isi (by rfl) T.isi PyProof.Rows.boot_isinstance (pa_cons (pv 0) (pa_cons (pe_bltn (v := .ty "tuple") (by rfl) T.tuple PyProof.Rows.boot_tuple rfl) pa_nil))))
        (pss_cons (ps_setLc (i := 2) (own := [("one", 3)]) (g := gName 3) (tt := tYes) rfl sc_l_loose.nd rfl rfl (sw_true rfl rfl rfl (by decide +kernel)) (pi_tup (pv 0)) (blkOk_by (N := ["value", "turn", "made", "one"]) (sc := defScope s_l_loose) (by decide +kernel)) (fun _ _ _ _ _ => (pg_name (i := 3) sc_l_loose.nd rfl (.inl rfl))) (fun _ _ _ _ _ => pts_nil) (fun _ _ _ _ _ => (C8.pe_c c_l_loose hr (by omega) (by rfl) (pa_cons (pv 3) (pa_cons (pe_op op_add (pv 1) pe_int) pa_nil)))))
          (pss_one (ps_ret (pe_ifExp (pt_cmpR op_eq (pe_op op_mod (pe_callTy call_int1 (by rfl) T.int PyProof.Rows.boot_int (pa_cons (pv 1) pa_nil)) pe_int) pe_int (nomark _)) (pv 2) (pe_callTy call_tuple_of (by rfl) T.tuple PyProof.Rows.boot_tuple (pa_cons (pv 2) pa_nil))))))
        pss_nil)
        (pss_one (ps_ret (pv 0)))), ?_⟩
      refine ⟨v, rfl, v, _, _, _, _, rfl, .ty _, rv.ty, D.kTup d, _, rfl, ?_⟩
      match d, rv, hd, k with
      | .non, rv, hd, k =>
        refine iteF ?_
        cases (show v = V.non from rv)
        exact ⟨_, rfl, k _ H (fun _ _ e => e) rfl⟩
      | .bl x, rv, hd, k =>
        refine iteF ?_
        cases (show v = V.bl x from rv)
        exact ⟨_, rfl, k _ H (fun _ _ e => e) rfl⟩
      | .int x, rv, hd, k =>
        refine iteF ?_
        cases (show v = V.int x from rv)
        exact ⟨_, rfl, k _ H (fun _ _ e => e) rfl⟩
      | .str x, rv, hd, k =>
        refine iteF ?_
        cases (show v = V.str x from rv)
        exact ⟨_, rfl, k _ H (fun _ _ e => e) rfl⟩
      | .tup ds, rv, hd, k =>
        obtain ⟨vp, vs, rfl, hvp, hz, hvs⟩ := rv
        refine iteT ?_
        have hlen := hvs.len
        refine ⟨_, rfl, vp, rfl, ⟨_, .inl hvp⟩, fun dl hD => lc_tup (K := K) (a := vp) (xs := vs) (fun i H1 => Same H H1 ∧ ∃ ws : List V, H1 dl = some (.lst ws) ∧ ws.length = i ∧ RepsX (fun a => H a = none ∧ a ≠ dl) H1 (ds.take i) ws)
          ⟨Same.new hD, [], upd_same, rfl, rfl⟩ (fun i H1 _ p => .inl (Rd.same p.1 hvp)) ?_ ?_⟩
        · rintro i x H1 hx ⟨s1, ws, e1, l1, r1⟩
          have hil : i < vs.length := (List.getElem?_eq_some_iff.mp hx).1
          have hq : ds[i]? = some (ds[i]'(by omega)) := List.getElem?_eq_getElem (by omega)
          obtain ⟨v, hv, hrep⟩ := hvs.get hq
          obtain rfl : v = x := Option.some.inj (hv.symm.trans hx)
          have hdep : D.dep (ds[i]'(by omega)) < n := by
            have := D.dep_mem hq
            simp only [D.dep] at hd
            omega
          refine ⟨rfl, _, rfl, _, rfl, _, _, rfl, rfl, ds[i]'(by omega), v, t + 1, rfl, hrep.keep (Same.tk s1), hdep, fun y H2 s2 r2 => ?_⟩
          have e2 := s2 _ _ e1
          have nD : ∀ {a : Addr}, H1 a = none → a ≠ dl := fun h z => by
            rw [z, e1] at h
            cases h
          have n0 : ∀ {a : Addr}, H1 a = none → H a = none := fun {a} h => by
            cases z : H a with
            | none => rfl
            | some o =>
              rw [s1 _ _ z] at h
              cases h
          refine ⟨ws, e2, by omega, Same.mut (fun b o e => s2 b o (s1 b o e)) hD, ws ++ [y], upd_same, by rw [List.length_append]; simp only [List.length_cons, List.length_nil]; omega, ?_⟩
          rw [List.take_add_one, hq]
          exact RepsX.snoc (RepsX.keep (fun _ m => m) (fun a u m e => by rw [upd_ne m.2]; exact s2 a u e) r1)
            (RepX.keep (fun a m => ⟨n0 m, nD m⟩) (fun a u m e => by rw [upd_ne (nD m)]; exact e) r2)
        · rintro H1 ⟨s1, ws, e1, l1, r1⟩
          rw [hlen, List.take_length] at r1
          have r1 : RepsX (fun a => H a = none) H1 ds ws := r1.keep (fun _ m => m.1) (fun _ _ _ e => e)
          refine ⟨_, rfl, .inl ⟨_, rfl, _, _, rfl, rfl, (by show (0 : Int) < 2; decide), rfl, _, rfl, ite2 (fun _ => ?_) (fun _ => ?_)⟩⟩
          · exact ⟨_, rfl, k _ H1 s1 ⟨dl, ws, rfl, hD, .inr e1, by omega, r1⟩⟩
          · refine ⟨_, rfl, dl, _, rfl, .inl ⟨SqL.of e1, fun l hl => ?_⟩⟩
            have hl0 : H l = none := by
              cases z : H l with
              | none => rfl
              | some o =>
                rw [s1 _ _ z] at hl
                cases hl
            exact k _ _ (Same.mut s1 hl0) ⟨l, ws, rfl, hl0, .inl (.inl upd_same), by omega, r1.keep (fun _ m => m) (fun a u _ e => by rw [upd_ne (ne_of_none e hl)]; exact e)⟩
end
end Kl

namespace Kl
open PySem L2 Kd
/-! a step at a time: the goal behind each stands as it is written -/
theorem st_g {i : Nat} {x : V} {σ : L2.St} {H : Hp} {k : L2.St → Hp → Prop} (h : k (σ.set i (some x)) H) : gName i x σ H k := h
theorem st_seq {t u : TS} {D : Ends} {σ : L2.St} {H : Hp} (h : t { D with nx := u D } σ H) : tSeq t u D σ H := h
theorem st_asg {te : TE} {g : TG} {D : Ends} {σ : L2.St} {H : Hp} (h : te σ H fun x H1 => g x σ H1 D.nx) : tAsg te g D σ H := h
theorem te_tup {t : TA} {σ : L2.St} {H : Hp} {Q : VK} (h : t σ H fun xs H1 => xs.length ≤ sizeLine ∧ ∀ p, H1 p = none → Q (.ref p) (upd H1 p (.tup xs))) : tTup t σ H Q := h
theorem ta_cons {ta : TE} {tr : TA} {σ : L2.St} {H : Hp} {Q : List V → Hp → Prop} (h : ta σ H fun x H1 => tr σ H1 fun xs H2 => Q (x :: xs) H2) : tCons ta tr σ H Q := h
theorem ta_nil {σ : L2.St} {H : Hp} {Q : List V → Hp → Prop} (h : Q [] H) : tNil σ H Q := h
/-- d[k] if k in d else None -/
theorem opt_get {a i : Nat} {σ : L2.St} {H : Hp} {Q : VK} {d : Addr} {k : Str} {o : Option Str} (ha : σ[a]? = some (some (.str k))) (hi : σ[i]? = some (some (.ref d))) (h : DGet H d (.str k) (o.map V.str)) (q : Q (encO o) H) :
    tIf (tB (tDIn (tVar a) (tVar i))) (tDGet (tVar i) (tVar a)) (tC .non) σ H Q := by
  refine ⟨_, ha, _, hi, d, _, rfl, h, _, rfl, ?_⟩
  cases o with
  | none => exact iteF q
  | some c => exact iteT ⟨_, hi, _, ha, d, _, rfl, h, q⟩
theorem encO_inj {a b : Option Str} (h : encO a = encO b) : a = b := by
  cases a with
  | none =>
    cases b with
    | none => rfl
    | some c => cases h
  | some c =>
    cases b with
    | none => cases h
    | some d => cases h; rfl
theorem encO_scal (a b : Option Str) : scal (encO a) (encO b) = true := by
  cases a <;> cases b <;> rfl
end Kl

namespace Kl
open PySem L2 Kd
/-! a list or a tuple, walked, read, measured -/
theorem pi_or {X : Cx} {tg l : Expr} {w1 w2 : TI} (a : PI X tg l w1) (b : PI X tg l w2) : PI X tg l (fun σ H R => w1 σ H R ∨ w2 σ H R) := ⟨fun pins s σ H R I h => h.elim (a.run pins s σ H R I) (b.run pins s σ H R I)⟩
theorem ps_never {X : Cx} {st : Stmt} : PS X st (fun _ _ _ => False) := ⟨fun _ _ _ _ _ _ h => h.elim⟩
abbrev SeqAt (H : Hp) (a : Addr) (vs : List V) : Prop := Rd H a (.tup vs) ∨ H a = some (.lst vs)
theorem SeqAt.sq {K : PySem.W.Frag} {H : Hp} {a : Addr} {vs : List V} (h : SeqAt H a vs) : SqL K H a vs ∨ SqT K H a vs := h.elim (fun e => .inr (.inl e)) (fun e => .inl (SqL.of e))
theorem SeqAt.same {H H' : Hp} {a : Addr} {vs : List V} (s : Same H H') (h : SeqAt H a vs) : SeqAt H' a vs := h.imp (Rd.same s) (s _ _)
abbrev iSeq (K : PySem.W.Frag) (tl : TE) : TI := fun σ H R => iTup K tl σ H R ∨ iList K tl σ H R
theorem pi_seq {X : Cx} {tg l : Expr} {tl : TE} (hl : PE X l tl) : PI X tg l (iSeq X.K tl) := pi_or (pi_tup hl) (pi_list hl)
theorem seq_walk {K : PySem.W.Frag} {tl : TE} {σ : L2.St} {H H1 : Hp} {R : It → Hp → Prop} {a : Addr} {vs : List V} (h : SeqAt H1 a vs) (ht : ∀ Q : VK, Q (.ref a) H1 → tl σ H Q) (k : ∀ (J : It) (G : Hp → Prop), Walk J vs.length G (YAt vs) → (∀ H' : Hp, Same H1 H' → G H') → R J H1) : iSeq K tl σ H R := by
  rcases h with h | h
  · exact .inl (ht _ ⟨a, rfl, ⟨_, .inl h⟩, k _ (fun H => SqT K H a vs) walk_tup fun H' s => .inl (Rd.same s h)⟩)
  · exact .inr (ht _ ⟨a, rfl, ⟨_, SqL.of h⟩, k _ (fun H => SqL K H a vs) walk_list fun H' s => SqL.of (s _ _ h)⟩)
/-- xs[i] of a list or a tuple -/
theorem ix_any {K : PySem.W.Frag} {H : Hp} {a : Addr} {vs : List V} {i : Int} {x : V} {Q : VK} (h : SeqAt H a vs) (e : atI vs i = some x) (q : Q x H) : rIx K (.ref a) (.int i) H Q := by
  rcases h with h | h
  · exact .inr (.inl ⟨a, vs, i, x, rfl, rfl, .inl h, e, q⟩)
  · exact .inl ⟨a, vs, i, x, rfl, rfl, SqL.of h, e, q⟩
theorem ty_seq {K : PySem.W.Frag} {H : Hp} {a : Addr} {vs : List V} (h : SeqAt H a vs) : ∃ t : Value, TyX K H (.ref a) t ∧ PySem.W.kitAny K t [.type "list", .type "tuple"] = some true := by
  rcases h with h | h
  · exact ⟨_, h.elim (fun h => .base (.tup h)) (fun ⟨_, h⟩ => .fTuple h), kitAny_cons (b := false) (kit_ty (by decide +kernel)) (fun _ => kitAny_cons (b := true) (kit_ty (by decide +kernel)) (fun z => nomatch z) (fun _ => rfl)) (fun z => nomatch z)⟩
  · exact ⟨_, .base (.lst h), kitAny_cons (b := true) (kit_ty (by decide +kernel)) (fun z => nomatch z) (fun _ => rfl)⟩
theorem st_if {c : TT} {t u : TS} {D : Ends} {σ : L2.St} {H : Hp} (h : c σ H fun b H1 => if b = true then t D σ H1 else u D σ H1) : tIfS c t u D σ H := h
theorem st_next {D : Ends} {σ : L2.St} {H : Hp} (h : D.nx σ H) : tNext D σ H := h
theorem tt_not {t : TT} {σ : L2.St} {H : Hp} {Q : Bool → Hp → Prop} (h : t σ H fun c H1 => Q (!c) H1) : tNot t σ H Q := h
theorem tt_b {t : TE} {σ : L2.St} {H : Hp} {Q : Bool → Hp → Prop} (h : t σ H fun x H1 => ∃ c, x = .bl c ∧ Q c H1) : tB t σ H Q := h
theorem te_cb {r : List V → Hp → VK → Prop} {t : TA} {σ : L2.St} {H : Hp} {Q : VK} (h : t σ H fun vs H1 => r vs H1 Q) : tCB r t σ H Q := h
theorem te_call {sp : Sp} {dvs : List V} {E : XK} {t : TA} {σ : L2.St} {H : Hp} {Q : VK} (h : t σ H fun vs H1 => sp (vs ++ dvs) H1 Q E) : tCall sp dvs E t σ H Q := h
theorem st_ret {te : TE} {D : Ends} {σ : L2.St} {H : Hp} (h : te σ H D.rt) : tRet te D σ H := h
theorem te_lc {wi : TI} {g : TG} {tt : TT} {te : TE} {vs : List Nat} {σ : L2.St} {H : Hp} {Q : VK} (h : wi σ H fun J H1 => ∀ D, H1 D = none → ∃ W : Nat → Nat → Hp → Prop, (∃ m, W 0 m (upd H1 D (.lst []))) ∧ ∀ i m H, W i m H →
    (J.stop i H ∧ Q (.ref D) H) ∨ (J.go i H ∧ ∃ Nx : Hp → Prop, (∀ H', Nx H' → ∃ m', m' < m ∧ W (i + 1) m' H') ∧ ∀ x H', J.yld i H x H' → g x (wipe σ vs) H' fun σ2 H2 => wipe σ2 vs = wipe σ vs ∧ tt σ2 H2 fun b H3 =>
    if b = true then te σ2 H3 fun y H4 => ∃ acc, H4 D = some (.lst acc) ∧ acc.length < sizeLine ∧ Nx (upd H4 D (.lst (acc ++ [y]))) else Nx H3)) : tLc wi g tt te vs σ H Q := h
/-- a list or a tuple: yes -/
def spSeq (_ : PySem.W.Frag) : Sp := fun vs H Q _ => ∃ (a : Addr) (ws : List V), vs = [.ref a] ∧ SeqAt H a ws ∧ ∀ H' : Hp, Same H H' → Q (.bl true) H'
def spRow (_ : PySem.W.Frag) : Sp := fun vs H Q _ => ∃ (a : Addr) (ws : List V) (n : Int), vs = [.ref a, .int n] ∧ SeqAt H a ws ∧ ∀ H' : Hp, Same H H' → Q (.bl (decide (V.int (ws.length : Int) = V.int n))) H'
section
variable {P : Program} {w : World} {K : PySem.W.Frag} {mg : Str → Option Value} {base : Heap}
abbrev s_is_sequence : Stmt := topS 5
theorem sc_is_sequence : FnScope ["value"] ["value"] (defScope s_is_sequence) := ⟨rfl, rfl, rfl, by decide +kernel, rfl, by decide +kernel, by decide +kernel⟩
theorem ok_sequence {f : Addr} {fd : FuncData} (F : Fun K "is_sequence" "is_sequence" s_is_sequence f fd) (T : Glo mg) : FnOk P w K mg base CX0 1 f fd ["value"] (spSeq K) := by
  refine F.ok sc_is_sequence (fun vs H Q E h => ?_) (fun cdv A outer s H vs Q E hr h => ?_)
  · obtain ⟨a, ws, rfl, _⟩ := h
    rfl
  · obtain ⟨a, ws, rfl, hs, k⟩ := h
    refine ⟨_, (pss_one (ps_ret (pe_callB call_isiT (by rfl) T.isi PyProof.Rows.boot_isinstance (pa_cons (pv 0) (pa_cons (pe_tup (pa_cons (pe_bltn (v := .ty "list") (by rfl) T.list PyProof.Rows.boot_list rfl) (pa_cons (pe_bltn (v := .ty "tuple") (by rfl) T.tuple PyProof.Rows.boot_tuple rfl) pa_nil))) pa_nil))))), ?_⟩
    obtain ⟨t, ty, kt⟩ := ty_seq (K := K) hs
    refine ⟨_, rfl, (by show 2 ≤ sizeLine; decide), fun p hp => ?_⟩
    have s1 : Same H (upd H p (.tup [.ty "list", .ty "tuple"])) := Same.new hp
    obtain ⟨t, ty, kt⟩ := ty_seq (K := K) (hs.same s1)
    exact ⟨_, p, _, t, [.type "list", .type "tuple"], true, rfl, upd_same, .cons (.ty "list") (.cons (.ty "tuple") .nil), ty, kt, k _ s1⟩
abbrev s_is_row : Stmt := topS 6
theorem sc_is_row : FnScope ["value", "length"] ["value", "length"] (defScope s_is_row) := ⟨rfl, rfl, rfl, by decide +kernel, rfl, by decide +kernel, by decide +kernel⟩
theorem ok_row {f : Addr} {fd : FuncData} (F : Fun K "is_row" "is_row" s_is_row f fd) (T : Glo mg) (c_is_sequence : C8.Cal P w K mg base 1 "is_sequence" (spSeq K) []) : FnOk P w K mg base CX0 2 f fd ["value", "length"] (spRow K) := by
  refine F.ok sc_is_row (fun vs H Q E h => ?_) (fun cdv A outer s H vs Q E hr h => ?_)
  · obtain ⟨a, ws, n, rfl, _⟩ := h
    rfl
  · obtain ⟨a, ws, n, rfl, hs, k⟩ := h
    refine ⟨_, (pss_one (ps_ret (pe_and (C8.pe_c c_is_sequence hr (by omega) (by rfl) (pa_cons (pv 0) pa_nil)) (pe_one (pe_cmpR op_eq (pe_callB call_len_seq (by rfl) T.len PySem.boot_len (pa_cons (pv 0) pa_nil)) (pv 1) (nomark _)))))), ?_⟩
    refine ⟨_, rfl, a, ws, rfl, hs, fun H1 s1 => ⟨_, rfl, iteT ?_⟩⟩
    exact ⟨_, rfl, a, ws, rfl, (hs.same s1).sq, _, rfl, rfl, k H1 s1⟩
end
end Kl

namespace Kl
open PySem L2 Kd
def wordB (x : Str) : Bool := decide (1 ≤ x.length) && (decide (x.length ≤ 12) && (Txt.isascii x && (Txt.isalnum x && (Txt.isalpha ⟨#[x.cps.getD 0 0]⟩ && decide (Txt.lower x = x)))))
def pathB (p : Str) : Bool := decide ((Txt.split p "/").length ≤ 4) && (Txt.split p "/").all wordB
structure WordOk (x : Str) : Prop where
  lo : 1 ≤ x.length
  hi : x.length ≤ 12
  ascii : Txt.isascii x = true
  alnum : Txt.isalnum x = true
  alpha : Txt.isalpha ⟨#[x.cps.getD 0 0]⟩ = true
  lower : Txt.lower x = x
theorem word_of {x : Str} (h : wordB x = true) : WordOk x := by
  unfold wordB at h
  simp only [Bool.and_eq_true, decide_eq_true_eq] at h
  exact ⟨h.1, h.2.1, h.2.2.1, h.2.2.2.1, h.2.2.2.2.1, h.2.2.2.2.2⟩
theorem allPaths_ok : allPaths.all pathB = true := by decide +kernel
def spWord (_ : PySem.W.Frag) : Sp := fun vs H Q _ => ∃ x : Str, vs = [.str x] ∧ wordB x = true ∧ Q (.bl true) H
def spPath (_ : PySem.W.Frag) : Sp := fun vs H Q _ => ∃ x : Str, vs = [.str x] ∧ pathB x = true ∧ x.length ≤ 1000 ∧ ∀ H' : Hp, Same H H' → Q (.bl true) H'
theorem isi_str {K : PySem.W.Frag} {H : Hp} {x : Str} {Q : VK} (q : Q (.bl true) H) : rIsi K [.str x, .ty "str"] H Q := ⟨.str x, .ty "str", .type "str", .type "str", true, rfl, .ty "str", .base (.str _), kit_ty (by decide +kernel), q⟩
section
variable {P : Program} {w : World} {K : PySem.W.Frag} {mg : Str → Option Value} {base : Heap}
abbrev s_is_word : Stmt := topS 8
theorem sc_is_word : FnScope ["value"] ["value"] (defScope s_is_word) := ⟨rfl, rfl, rfl, by decide +kernel, rfl, by decide +kernel, by decide +kernel⟩
theorem ok_word {f : Addr} {fd : FuncData} (F : Fun K "is_word" "is_word" s_is_word f fd) (T : Glo mg) {t12 : Tok} (m_MOST_WORD_SIGNS : mg "MOST_WORD_SIGNS" = some (.int 12 t12)) : FnOk P w K mg base CX0 1 f fd ["value"] (spWord K) := by
  refine F.ok sc_is_word (fun vs H Q E h => ?_) (fun cdv A outer s H vs Q E hr h => ?_)
  · obtain ⟨x, rfl, _⟩ := h
    rfl
  · obtain ⟨x, rfl, hx, k⟩ := h
    have W := word_of hx
    refine ⟨_, (C8.pss_cut (ps_if (PW.pt (pw_or (pt_not (pt_val (pe_callB call_isi (by rfl) T.isi PyProof.Rows.boot_isinstance (pa_cons (pv 0) (pa_cons (pe_bltn (v := .ty "str") (by rfl) T.str (by decide +kernel) rfl) pa_nil))))) (pw_or1 (pt_not (pt_chain op_le op_le pe_int (pe_callB call_len_str (by rfl) T.len PySem.boot_len (pa_cons (pv 0) pa_nil)) (pe_glob (v := .int 12) (by rfl) m_MOST_WORD_SIGNS ⟨_, rfl⟩))))))
      (pss_one ps_never)
      pss_nil)
      (C8.pss_cut (ps_if (PW.pt (pw_or (pt_not (pt_val (pe_m0 PySem.F.slot_str_isascii PySem.F.type_str_isascii mt_isascii (pv 0)))) (pw_or (pt_not (pt_val (pe_m0 PySem.F.slot_str_isalnum PySem.F.type_str_isalnum mt_isalnum (pv 0)))) (pw_or1 (pt_not (pt_val (pe_m0 PySem.F.slot_str_isalpha PySem.F.type_str_isalpha mt_isalpha (pe_ix ix_str (pv 0) pe_int (fun _ _ => rfl)))))))))
      (pss_one ps_never)
      pss_nil)
      (pss_one (ps_ret (pe_cmpR op_eq (pv 0) (pe_lower (pv 0)) (nomark _)))))), ?_⟩
    have h1 := W.lo
    have h2 := W.hi
    refine ⟨fun σ' H' => σ' = [some (.str x)] ∧ H' = H, ?_, ?_⟩
    · refine ⟨_, rfl, .str x, .ty "str", .type "str", .type "str", true, rfl, .ty "str", .base (.str _), kit_ty (by decide +kernel), _, rfl, iteF ?_⟩
      refine ⟨_, rfl, _, rfl, small_of (by omega), _, _, rfl, rfl, _, rfl, ite2 (fun _ => ?_) (fun z => absurd (decide_eq_true (show (1 : Int) ≤ (x.length : Int) by omega)) z)⟩
      refine ⟨_, _, rfl, rfl, _, rfl, ite2 (fun z => ?_) (fun _ => ⟨rfl, rfl⟩)⟩
      rw [decide_eq_true (show (x.length : Int) ≤ 12 by omega)] at z
      cases z
    rintro σ' H' ⟨rfl, rfl⟩
    refine ⟨fun σ' H'' => σ' = [some (.str x)] ∧ H'' = H', ?_, ?_⟩
    · have hc : atI x.cps.toList 0 = some (x.cps.getD 0 0) := by
        have hp : 0 < x.cps.size := h1
        refine atI_nat (j := 0) ?_
        rw [Array.getElem?_toList, Array.getD_eq_getD_getElem?, Array.getElem?_eq_getElem hp]
        rfl
      refine ⟨_, rfl, ⟨_, rfl⟩, _, rfl, rfl, trivial, _, rfl, ?_⟩
      rw [W.ascii]
      refine iteF ⟨_, rfl, ⟨_, rfl⟩, _, rfl, rfl, trivial, _, rfl, ?_⟩
      rw [W.alnum]
      refine iteF ⟨_, rfl, x, 0, _, rfl, rfl, small_of (by omega), hc, ⟨_, rfl⟩, _, rfl, rfl, trivial, _, rfl, ?_⟩
      rw [W.alpha]
      exact iteF ⟨rfl, rfl⟩
    rintro σ' H'' ⟨rfl, rfl⟩
    refine ⟨_, rfl, _, rfl, ⟨_, rfl⟩, _, rfl, rfl, Nat.le_trans h2 (by decide), rfl, ?_⟩
    rw [W.lower, decide_eq_true rfl]
    exact k
abbrev s_is_path : Stmt := topS 9
theorem sc_is_path : FnScope ["value", "words", "word"] ["value"] (defScope s_is_path) := ⟨rfl, rfl, rfl, by decide +kernel, rfl, by decide +kernel, by decide +kernel⟩
theorem ok_path {f : Addr} {fd : FuncData} (F : Fun K "is_path" "is_path" s_is_path f fd) (T : Glo mg) {t4 : Tok} (m_MOST_PATH_WORDS : mg "MOST_PATH_WORDS" = some (.int 4 t4)) (c_is_word : C8.Cal P w K mg base 1 "is_word" (spWord K) []) : FnOk P w K mg base CX0 2 f fd ["value"] (spPath K) := by
  refine F.ok sc_is_path (fun vs H Q E h => ?_) (fun cdv A outer s H vs Q E hr h => ?_)
  · obtain ⟨x, rfl, _⟩ := h
    rfl
  · obtain ⟨x, rfl, hx, hz, k⟩ := h
    unfold pathB at hx
    rw [Bool.and_eq_true] at hx
    have h4 := of_decide_eq_true hx.1
    have hw := List.all_eq_true.mp hx.2
    refine ⟨_, (pss_cons (ps_if (pt_not (pt_val (pe_callB call_isi (by rfl) T.isi PyProof.Rows.boot_isinstance (pa_cons (pv 0) (pa_cons (pe_bltn (v := .ty "str") (by rfl) T.str (by decide +kernel) rfl) pa_nil)))))
      (pss_one ps_never)
      pss_nil)
      (pss_cons (ps_set (i := 1) sc_is_path.nd rfl (.inl rfl) (pe_split (pv 0) pe_str))
      (pss_one (ps_ret (pe_and (pe_cmpR op_le (pe_callB call_len_seq (by rfl) T.len PySem.boot_len (pa_cons (pv 1) pa_nil)) (pe_glob (v := .int 4) (by rfl) m_MOST_PATH_WORDS ⟨_, rfl⟩) (nomark _)) (pe_one (pe_callB (cr_all rfl) (by rfl) T.all (by decide +kernel) (pa_cons (pe_lc (own := [("word", 2)]) (g := gName 2) (tt := tYes) rfl sc_is_path.nd (pi_list (pv 1)) (blkOk_by (N := ["value", "words", "word"]) (sc := defScope s_is_path) (by decide +kernel)) (fun _ _ _ _ _ => (pg_name (i := 2) sc_is_path.nd rfl (.inl rfl))) (fun _ _ _ _ _ => pts_nil) (fun _ _ _ _ _ => (C8.pe_c c_is_word hr (by omega) (by rfl) (pa_cons (pv 2) pa_nil)))) pa_nil)))))))), ?_⟩
    refine ⟨_, rfl, .str x, .ty "str", .type "str", .type "str", true, rfl, .ty "str", .base (.str _), kit_ty (by decide +kernel), _, rfl, iteF ?_⟩
    refine ⟨_, rfl, ⟨_, rfl⟩, x, "/", rfl, rfl, by decide +kernel, small_of (by omega), fun p hp => ?_⟩
    have s1 : Same H (upd H p (.lst ((Txt.split x "/").map V.str))) := Same.new hp
    have p1 : upd H p (.lst ((Txt.split x "/").map V.str)) p = some (.lst ((Txt.split x "/").map V.str)) := upd_same
    generalize upd H p (.lst ((Txt.split x "/").map V.str)) = H1 at s1 p1 ⊢
    refine ⟨_, rfl, p, _, rfl, .inl (SqL.of p1), _, _, rfl, rfl, _, rfl, ite2 (fun _ => ?_) (fun z => absurd (decide_eq_true (show (((Txt.split x "/").map V.str).length : Int) ≤ 4 by rw [List.length_map]; omega)) z)⟩
    refine ⟨_, rfl, p, rfl, ⟨_, SqL.of p1⟩, fun D hD => lc_list (K := K) (xs := (Txt.split x "/").map V.str) (fun i H2 => Same H1 H2 ∧ H2 D = some (.lst ((List.replicate i true).map V.bl))) ⟨Same.new hD, upd_same⟩ (fun i H2 _ q => SqL.of (q.1 _ _ p1)) ?_ ?_⟩
    · rintro i y H2 hy ⟨s2, e2⟩
      rw [List.getElem?_map] at hy
      obtain ⟨w0, hw0, rfl⟩ := Option.map_eq_some_iff.mp hy
      have hil : i < (Txt.split x "/").length := (List.getElem?_eq_some_iff.mp hw0).1
      refine ⟨rfl, _, rfl, w0, rfl, hw w0 (List.mem_of_getElem? hw0), _, e2, ?_, Same.mut s2 hD, ?_⟩
      · rw [List.length_map, List.length_replicate]
        exact small_lt (by omega)
      · rw [upd_same, List.replicate_succ', List.map_append]
        rfl
    · rintro H2 ⟨s2, e2⟩
      refine ⟨D, _, rfl, SqL.of e2, ?_⟩
      have : (List.replicate ((Txt.split x "/").map V.str).length true).all id = true := List.all_eq_true.mpr fun b hb => (List.mem_replicate.mp hb).2
      rw [this]
      exact k H2 fun b o e => s2 b o (s1 b o e)
end
end Kl

namespace Kl
open PySem L2 Kd
/-! what may stand in a file -/
def okx (c : Nat) : Bool := 32 ≤ c && (c ≤ 126 && c != 37)
structure Shown (x : Str) : Prop where
  len : x.length ≤ 1000
  all : ∀ c ∈ x.cps.toList, okx c = true
structure Cont (x : Str) : Prop where
  len : x.length ≤ 1000
  all : ∀ c ∈ x.cps.toList, c = 10 ∨ okx c = true
theorem okx_of {c : Nat} (h : okx c = true) : 32 ≤ c ∧ c ≤ 126 ∧ c ≠ 37 := by
  unfold okx at h
  simp only [Bool.and_eq_true, decide_eq_true_eq, bne_iff_ne] at h
  exact ⟨h.1, h.2.1, h.2.2⟩
theorem Ct.cont {x : Str} (h : Ct 1000 x) : Cont x := ⟨h.len, fun c hc => by
  have := h.all c hc
  unfold ctc okc at this
  rw [Bool.or_eq_true] at this
  rcases this with e | e
  · exact .inl (eq_of_beq e)
  · refine .inr ?_
    unfold okx
    simp only [Bool.or_eq_true, Bool.and_eq_true, decide_eq_true_eq, bne_iff_ne, beq_iff_eq] at e ⊢
    omega⟩
theorem Shown.ascii {x : Str} (h : Shown x) : Txt.isascii x = true := by
  unfold Txt.isascii
  rw [← Array.all_toList, List.all_eq_true]
  intro c hc
  have := okx_of (h.all c hc)
  exact decide_eq_true (by omega)
theorem print_fact : ∀ c : Nat, 32 ≤ c → c ≤ 126 → Unicode.isPrintable c = true := by
  intro c h1 h2
  have : ∀ c : Fin 127, 32 ≤ c.val → Unicode.isPrintable c.val = true := by decide +kernel
  exact this ⟨c, by omega⟩ h1
theorem Shown.print {x : Str} (h : Shown x) : Txt.isprintable x = true := by
  unfold Txt.isprintable
  rw [← Array.all_toList, List.all_eq_true]
  intro c hc
  have := okx_of (h.all c hc)
  exact print_fact c this.1 this.2.1
theorem Cont.strike {x : Str} (h : Cont x) : Shown (Txt.replace x "\n" "") := by
  have e : (Txt.replace x "\n" "").cps.toList = x.cps.toList.filter (· != 10) := PyProof.Rows.replace_strikes x 10
  refine ⟨?_, fun c hc => ?_⟩
  · rw [← len_tl, e]
    exact Nat.le_trans (List.length_filter_le _ _) (by rw [len_tl]; exact h.len)
  · rw [e, List.mem_filter] at hc
    rcases h.all c hc.1 with e | e
    · rw [e] at hc
      exact absurd hc.2 (by decide)
    · exact e
/-- a def whose body wants a token -/
theorem Fun.okT {P : Program} {w : World} {K : PySem.W.Frag} {mg : Str → Option Value} {base : Heap} {x qual : Str} {st : Stmt} {f : Addr} {fd : FuncData} {N ps : List Str} {k : Nat} {sp : Sp} (F : Fun K x qual st f fd) (S : FnScope N ps (defScope st)) (hnc : ∀ y ∈ (defScope st).names, y.2 ≠ .cell) (hps : 1 ≤ ps.length) (len : ∀ vs H Q E, sp vs H Q E → vs.length = ps.length)
    (hbody : ∀ (cdv : Value) (A : Around) (outer : List Env) (s : Shared) (H : Hp) (vs : List V) (Q : VK) (E : XK), Room k (A.deeper (PyProof.Rows.envOfC qual (defScope st) s.heap.objs.size f cdv)) → sp vs H Q E →
      ∃ t, PSsT (cxOf CX0 P w K mg base N qual (defScope st) f cdv A outer s H E) (defBody st) t ∧ t { nx := fun _ H' => Q .non H', rt := Q } (start N vs) H) : FnOk P w K mg base CX0 (k + 1) f fd ps sp := by
  obtain ⟨oc, od, kV, doc, pm, an, cdv, ct, osl, rfl, lk, hcd⟩ := F.ex
  exact fn_ofT lk hcd S hnc hps len fun A outer s H vs Q E hr hsp => hbody cdv A outer s H vs Q E hr hsp
/-- an own def called, its arguments want a token -/
theorem pet_c {X : Cx} {k j : Nat} {x : Str} {sp : Sp} {dvs : List V} {p pos : Pos} {e : Expr} {es : List Expr} {t : TA} (c : C8.Cal X.prog X.w X.K X.mg X.base k x sp dvs) (hr : Room j X.A) (hk : k ≤ j) (hg : Gl X x) (ha : PAT X (e :: es) t)
    (hdb : (x == ("__debug__" : Str)) = false := by decide) (he : starEach (e :: es) X.env = (false, eval e X.env) :: starEach es X.env := by rfl) (hpl : (backTo pos (starEach es X.env)).any (·.1) = false := by rfl) :
    PET X (.Call (.Name x p) (e :: es) [] pos) (tCall sp dvs E0 t) := by
  obtain ⟨f, fd, ps, ds, F, hm, kp, b, d⟩ := c.ex
  intro pins s σ H Q h0 I h
  refine wpAny_Call_Name_kw (ld_glob I hg hm ?_ hdb)
  refine PySem.W.callWith_K (h₀ := X.base) I.ok.mod.kin kp (thn (ha pos pins s σ H _ h0 I h) fun us s1 ⟨vs, H1, I1, r, q⟩ => ⟨I1.kIn, ?_⟩) he hpl
  exact run_fn F (hr.mono hk) b d pass0 I1 r q
open PySem.Spec PyProof.Rows in
/-- a and b, where b wants a token -/
theorem pet_and {X : Cx} {a b : Expr} {rest : List Expr} {ta tb : TE} {pos : Pos} (ha : PE X a ta) (hb : PET X (.BoolOp .And (b :: rest) pos) tb) : PET X (.BoolOp .And (a :: b :: rest) pos) (tAndV ta tb) := by
  intro pins s σ H Q h0 I h
  refine BoolOp_and (wpAny_mono (PySem.wpAny_toks (ha.run pins s σ H _ I h)) (fun v s1 q => ?_) fun _ _ z => z.2)
  obtain ⟨hk, x, H1, I1, r1, c, rfl, q1⟩ := q
  cases r1
  refine wpAny_truthy_bool ?_
  cases c with
  | true => exact hb pins s1 σ H1 Q (Nat.le_trans h0 hk) I1 q1
  | false => exact ⟨.bl false, H1, I1, rfl, q1⟩
open PySem.Spec PyProof.Rows in
theorem pet_one {X : Cx} {op : BoolOp} {a : Expr} {t : TE} {pos : Pos} (h : PET X a t) : PET X (.BoolOp op [a] pos) t := fun pins s σ H Q h0 I hw => BoolOp_one (h pins s σ H Q h0 I hw)
def spShown (_ : PySem.W.Frag) : Sp := fun vs H Q _ => ∃ x : Str, vs = [.str x] ∧ Shown x ∧ ∀ H' : Hp, Same H H' → Q (.bl true) H'
def spCont (_ : PySem.W.Frag) : Sp := fun vs H Q _ => ∃ x : Str, vs = [.str x] ∧ Cont x ∧ ∀ H' : Hp, Same H H' → Q (.bl true) H'
section
variable {P : Program} {w : World} {K : PySem.W.Frag} {mg : Str → Option Value} {base : Heap}
abbrev s_is_shown : Stmt := topS 7
theorem sc_is_shown : FnScope ["value", "sign"] ["value"] (defScope s_is_shown) := ⟨rfl, rfl, rfl, by decide +kernel, rfl, by decide +kernel, by decide +kernel⟩
theorem ok_shown {f : Addr} {fd : FuncData} (F : Fun K "is_shown" "is_shown" s_is_shown f fd) (T : Glo mg) {t37 : Tok} (m_PERCENT_NUMBER : mg "PERCENT_NUMBER" = some (.int 37 t37)) : FnOk P w K mg base CX0 1 f fd ["value"] (spShown K) := by
  refine F.ok sc_is_shown (fun vs H Q E h => ?_) (fun cdv A outer s H vs Q E hr h => ?_)
  · obtain ⟨x, rfl, _⟩ := h
    rfl
  · obtain ⟨x, rfl, hx, k⟩ := h
    have hl := hx.len
    refine ⟨_, (C8.pss_cut (ps_if (PW.pt (pw_or (pt_not (pt_val (pe_callB call_isi (by rfl) T.isi PyProof.Rows.boot_isinstance (pa_cons (pv 0) (pa_cons (pe_bltn (v := .ty "str") (by rfl) T.str (by decide +kernel) rfl) pa_nil))))) (pw_or (pt_not (pt_val (pe_m0 PySem.F.slot_str_isascii PySem.F.type_str_isascii mt_isascii (pv 0)))) (pw_or1 (pt_not (pt_val (pe_m0 PySem.F.slot_str_isprintable PySem.F.type_str_isprintable mt_isprintable (pv 0))))))))
      (pss_one ps_never)
      pss_nil)
      (pss_one (ps_ret (pe_cmpR op_notIn_seq (pe_glob (v := .int 37) (by rfl) m_PERCENT_NUMBER ⟨_, rfl⟩) (pe_lc (own := [("sign", 1)]) (g := gName 1) (tt := tYes) rfl sc_is_shown.nd (pi_str (pv 0)) (blkOk_by (N := ["value", "sign"]) (sc := defScope s_is_shown) (by decide +kernel)) (fun _ _ _ _ _ => (pg_name (i := 1) sc_is_shown.nd rfl (.inl rfl))) (fun _ _ _ _ _ => pts_nil) (fun _ _ _ _ _ => (pe_callB call_ord (by rfl) T.ord (by decide +kernel) (pa_cons (pv 1) pa_nil)))) (by rfl))))), ?_⟩
    refine ⟨fun σ' H' => σ' = [some (.str x), none] ∧ H' = H, ?_, ?_⟩
    · refine ⟨_, rfl, .str x, .ty "str", .type "str", .type "str", true, rfl, .ty "str", .base (.str _), kit_ty (by decide +kernel), _, rfl, iteF ?_⟩
      refine ⟨_, rfl, ⟨_, rfl⟩, _, rfl, rfl, trivial, _, rfl, ?_⟩
      rw [hx.ascii]
      refine iteF ⟨_, rfl, ⟨_, rfl⟩, _, rfl, rfl, trivial, _, rfl, ?_⟩
      rw [hx.print]
      exact iteF ⟨rfl, rfl⟩
    rintro σ' H' ⟨rfl, rfl⟩
    refine ⟨_, rfl, x, rfl, fun D hD => lc_it walk_str (fun i H2 => Same H' H2 ∧ H2 D = some (.lst (((x.cps.toList.take i).map fun c : Nat => V.int ((c : Nat) : Int))))) ⟨Same.new hD, upd_same⟩ (fun _ _ _ _ => trivial) ?_ ?_⟩
    · rintro i y H2 H3 hi ⟨s2, e2⟩ ⟨rfl, c, hc, rfl⟩
      have hc' : x.cps.toList[i]? = some c := by rw [Array.getElem?_toList]; exact hc
      refine ⟨rfl, _, rfl, _, rfl, rfl, _, e2, ?_, Same.mut s2 hD, ?_⟩
      · rw [List.length_map, List.length_take]
        exact small_lt (by have : x.cps.size = x.length := rfl; omega)
      · rw [upd_same, List.take_add_one, hc', List.map_append]
        rfl
    · rintro H2 ⟨s2, e2⟩
      have e3 : x.cps.toList.take x.cps.size = x.cps.toList := List.take_of_length_le (by rw [Array.length_toList]; exact Nat.le_refl _)
      rw [e3] at e2
      refine ⟨D, _, rfl, .inl (SqL.of e2), rfl, ?_, ?_⟩
      · rw [List.all_eq_true]
        intro v hv
        obtain ⟨c, _, rfl⟩ := List.mem_map.mp hv
        rfl
      · have : inV (.int 37) (x.cps.toList.map fun c : Nat => V.int ((c : Nat) : Int)) = false := by
          unfold inV
          rw [List.any_eq_false]
          intro v hv
          obtain ⟨c, hc, rfl⟩ := List.mem_map.mp hv
          have := okx_of (hx.all c hc)
          intro z
          have z' : ((c : Nat) : Int) = 37 := by simpa [eqV] using z
          omega
        rw [this]
        exact k H2 s2
/-- a text of at most so many signs: yes -/
def spSigns (_ : PySem.W.Frag) : Sp := fun vs H Q _ => ∃ (x : Str) (n : Int), vs = [.str x, .int n] ∧ Cont x ∧ (x.length : Int) ≤ n ∧ ∀ H' : Hp, Same H H' → Q (.bl true) H'
abbrev s_is_signs : Stmt := topS 10
theorem sc_is_signs : FnScope ["value", "most"] ["value", "most"] (defScope s_is_signs) := ⟨rfl, rfl, rfl, by decide +kernel, rfl, by decide +kernel, by decide +kernel⟩
theorem ok_signs {f : Addr} {fd : FuncData} (F : Fun K "is_signs" "is_signs" s_is_signs f fd) (T : Glo mg) (c_is_shown : C8.Cal P w K mg base 1 "is_shown" (spShown K) []) : FnOk P w K mg base CX0 2 f fd ["value", "most"] (spSigns K) := by
  refine Fun.okT F sc_is_signs (by decide +kernel) (by decide) (fun vs H Q E h => ?_) (fun cdv A outer s H vs Q E hr h => ?_)
  · obtain ⟨x, n, rfl, _⟩ := h
    rfl
  · obtain ⟨x, n, rfl, hx, hn, k⟩ := h
    have hl := hx.len
    refine ⟨_, CwR.psst_one (CwR.pst_ret (pet_and (pe_callB call_isi (by rfl) T.isi PyProof.Rows.boot_isinstance (pa_cons (pv 0) (pa_cons (pe_bltn (v := .ty "str") (by rfl) T.str (by decide +kernel) rfl) pa_nil)))
      (pet_and (pe_cmpR op_le (pe_callB call_len_str (by rfl) T.len PySem.boot_len (pa_cons (pv 0) pa_nil)) (pv 1) (nomark _))
      (pet_one (pet_c c_is_shown hr (by omega) (by rfl) (pat_cons (CwR.pet_replC (pv 0)) pat_nil)))))), ?_⟩
    refine ⟨_, rfl, .str x, .ty "str", .type "str", .type "str", true, rfl, .ty "str", .base (.str _), kit_ty (by decide +kernel), _, rfl, iteT ?_⟩
    refine ⟨_, rfl, _, rfl, small_of (by omega), _, rfl, _, _, rfl, rfl, _, rfl, ?_⟩
    rw [decide_eq_true hn]
    refine iteT ?_
    have e0 : ("" : Str).length = 0 := by decide +kernel
    exact ⟨_, rfl, x, rfl, by rw [e0]; omega, _, rfl, hx.strike, k⟩
abbrev s_is_content : Stmt := topS 11
theorem sc_is_content : FnScope ["value"] ["value"] (defScope s_is_content) := ⟨rfl, rfl, rfl, by decide +kernel, rfl, by decide +kernel, by decide +kernel⟩
theorem ok_cont {f : Addr} {fd : FuncData} (F : Fun K "is_content" "is_content" s_is_content f fd) {t1000 : Tok} (m_MOST_CONTENT_SIGNS : mg "MOST_CONTENT_SIGNS" = some (.int 1000 t1000)) (c_is_signs : C8.Cal P w K mg base 2 "is_signs" (spSigns K) []) : FnOk P w K mg base CX0 3 f fd ["value"] (spCont K) := by
  refine F.ok sc_is_content (fun vs H Q E h => ?_) (fun cdv A outer s H vs Q E hr h => ?_)
  · obtain ⟨x, rfl, _⟩ := h
    rfl
  · obtain ⟨x, rfl, hx, k⟩ := h
    have hl := hx.len
    refine ⟨_, (pss_one (ps_ret (C8.pe_c c_is_signs hr (by omega) (by rfl) (pa_cons (pv 0) (pa_cons (pe_glob (v := .int 1000) (by rfl) m_MOST_CONTENT_SIGNS ⟨_, rfl⟩) pa_nil))))), ?_⟩
    exact ⟨_, rfl, x, 1000, rfl, hx, by omega, k⟩
end
end Kl

namespace Kl
open PySem L2 Kd
def spAsc (_ : PySem.W.Frag) : Sp := fun vs H Q _ => ∃ (p : Addr) (ks : List Str), vs = [.ref p] ∧ Strs H p ks ∧ Asc ks ∧ ks.length ≤ 1000 ∧ ∀ H' : Hp, Same H H' → Q (.bl true) H'
section
variable {P : Program} {w : World} {K : PySem.W.Frag} {mg : Str → Option Value} {base : Heap}
abbrev s_is_ascending : Stmt := topS 12
theorem sc_is_ascending : FnScope ["keys", "key", "later"] ["keys"] (defScope s_is_ascending) := ⟨rfl, rfl, rfl, by decide +kernel, rfl, by decide +kernel, by decide +kernel⟩
theorem ok_asc {f : Addr} {fd : FuncData} (F : Fun K "is_ascending" "is_ascending" s_is_ascending f fd) (T : Glo mg) : FnOk P w K mg base CX0 1 f fd ["keys"] (spAsc K) := by
  refine F.ok sc_is_ascending (fun vs H Q E h => ?_) (fun cdv A outer s H vs Q E hr h => ?_)
  · obtain ⟨p, ks, rfl, _⟩ := h
    rfl
  · obtain ⟨p, ks, rfl, hp, asc, hl, k⟩ := h
    refine ⟨_, (pss_one (ps_ret (pe_callB (cr_all rfl) (by rfl) T.all (by decide +kernel) (pa_cons (pe_lc (own := [("key", 1), ("later", 2)]) (g := gTup K 2 (gCons (gName 1) (gCons (gName 2) gNil))) (tt := tYes) rfl sc_is_ascending.nd (pi_zip (by rfl) T.zip (pa_cons (pv 0) (pa_cons (pe_slice sl_list (pv 0) (po_some pe_int) po_none) pa_nil))) (blkOk_by (N := ["keys", "key", "later"]) (sc := defScope s_is_ascending) (by decide +kernel)) (fun _ _ _ _ _ => (pg_tup rfl (pgs_cons (pg_name (i := 1) sc_is_ascending.nd rfl (.inl rfl)) (pgs_cons (pg_name (i := 2) sc_is_ascending.nd rfl (.inl rfl)) pgs_nil)))) (fun _ _ _ _ _ => pts_nil) (fun _ _ _ _ _ => (pe_cmpR op_lt_str (pv 1) (pv 2) (nomark _)))) pa_nil)))), ?_⟩
    refine ⟨_, rfl, _, rfl, _, rfl, p, _, rfl, SqL.of hp, fun q hq => ?_⟩
    rw [show ((1 : Int)) = ((1 : Nat) : Int) from rfl, cut_drop]
    have s1 : Same H (upd H q (.lst ((ks.drop 1).map V.str))) := Same.new hq
    have q1 : upd H q (.lst ((ks.drop 1).map V.str)) q = some (.lst ((ks.drop 1).map V.str)) := upd_same
    have p1 := s1 _ _ hp
    generalize upd H q (.lst ((ks.drop 1).map V.str)) = H1 at s1 q1 p1 ⊢
    refine ⟨p, q, _, _, rfl, SqL.of p1, SqL.of q1, fun D hD => lc_it (walk_zip (xs := ks.map V.str) (ys := (ks.drop 1).map V.str) (n := ks.length - 1) (by rw [List.length_map, List.length_map, List.length_drop]; omega)) (fun i H2 => Same H1 H2 ∧ H2 D = some (.lst ((List.replicate i true).map V.bl))) ⟨Same.new hD, upd_same⟩ (fun i H2 _ z => ⟨SqL.of (z.1 _ _ p1), SqL.of (z.1 _ _ q1)⟩) ?_ ?_⟩
    · rintro i v H2 H3 hi ⟨s2, e2⟩ ⟨t, x, y, rfl, ht, rfl, hx, hy⟩
      replace hx : (ks.map V.str)[i]? = some x := hx
      replace hy : ((ks.drop 1).map V.str)[i]? = some y := hy
      rw [List.getElem?_map] at hx hy
      obtain ⟨k1, hk1, rfl⟩ := Option.map_eq_some_iff.mp hx
      obtain ⟨k2, hk2, rfl⟩ := Option.map_eq_some_iff.mp hy
      rw [List.getElem?_drop] at hk2
      have lt : k1.cps.toList < k2.cps.toList := by
        have h1 := (List.getElem?_eq_some_iff.mp hk1)
        have h2 := (List.getElem?_eq_some_iff.mp hk2)
        obtain ⟨i1, e1⟩ := h1
        obtain ⟨i2, e2⟩ := h2
        have := (List.pairwise_iff_getElem.mp asc) i (1 + i) i1 i2 (by omega)
        rw [e1, e2] at this
        exact this
      have tD : D ≠ t := fun z => by
        rw [← z, e2] at ht
        cases ht
      have s3 : Same H1 (upd H2 t (.tup [.str k1, .str k2])) := fun b o e => by
        rw [upd_ne (ne_of_none (s2 b o e) ht)]
        exact s2 b o e
      refine ⟨t, _, rfl, SqT.of upd_same, rfl, _, _, rfl, _, _, rfl, rfl, rfl, _, rfl, _, rfl, _, _, rfl, rfl, ?_⟩
      rw [decide_eq_true lt]
      refine ⟨_, by rw [upd_ne tD]; exact e2, ?_, Same.mut s3 hD, ?_⟩
      · rw [List.length_map, List.length_replicate]
        exact small_lt (by omega)
      · rw [upd_same, List.replicate_succ', List.map_append]
        rfl
    · rintro H2 ⟨s2, e2⟩
      refine ⟨D, _, rfl, SqL.of e2, ?_⟩
      have : (List.replicate (ks.length - 1) true).all id = true := List.all_eq_true.mpr fun b hb => (List.mem_replicate.mp hb).2
      rw [this]
      exact k H2 fun b o e => s2 b o (s1 b o e)
end
end Kl

namespace Kl
open PySem L2 Kd
def changeV : Str × Option Str → List V
  | (p, none) => [.str "drop", .str p]
  | (p, some c) => [.str "put", .str p, .str c]
theorem changeL_of {H : Hp} {q : Str × Option Str} {v : V} (h : RepL H (changeD q) v) : ∃ a, v = .ref a ∧ SeqAt H a (changeV q) := by
  obtain ⟨p, o⟩ := q
  cases o with
  | none =>
    obtain ⟨a, vs, rfl, _, ha, _, x, r, rfl, hx, y, r2, rfl, hy, hn⟩ := h
    cases (show r2 = [] from hn)
    cases (show x = V.str "drop" from hx)
    cases (show y = V.str p from hy)
    exact ⟨a, rfl, ha⟩
  | some c =>
    obtain ⟨a, vs, rfl, _, ha, _, x, r, rfl, hx, y, r2, rfl, hy, z, r3, rfl, hz, hn⟩ := h
    cases (show r3 = [] from hn)
    cases (show x = V.str "put" from hx)
    cases (show y = V.str p from hy)
    cases (show z = V.str c from hz)
    exact ⟨a, rfl, ha⟩
theorem pairL_of {H : Hp} {q : Str × Str} {v : V} (h : RepL H (pairD q) v) : ∃ a, v = .ref a ∧ SeqAt H a [.str q.1, .str q.2] := by
  obtain ⟨a, vs, rfl, _, ha, _, x, r, rfl, hx, y, r2, rfl, hy, hn⟩ := h
  cases (show r2 = [] from hn)
  cases (show x = V.str q.1 from hx)
  cases (show y = V.str q.2 from hy)
  exact ⟨a, rfl, ha⟩
structure ChOk (q : Str × Option Str) : Prop where
  path : pathB q.1 = true
  len : q.1.length ≤ 1000
  cont : ∀ c, q.2 = some c → Cont c
structure PairOk (q : Str × Str) : Prop where
  path : pathB q.1 = true
  len : q.1.length ≤ 1000
  cont : Cont q.2
  lay : PyData.canLay0 (.str q.1) = true
end Kl

namespace Kl
open PySem L2 Kd
section
variable {P : Program} {w : World} {K : PySem.W.Frag} {mg : Str → Option Value} {base : Heap}
def spIsFiles (_ : PySem.W.Frag) : Sp := fun vs H Q _ => ∃ (v : V) (fs : Fs), vs = [v] ∧ RepL H (filesD fs) v ∧ (∀ q ∈ fs, PairOk q) ∧ Asc (fs.map (·.1)) ∧ fs.length ≤ 60 ∧ ∀ H' : Hp, Same H H' → Q (.bl true) H'
abbrev s_is_files : Stmt := topS 28
theorem sc_is_files : FnScope ["value", "pair"] ["value"] (defScope s_is_files) := ⟨rfl, rfl, rfl, by decide +kernel, rfl, by decide +kernel, by decide +kernel⟩
theorem ok_isfiles {f : Addr} {fd : FuncData} (F : Fun K "is_files" "is_files" s_is_files f fd) (T : Glo mg) {t60 : Tok} (m_MOST_FILES : mg "MOST_FILES" = some (.int 60 t60)) (c_is_sequence : C8.Cal P w K mg base 1 "is_sequence" (spSeq K) []) (c_is_row : C8.Cal P w K mg base 2 "is_row" (spRow K) []) (c_is_path : C8.Cal P w K mg base 2 "is_path" (spPath K) []) (c_is_content : C8.Cal P w K mg base 3 "is_content" (spCont K) [])
    (c_is_ascending : C8.Cal P w K mg base 1 "is_ascending" (spAsc K) []) : FnOk P w K mg base CX0 4 f fd ["value"] (spIsFiles K) := by
  refine F.ok sc_is_files (fun vs H Q E h => ?_) (fun cdv A outer s H vs Q E hr h => ?_)
  · obtain ⟨v, fs, rfl, _⟩ := h
    rfl
  · obtain ⟨v, fs, rfl, hv, hq, asc, hl, k⟩ := h
    obtain ⟨a, vs, rfl, _, ha, _, hvs⟩ := hv
    have vl := hvs.len
    rw [List.length_map] at vl
    refine ⟨_, (C8.pss_cut (ps_if (PW.pt (pw_or (pt_not (pt_val (C8.pe_c c_is_sequence hr (by omega) (by rfl) (pa_cons (pv 0) pa_nil)))) (pw_or1 (pt_cmpR op_gt (pe_callB call_len_seq (by rfl) T.len PySem.boot_len (pa_cons (pv 0) pa_nil)) (pe_glob (v := .int 60) (by rfl) m_MOST_FILES ⟨_, rfl⟩) (nomark _)))))
      (pss_one ps_never)
      pss_nil)
      (pss_cons (ps_if (pt_not (pt_val (pe_callB (cr_all rfl) (by rfl) T.all (by decide +kernel) (pa_cons (pe_lc (own := [("pair", 1)]) (g := gName 1) (tt := tYes) rfl sc_is_files.nd (pi_seq (pv 0)) (blkOk_by (N := ["value", "pair"]) (sc := defScope s_is_files) (by decide +kernel)) (fun _ _ _ _ _ => (pg_name (i := 1) sc_is_files.nd rfl (.inl rfl))) (fun _ _ _ _ _ => pts_nil) (fun _ _ _ _ _ => (pe_and (C8.pe_c c_is_row hr (by omega) (by rfl) (pa_cons (pv 1) (pa_cons pe_int pa_nil))) (pe_and (C8.pe_c c_is_path hr (by omega) (by rfl) (pa_cons (pe_ix (r := rIx K) ix_seq (pv 1) pe_int (fun _ _ => rfl)) pa_nil)) (pe_one (C8.pe_c c_is_content hr (by omega) (by rfl) (pa_cons (pe_ix (r := rIx K) ix_seq (pv 1) pe_int (fun _ _ => rfl)) pa_nil))))))) pa_nil))))
      (pss_one ps_never)
      pss_nil)
      (pss_one (ps_ret (C8.pe_c c_is_ascending hr (by omega) (by rfl) (pa_cons (pe_lc (own := [("pair", 1)]) (g := gName 1) (tt := tYes) rfl sc_is_files.nd (pi_seq (pv 0)) (blkOk_by (N := ["value", "pair"]) (sc := defScope s_is_files) (by decide +kernel)) (fun _ _ _ _ _ => (pg_name (i := 1) sc_is_files.nd rfl (.inl rfl))) (fun _ _ _ _ _ => pts_nil) (fun _ _ _ _ _ => (pe_ix (r := rIx K) ix_seq (pv 1) pe_int (fun _ _ => rfl)))) pa_nil)))))), ?_⟩
    refine ⟨fun σ' H' => σ' = [some (.ref a), none] ∧ Same H H', ?_, ?_⟩
    · refine ⟨_, rfl, a, _, rfl, ha, fun H1 s1 => ⟨_, rfl, iteF ?_⟩⟩
      refine ⟨_, rfl, a, _, rfl, SeqAt.sq (SeqAt.same s1 ha), _, _, rfl, rfl, _, rfl, ite2 (fun z => ?_) (fun _ => ⟨rfl, s1⟩)⟩
      have := of_decide_eq_true z
      omega
    rintro σ' H' ⟨rfl, s1⟩
    refine st_seq ?_
    refine st_if (tt_not (tt_b (te_cb (ta_cons (te_lc ?_)))))
    refine seq_walk (SeqAt.same s1 ha) (fun Q q => ⟨_, rfl, q⟩) fun J G w hG D hD => ?_
    refine lc_it w (fun i H2 => Same H' H2 ∧ H2 D = some (.lst ((List.replicate i true).map V.bl))) ⟨Same.new hD, upd_same⟩ (fun i H2 _ q => hG H2 q.1) ?_ ?_
    · rintro i y Hx H2 hi ⟨s2, e2⟩ ⟨rfl, hy⟩
      have hil : i < fs.length := by omega
      have hqi : fs[i]? = some fs[i] := List.getElem?_eq_getElem hil
      obtain ⟨v, hv, hrep⟩ := hvs.get (i := i) (d := pairD fs[i]) (by rw [List.getElem?_map, hqi]; rfl)
      obtain rfl : v = y := Option.some.inj (hv.symm.trans hy)
      have s12 : Same H H2 := fun b o e => s2 b o (s1 b o e)
      obtain ⟨c, rfl, hc⟩ := pairL_of (hrep.same s12)
      have ok := hq _ (List.getElem_mem hil)
      refine ⟨rfl, _, rfl, c, _, 2, rfl, hc, fun H4 s4 => ⟨_, rfl, iteT ?_⟩⟩
      refine ⟨_, rfl, ix_any (SeqAt.same s4 hc) rfl ⟨_, rfl, ok.path, ok.len, fun H5 s5 => ⟨_, rfl, iteT ?_⟩⟩⟩
      refine ⟨_, rfl, ix_any (SeqAt.same s5 (SeqAt.same s4 hc)) rfl ⟨_, rfl, ok.cont, fun H6 s6 => ?_⟩⟩
      have e6 := s6 _ _ (s5 _ _ (s4 _ _ e2))
      refine ⟨_, e6, ?_, Same.mut (fun b o e => s6 b o (s5 b o (s4 b o (s2 b o e)))) hD, ?_⟩
      · rw [List.length_map, List.length_replicate]
        exact small_lt (by omega)
      · rw [upd_same, List.replicate_succ', List.map_append]
        rfl
    · rintro H2 ⟨s2, e2⟩
      have : (List.replicate vs.length true).all id = true := List.all_eq_true.mpr fun b hb => (List.mem_replicate.mp hb).2
      refine ⟨D, _, rfl, SqL.of e2, _, rfl, ?_⟩
      rw [this]
      refine iteF ?_
      have s1 : Same H H2 := fun b o e => s2 b o (s1 b o e)
      refine st_next ?_
      dsimp only
      refine st_ret (te_call (ta_cons (te_lc ?_)))
      refine seq_walk (SeqAt.same s1 ha) (fun Q q => ⟨_, rfl, q⟩) fun J G w hG D hD => ?_
      refine lc_it w (fun i H3 => Same H2 H3 ∧ H3 D = some (.lst (((fs.map (·.1)).take i).map V.str))) ⟨Same.new hD, upd_same⟩ (fun i H2 _ q => hG H2 q.1) ?_ ?_
      · rintro i y Hx H3 hi ⟨s3, e3⟩ ⟨rfl, hy⟩
        have hil : i < fs.length := by omega
        have hqi : fs[i]? = some fs[i] := List.getElem?_eq_getElem hil
        obtain ⟨v, hv, hrep⟩ := hvs.get (i := i) (d := pairD fs[i]) (by rw [List.getElem?_map, hqi]; rfl)
        obtain rfl : v = y := Option.some.inj (hv.symm.trans hy)
        have s12 : Same H H3 := fun b o e => s3 b o (s1 b o e)
        obtain ⟨c, rfl, hc⟩ := pairL_of (hrep.same s12)
        refine ⟨rfl, _, rfl, ix_any hc rfl ⟨_, e3, ?_, Same.mut s3 hD, ?_⟩⟩
        · rw [List.length_map, List.length_take, List.length_map]
          exact small_lt (by omega)
        · rw [upd_same, List.take_add_one, List.getElem?_map, hqi, List.map_append]
          rfl
      · rintro H3 ⟨s3, e3⟩
        rw [List.take_of_length_le (by rw [List.length_map]; omega)] at e3
        exact ⟨D, _, rfl, e3, asc, by rw [List.length_map]; omega, fun H4 s4 => k H4 fun b o e => s4 b o (s3 b o (s1 b o e))⟩
end
end Kl

namespace Ks
open PySem L2
/-! {**a, **b, ..}: each dict poured into the new one -/
section
variable {P : Program} {w : World} {T : Type} [DecidableEq T] {kd : KeyKind P w T} {A : Around} {E : Value → Shared → Prop} {s : Shared}
theorem put_wp {a : Addr} {l : List (T × Value)} {k : T} {u v : Value} {Q : Unit → Shared → Prop} (hu : kd.is k u = true) (m : s.heap.DictOf kd a l) (z : l.length ≤ sizeLine)
    (q : ∀ h2, h2.DictOf kd a (stored l k v) → Heap.SameBut a s.heap h2 → Q () { s with heap := h2 }) : wpAny (model P w) A (dictPut a (kd.hash k) u v) Q E s := by
  obtain ⟨ob, ents, n, g1, g2, g3, g4, g5, g6⟩ := m
  have sz : ents.size ≤ sizeLine := by
    have a1 := g5.length
    have a2 : ents.toList.length = ents.size := by simp
    omega
  unfold dictPut
  refine wpAny_bind (wpAny_dictFind_of hu g1 g3 g4 ?_)
  have ix : (ents.findIdx? fun e => kd.is k e.key) = l.findIdx? fun kv => decide (kv.1 = k) := by
    rw [← g5.findIdx k]
    obtain ⟨ls⟩ := ents
    simp
  cases c : ents.findIdx? fun e => kd.is k e.key with
  | some i =>
    refine wpAny_updateDict g1 g3 (q _ ⟨_, _, n, Heap.get?_update_self _ g1 (Obj.isFreed_of_dict (Obj.data_mapDict g3 _)), g2.mapDict _, Obj.data_mapDict g3 _, g4.modify _ _, ?_, ?_⟩ (Heap.SameBut.update ..))
    · rw [stored, if_pos (any_of_findIdx_some (ix ▸ c))]
      have c2 : (ents.toList.findIdx? fun e => kd.is k e.key) = some i := by
        rw [← c]
        obtain ⟨ls⟩ := ents
        simp
      have := g5.modify g6 c2 v
      obtain ⟨ls⟩ := ents
      simpa using this
    · rw [stored, if_pos (any_of_findIdx_some (ix ▸ c)), keys_map_store]
      exact g6
  | none =>
    have c1 : k ∉ l.map (·.1) := not_mem_of_findIdx_none (ix ▸ c)
    have c2 : ¬ (l.any fun kv => decide (kv.1 = k)) = true := fun e => by
      obtain ⟨kv, h1, h2⟩ := List.any_eq_true.mp e
      exact c1 (List.mem_map.mpr ⟨kv, h1, of_decide_eq_true h2⟩)
    refine wpAny_updateDictKeys (hz := sz) g1 g3 (q _ ⟨_, _, n + 1, Heap.get?_update_self _ g1 (Obj.isFreed_of_dict (Obj.data_mapDictKeys g3 _)), g2.mapDictKeys _, Obj.data_mapDictKeys g3 _, g4.push hu _, ?_, ?_⟩ (Heap.SameBut.update ..))
    · rw [stored, if_neg c2]
      have := g5.append hu (kd.hash k) v
      obtain ⟨ls⟩ := ents
      simpa using this
    · rw [stored, if_neg c2, List.map_append, List.nodup_append]
      refine ⟨g6, by simp, fun x hx y hy => ?_⟩
      simp only [List.map_cons, List.map_nil, List.mem_singleton] at hy
      subst hy
      exact fun e => c1 (e ▸ hx)
theorem pour_wp {a o : Addr} {l m : List (T × Value)} {Q : Unit → Shared → Prop} (ne : a ≠ o) (ns : (o == sysModules) = false) (ha : s.heap.DictOf kd a l) (ho : s.heap.DictOf kd o m) (z : l.length + m.length ≤ sizeLine)
    (q : ∀ h2, h2.DictOf kd a (merged l m) → h2.DictOf kd o m → Heap.SameBut a s.heap h2 → Q () { s with heap := h2 }) : wpAny (model P w) A (mergeMapping a (.ref o) false) Q E s := by
  obtain ⟨oa, ea, na, ga1, ga2, ga3, ga4, ga5, ga6⟩ := id ha
  obtain ⟨oo, eo, no, go1, go2, go3, go4, go5, go6⟩ := id ho
  have len : m.length = eo.size := by
    rw [← go5.length]
    simp
  unfold mergeMapping
  refine wpAny_bind (wpAny_isInstance ho.typeIs isSubtype_dict_dict ?_)
  rw [if_pos rfl]
  refine wpAny_bind (wpAny_specialOf ho.typeIs F.slot_dict_iter.lookup (wpAny_bind (wpAny_pure ?_)))
  dsimp only
  rw [show ((some (Value.builtin "dict.__iter__") == some (Value.builtin "dict.__iter__")) = true) from rfl]
  dsimp only
  rw [if_neg (by rw [ns]; exact Bool.false_ne_true)]
  refine wpAny_bind (wpAny_dictEntries ga1 ga3 ?_)
  have stay : ∀ x ∈ eo, ∀ b, x.key ≠ .ref b := fun x hx b e => by
    obtain ⟨k, hk, _⟩ := go4 x hx
    have := kd.byValue k _ hk
    rw [e] at this
    cases this
  refine dite (ea.isEmpty = true) (fun c => ?one) (fun c => ?two)
  case' one =>
    rw [if_pos c]
    refine wpAny_bind (wpAny_dictEntries go1 go3 (wpAny_bind ?_))
    rw [← Array.forIn_toList]
    refine wpAny_forIn_list _ (fun rest _ s' => s' = s ∧ ∀ x ∈ rest, x ∈ eo) _ ?turn ?fin eo.toList _ ⟨rfl, fun x hx => Array.mem_toList_iff.mp hx⟩
  case turn =>
    rintro x rest b s' ⟨rfl, h⟩
    have hk := stay x (h x (List.mem_cons_self ..))
    split
    · rename_i b e
      exact absurd e (hk b)
    · exact wpAny_pure ⟨rfl, fun y hy => h y (List.mem_cons_of_mem _ hy)⟩
  case' fin =>
    rintro b s' ⟨e, _⟩
    rw [e]
  case' two => rw [if_neg c]
  all_goals
    refine wpAny_bind (wpAny_dictEntries go1 go3 ?_)
    refine wpAny_bind (wpAny_dictEpoch go1 go3 ?_)
    refine wpAny_bind ?_
    refine wpAny_forIn_list _ (fun rest _ st => ∃ (h2 : Heap) (i : Nat), st = { s with heap := h2 } ∧ rest = (List.range eo.size).drop i ∧ i ≤ eo.size ∧ h2.DictOf kd a (merged l (m.take i)) ∧ h2.get? o = some oo ∧ Heap.SameBut a s.heap h2) _ ?_ ?_ _ _
      ⟨s.heap, 0, rfl, List.drop_zero.symm, Nat.zero_le _, ha, go1, Heap.SameBut.refl _ _⟩
    · rintro x rest b st ⟨h2, i, rfl, er, le, d2, o2, sb⟩
      have hi : i < eo.size := by
        rcases Nat.lt_or_ge i eo.size with h | h
        · exact h
        · rw [List.drop_eq_nil_of_le (by rw [List.length_range]; exact h)] at er
          cases er
      rw [List.drop_eq_getElem_cons (by rw [List.length_range]; exact hi), List.getElem_range] at er
      obtain ⟨rfl, rfl⟩ := List.cons.inj er
      refine wpAny_bind (wpAny_dictEntries o2 go3 ?_)
      rw [Array.getElem?_eq_getElem hi]
      have hm : m[x]? = some (m[x]'(by rw [len]; exact hi)) := List.getElem?_eq_getElem _
      generalize m[x]'(by rw [len]; exact hi) = kv at hm
      obtain ⟨k, v⟩ := kv
      obtain ⟨hk, hv⟩ := go5.get? (e := eo[x]) (by simp [hi]) hm
      obtain ⟨k2, hk2, hh⟩ := go4 eo[x] (Array.getElem_mem hi)
      obtain rfl : k2 = k := kd.inj _ _ _ hk2 hk
      have zz : (merged l (m.take x)).length ≤ sizeLine := by
        have a1 := merged_length_le l (m.take x)
        have a2 : (m.take x).length ≤ m.length := by
          rw [List.length_take]
          omega
        omega
      dsimp only
      rw [hh, hv]
      refine wpAny_bind (wpAny_holding ?_)
      rw [if_neg Bool.false_ne_true]
      refine put_wp hk d2 zz fun h3 d3 sb3 => ?_
      have o3 : h3.get? o = some oo := (sb3.2 o (Ne.symm ne)).trans o2
      refine wpAny_bind (wpAny_dictEpoch o3 go3 ?_)
      rw [if_neg (by simp)]
      exact wpAny_pure ⟨h3, x + 1, rfl, rfl, hi, by rw [merged_take_succ l m x (k2, v) hm]; exact d3, o3, sb.trans sb3⟩
    · rintro b st ⟨h2, i, rfl, er, le, d2, o2, sb⟩
      have hi : i = eo.size := by
        rcases Nat.lt_or_ge i eo.size with h | h
        · rw [List.drop_eq_getElem_cons (by rw [List.length_range]; exact h)] at er
          cases er
        · exact Nat.le_antisymm le h
      refine wpAny_pure (q h2 ?_ (ho.sameBut sb (Ne.symm ne)) sb)
      rw [hi, ← len, List.take_length] at d2
      exact d2
end
end Ks

namespace Ks
open PySem L2
section
variable {X : Cx} {e1 e2 e3 : Expr} {t1 t2 t3 : TE} {pos : Pos}
theorem inv_pour {pins : List (Addr × Obj)} {σ : L2.St} {H : Hp} {s : Shared} {E : Value → Shared → Prop} {A : Around} {a o : Addr} {ka ko : List (Key × V)} {Q : Unit → Shared → Prop} (I : Inv X pins σ H s) (ha : H a = some (.dK ka)) (ho : H o = some (.dK ko)) (ne : a ≠ o) (z : ka.length + ko.length ≤ sizeLine)
    (q : ∀ s', Inv X pins σ (upd H a (.dK (mergeK ka ko))) s' → Q () s') : wpAny (model X.prog X.w) A (mergeMapping a (.ref o) false) Q E s := by
  obtain ⟨z1, n1, va, ra, da⟩ := dk_of I.hok ha
  obtain ⟨z2, n2, vo, ro, dd⟩ := dk_of I.hok ho
  have l1 := ra.length
  have l2 := ro.length
  refine pour_wp ne n2 da dd (by omega) fun h2 d2 o2 sb => q _ ?_
  have he : ∃ y, h2.get? a = some y := let ⟨y, _, _, hy, _⟩ := d2; ⟨y, hy⟩
  exact d_write I (by rw [ha]; exact True.intro) sb he (dk_new (Nat.le_trans (length_mergeK ko ka) z) n1 (KV.merge ro ra) d2)
/-- one dict more, poured into the one at p that holds acc -/
def tPour (p : Addr) (acc : List (Key × V)) (t : TE) (k : List (Key × V) → St → Hp → Prop) : St → Hp → Prop := fun σ H => t σ H fun x H1 => ∃ (a : Addr) (ka : List (Key × V)), x = .ref a ∧ H1 p = some (.dK acc) ∧ H1 a = some (.dK ka) ∧ p ≠ a ∧ acc.length + ka.length ≤ sizeLine ∧ k (mergeK acc ka) σ (upd H1 p (.dK (mergeK acc ka)))
/-- {**e1, **e2} -/
def tStar2 (t1 t2 : TE) : TE := fun σ H Q => ∀ p, H p = none → tPour p [] t1 (fun acc => tPour p acc t2 fun _ _ H1 => Q (.ref p) H1) σ (upd H p (.dK []))
def tStar3 (t1 t2 t3 : TE) : TE := fun σ H Q => ∀ p, H p = none → tPour p [] t1 (fun acc => tPour p acc t2 fun acc => tPour p acc t3 fun _ _ H1 => Q (.ref p) H1) σ (upd H p (.dK []))
theorem pe_star2 (h1 : PE X e1 t1) (h2 : PE X e2 t2) : PE X (.Dict [none, none] [e1, e2] pos) (tStar2 t1 t2) := by
  refine ⟨fun pins s σ H Q I h => ?_⟩
  rw [arm_eval_Dict]
  have e : (evalEachOpt [none, none] X.env).zip ((evalEach [e1, e2] X.env).map fun v => do let x ← v; standAt pos; pure x) = [(none, do let x ← eval e1 X.env; standAt pos; pure x), (none, do let x ← eval e2 X.env; standAt pos; pure x)] := rfl
  rw [e]
  unfold dictDisplay
  refine wpAny_bind (wpAny_standAt ?_)
  dsimp only
  refine wpAny_bind ?_
  rw [List.forIn_cons]
  refine wpAny_bind ?_
  dsimp only
  refine wpAny_bind (wpAny_pure (a := none) ?_)
  dsimp only
  refine wpAny_bind (wpAny_alloc ?_)
  have big := I.big
  have fr := I.hok.fresh (Nat.le_refl s.heap.objs.size)
  have I1 := I.laid (a := s.heap.objs.size) (o := .dK []) (h' := s.heap.push { cls := .type "dict", data := .dict #[] }) (t' := s.toks) (fun _ _ y => Heap.get?_push_of_some _ y) (Nat.le_refl _) (dk_empty s.heap big)
  refine wpAny_bind (wpAny_holding (wpAny_bind (thn (h1.run pins _ σ _ _ I1 (h _ fr)) fun v s1 ⟨x, H1, J1, r1, a, ka, ex, p1, a1, ne1, z1, h⟩ => ?_)))
  subst ex
  cases r1
  refine wpAny_bind (wpAny_standAt (wpAny_pure ?_))
  refine wpAny_bind (wpAny_onRaise (wpAny_tryCatch (wpAny_onRaise (wpAny_holding (inv_pour J1 p1 a1 ne1 z1 fun s2 J => ?_)))))
  refine wpAny_pure ?_
  dsimp only
  rw [List.forIn_cons]
  refine wpAny_bind ?_
  dsimp only
  refine wpAny_bind (wpAny_pure (a := some s.heap.objs.size) ?_)
  dsimp only
  refine wpAny_bind (wpAny_pure ?_)
  refine wpAny_bind (wpAny_holding (wpAny_bind (thn (h2.run pins _ σ _ _ J h) fun v s1 ⟨x, H1, J1, r1, a, ka, ex, p1, a1, ne1, z1, h⟩ => ?_)))
  subst ex
  cases r1
  refine wpAny_bind (wpAny_standAt (wpAny_pure ?_))
  refine wpAny_bind (wpAny_onRaise (wpAny_tryCatch (wpAny_onRaise (wpAny_holding (inv_pour J1 p1 a1 ne1 z1 fun s2 J => ?_)))))
  refine wpAny_pure ?_
  dsimp only
  rw [List.forIn_nil]
  refine wpAny_pure ?_
  dsimp only
  refine wpAny_bind (wpAny_pure (a := some s.heap.objs.size) ?_)
  dsimp only
  exact wpAny_pure ⟨.ref s.heap.objs.size, _, J, rfl, h⟩
theorem pe_star3 (h1 : PE X e1 t1) (h2 : PE X e2 t2) (h3 : PE X e3 t3) : PE X (.Dict [none, none, none] [e1, e2, e3] pos) (tStar3 t1 t2 t3) := by
  refine ⟨fun pins s σ H Q I h => ?_⟩
  rw [arm_eval_Dict]
  have e : (evalEachOpt [none, none, none] X.env).zip ((evalEach [e1, e2, e3] X.env).map fun v => do let x ← v; standAt pos; pure x) = [(none, do let x ← eval e1 X.env; standAt pos; pure x), (none, do let x ← eval e2 X.env; standAt pos; pure x), (none, do let x ← eval e3 X.env; standAt pos; pure x)] := rfl
  rw [e]
  unfold dictDisplay
  refine wpAny_bind (wpAny_standAt ?_)
  dsimp only
  refine wpAny_bind ?_
  rw [List.forIn_cons]
  refine wpAny_bind ?_
  dsimp only
  refine wpAny_bind (wpAny_pure (a := none) ?_)
  dsimp only
  refine wpAny_bind (wpAny_alloc ?_)
  have big := I.big
  have fr := I.hok.fresh (Nat.le_refl s.heap.objs.size)
  have I1 := I.laid (a := s.heap.objs.size) (o := .dK []) (h' := s.heap.push { cls := .type "dict", data := .dict #[] }) (t' := s.toks) (fun _ _ y => Heap.get?_push_of_some _ y) (Nat.le_refl _) (dk_empty s.heap big)
  refine wpAny_bind (wpAny_holding (wpAny_bind (thn (h1.run pins _ σ _ _ I1 (h _ fr)) fun v s1 ⟨x, H1, J1, r1, a, ka, ex, p1, a1, ne1, z1, h⟩ => ?_)))
  subst ex
  cases r1
  refine wpAny_bind (wpAny_standAt (wpAny_pure ?_))
  refine wpAny_bind (wpAny_onRaise (wpAny_tryCatch (wpAny_onRaise (wpAny_holding (inv_pour J1 p1 a1 ne1 z1 fun s2 J => ?_)))))
  refine wpAny_pure ?_
  dsimp only
  rw [List.forIn_cons]
  refine wpAny_bind ?_
  dsimp only
  refine wpAny_bind (wpAny_pure (a := some s.heap.objs.size) ?_)
  dsimp only
  refine wpAny_bind (wpAny_pure ?_)
  refine wpAny_bind (wpAny_holding (wpAny_bind (thn (h2.run pins _ σ _ _ J h) fun v s1 ⟨x, H1, J1, r1, a, ka, ex, p1, a1, ne1, z1, h⟩ => ?_)))
  subst ex
  cases r1
  refine wpAny_bind (wpAny_standAt (wpAny_pure ?_))
  refine wpAny_bind (wpAny_onRaise (wpAny_tryCatch (wpAny_onRaise (wpAny_holding (inv_pour J1 p1 a1 ne1 z1 fun s2 J => ?_)))))
  refine wpAny_pure ?_
  dsimp only
  rw [List.forIn_cons]
  refine wpAny_bind ?_
  dsimp only
  refine wpAny_bind (wpAny_pure (a := some s.heap.objs.size) ?_)
  dsimp only
  refine wpAny_bind (wpAny_pure ?_)
  refine wpAny_bind (wpAny_holding (wpAny_bind (thn (h3.run pins _ σ _ _ J h) fun v s1 ⟨x, H1, J1, r1, a, ka, ex, p1, a1, ne1, z1, h⟩ => ?_)))
  subst ex
  cases r1
  refine wpAny_bind (wpAny_standAt (wpAny_pure ?_))
  refine wpAny_bind (wpAny_onRaise (wpAny_tryCatch (wpAny_onRaise (wpAny_holding (inv_pour J1 p1 a1 ne1 z1 fun s2 J => ?_)))))
  refine wpAny_pure ?_
  dsimp only
  rw [List.forIn_nil]
  refine wpAny_pure ?_
  dsimp only
  refine wpAny_bind (wpAny_pure (a := some s.heap.objs.size) ?_)
  dsimp only
  exact wpAny_pure ⟨.ref s.heap.objs.size, _, J, rfl, h⟩
end
end Ks

namespace Ks
open PySem PySem.Spec PyProof.Rows L2
section
variable {X : Cx}
/-- the pairs as they stand, and what the dict makes of them -/
theorem stand_pairs {pins : List (Addr × Obj)} {σ : L2.St} {H : Hp} {s : Shared} (I : Inv X pins σ H s) : ∀ {ps : List Addr} {kvs : List (Key × V)}, Paired (fun p kv => SqT X.K H p [kV kv.1, kv.2]) ps kvs →
    ∃ (us : List (Value × Value)) (prs : List (Key × Value)), KV kvs prs ∧ us.length = ps.length ∧ prs.length = ps.length ∧ ∀ (j : Nat) (k v : Value), us[j]? = some (k, v) → ∃ (b : Addr) (kk : Key), ps[j]? = some b ∧ IsTup s.heap b #[k, v] ∧ prs[j]? = some (kk, v) ∧ keyIs kk k = true
  | _, _, .nil => ⟨[], [], .nil, rfl, rfl, fun j k v e => by simp at e⟩
  | _, _, .cons (a := p) (b := kv) h t => by
    obtain ⟨us, prs, r, l1, l2, w⟩ := stand_pairs I t
    obtain ⟨its, rv, tp, _⟩ := I.tuple h
    obtain ⟨u, y, ei, ru, ry⟩ := vals2 rv
    subst ei
    refine ⟨(u, y) :: us, (kv.1, y) :: prs, .cons ⟨rfl, ry⟩ r, by rw [List.length_cons, List.length_cons, l1], by rw [List.length_cons, List.length_cons, l2], fun j k v e => ?_⟩
    cases j with
    | zero =>
      have e' : (u, y) = (k, v) := Option.some.inj e
      cases e'
      exact ⟨p, kv.1, rfl, tp, rfl, kV_is (P := X.prog) (w := X.w) ru⟩
    | succ j =>
      obtain ⟨b, kk, e1, e2, e3, e4⟩ := w j k v (by simpa using e)
      exact ⟨b, kk, by simpa using e1, e2, by simpa using e3, e4⟩
/-- dict(t), t a tuple of pairs that is known to have no dict of its own -/
theorem call_dict_tup (hc : X.calm = true) : CallR X (.type "dict") (fun xs H Q => ∃ (a : Addr) (o : Obj) (ps : List Addr) (kvs : List (Key × V)), xs = [.ref a] ∧ H a = some (.frz o (.tup (ps.map V.ref))) ∧ o.dict = none ∧ Paired (fun p kv => SqT X.K H p [kV kv.1, kv.2]) ps kvs ∧
    ∀ p, H p = none → Q (.ref p) (upd H p (.dK (mergeK [] kvs)))) := by
  intro pins s σ H xs us Q I r q
  obtain ⟨a, o, ps, kvs, ex, ha, hd, hp, q⟩ := q
  subst ex
  obtain ⟨u, eu, rx⟩ := vals1 r
  subst eu
  cases rx
  obtain ⟨go, z, its, rv, o2, go2, gc, n, gd⟩ : s.heap.get? a = some o ∧ ObjOk X.prog X.w H s.heap a (.tup (ps.map V.ref)) := I.hok a _ ha
  obtain rfl : o = o2 := Option.some.inj (go.symm.trans go2)
  have ei := refs_at rv
  subst ei
  obtain ⟨us, prs, rel, l1, l2, w⟩ := stand_pairs I hp
  rw [List.length_map] at z
  have big := I.big
  have sq : PlainSeq "tuple" s.heap a (ps.map Value.ref).toArray := ⟨o, n, go, gc, hd, gd⟩
  have it : PairItems s.heap (ps.map Value.ref).toArray (fun j => ps.getD j 0) us := by
    refine ⟨by simp [l1], fun j k v e => ?_⟩
    obtain ⟨b, kk, e1, e2, _, _⟩ := w j k v e
    refine ⟨by simp [e1], .inl ?_⟩
    have e3 : ps.getD j 0 = b := by simp [e1]
    show IsTup s.heap (ps.getD j 0) #[k, v]
    rw [e3]
    exact e2
  have hv : PairsHave (mixKind X.prog X.w) us.length (PairRel us) prs := ⟨by rw [l1, l2], fun j k v e => by
    obtain ⟨b, kk, _, _, e3, e4⟩ := w j k v e
    exact ⟨kk, e3, e4⟩⟩
  refine PySem.call_dict_pairs (PairArg.tuple a _ (fun j => ps.getD j 0) us) (I.ok.hd hc) ⟨sq, it⟩ hv (by omega) fun h2 tk d2 k => ?_
  have ms : (s.heap.objs.size == sysModules) = false := beq_eq_false_iff_ne.mpr (Nat.ne_of_gt big)
  have lz : (mergeK [] kvs).length ≤ sizeLine := by
    refine Nat.le_trans (length_mergeK kvs []) ?_
    rw [List.length_nil, Nat.zero_add, rel.length, l2]
    exact z
  exact ⟨.ref s.heap.objs.size, upd H s.heap.objs.size (.dK (mergeK [] kvs)), I.laid (t' := tk) (fun b o e => k b o (by simp) e) (Nat.le_refl _) (show ObjOk X.prog X.w _ _ _ (.dK (mergeK [] kvs)) from ⟨lz, ms, merged [] prs, KV.merge rel .nil, d2⟩), rfl, q _ (I.hok.fresh (Nat.le_refl _))⟩
/-- tuple(xs), xs a list: a new tuple, known to have no dict of its own -/
theorem call_tup_frz : CallR X (.type "tuple") (fun xs H Q => ∃ (p : Addr) (ys : List V), xs = [.ref p] ∧ SqL X.K H p ys ∧ ∀ (l : Addr) (o : Obj), H l = none → o.dict = none → Q (.ref l) (upd H l (.frz o (.tup ys)))) := by
  intro pins s σ H xs us Q I r h
  obtain ⟨p, ys, rfl, hq, q⟩ := h
  obtain ⟨u, rfl, rx⟩ := vals1 r
  cases rx
  obtain ⟨its, r', pl, hz⟩ := I.list hq
  have n := r'.length
  refine call_tuple_list pl.isList (fun h2 k2 => ?_) (by simp only [List.size_toArray] <;> omega)
  have J : Inv X pins σ H { s with heap := h2 } := I.kept (t' := s.toks) k2
  have at2 : (h2.push { cls := .type "tuple", data := .seq its.toArray }).get? h2.objs.size = some { cls := .type "tuple", data := .seq its.toArray } := Heap.get?_push_size _ rfl
  have ok : ObjOk X.prog X.w (upd H h2.objs.size (.frz { cls := .type "tuple", data := .seq its.toArray } (.tup ys))) (h2.push { cls := .type "tuple", data := .seq its.toArray }) h2.objs.size (.frz { cls := .type "tuple", data := .seq its.toArray } (.tup ys)) :=
    ⟨at2, hz, its, r', IsTup.new _ _⟩
  exact ⟨.ref h2.objs.size, _, J.laid (t' := s.toks) (fun b o e => Heap.get?_push_of_some _ e) (Nat.le_refl _) ok, rfl, q _ _ (J.hok.fresh (Nat.le_refl _)) rfl⟩
end
end Ks

namespace Ks
open PySem PySem.Spec PyProof.Rows L2
theorem back {P : Value → Shared → Prop} {z : V} {v : Value} {s' : Shared} (r : RelV z v) (h : P v s') : PySem.W.CmpBack P v s' := by
  cases z with
  | non => cases (show v = Value.none from r); exact h
  | bl b => cases (show v = Value.bool b from r); exact h
  | int i => obtain ⟨t, e⟩ := (show ∃ t, v = Value.int i t from r); cases e; exact h
  | str x => obtain ⟨t, e⟩ := (show ∃ t, v = Value.str x t from r); cases e; exact h
  | byt b => obtain ⟨t, e⟩ := (show ∃ t, v = Value.bytes b t from r); cases e; exact h
  | flt b => obtain ⟨t, e⟩ := (show ∃ t, v = Value.float b t from r); cases e; exact h
  | ref a => cases (show v = Value.ref a from r); exact h
  | ty n => cases (show v = Value.type n from r); exact h
section
variable {X : Cx} {CX : CXT} {C f : Addr} {fd : FuncData} {ps : List Str} {n : Nat} {sp : Sp} {E : XK} {pos : Pos}
/-- x == y by the class's own def, y of a known type -/
def rOwnI (K : PySem.W.Frag) (C : Addr) (sp : Sp) (E : XK) : R2 := fun x y H Q => ∃ a dx fs tb, x = .ref a ∧ H a = some (.ins C dx fs) ∧ TyX K H y tb ∧ PySem.W.notFirst K C tb = true ∧ sp [x, y] H Q E
theorem op_ownI (F : FnOk X.prog X.w X.K X.mg X.base CX n f fd ps sp) (hs : PySem.W.findIn X.K (.ref C) "__eq__" = some (some (.ref f))) (hf : PySem.W.isFn X.K (.ref f) = true) (hb : Binds X.K fd ps []) (hr : Room n X.A) (hx : Passes CX X E) : OpR X (compareOp .Eq) (rOwnI X.K C sp E) := by
  intro pins s σ H x y v u Q I rx ry h
  obtain ⟨a, dx, fs, tb, rfl, ha, ty, hn, q⟩ := h
  cases (show v = Value.ref a from rx)
  obtain ⟨mA, J, _⟩ := ins_get I.hok ha
  obtain ⟨od, J, _⟩ := J.look
  obtain ⟨m, hF⟩ := I.fr
  obtain ⟨P, Z, p, _⟩ := kit_of I ry ty
  show wpAny (model X.prog X.w) X.A (richCompare .Eq (.ref a) u) (EP X pins σ Q) X.xe s
  refine PySem.W.cmp_K (op := .Eq) (tb := tb) hr.units0 hF I.ok.mod.kin J (Z.ty _ _ I.kIn p) hn hs hf ?_
  refine wpAny_mono (run_fn (us := [.ref a, u]) (vs := [.ref a, y]) F hr hb .nil hx I (.cons rfl (.cons ry .nil)) q) (fun w s' z => ?_) fun _ _ x => x
  obtain ⟨z', H', I', rz, qz⟩ := z
  exact back rz ⟨z', H', I', rz, qz⟩
/-- (a, b, ..) = a tuple or a list of that length -/
def gSeq (K : PySem.W.Frag) (n : Nat) (t : TGs) : TG := fun v σ H Q => gTup K n t v σ H Q ∨ gUnl K n t v σ H Q
theorem pg_seq {es : List Expr} {k : Nat} {t : TGs} {n : Nat} (hc : X.calm = true) (h : PGs X es t)
    (hn : (assignEach es X.env).length = n := by rfl) (hst : (assignEach es X.env).findIdx? (·.1) = none := by rfl) : PG X (.Tuple es k pos) (gSeq X.K n t) :=
  ⟨fun pins s σ H v u Q I r hw => hw.elim ((pg_tup hc h hn hst).run pins s σ H v u Q I r) ((pg_unl hc h hn hst).run pins s σ H v u Q I r)⟩
end
end Ks
namespace Kl
open PySem L2 Kd
/-! data as the library compares it -/
mutual
def py : D → PyData
  | .non => .none
  | .bl b => .bool b
  | .int i => .int i
  | .str x => .str x
  | .tup ds => .tuple (pys ds)
def pys : List D → List PyData
  | [] => []
  | d :: ds => py d :: pys ds
end
mutual
theorem Rep.dp {K : PySem.W.Frag} {H : Hp} : ∀ {d : D} {v : V}, Rep H d v → Dp K H v (py d)
  | .non, _, h => by cases (show _ = V.non from h); exact .non
  | .bl b, _, h => by cases (show _ = V.bl b from h); exact .bl b
  | .int i, _, h => by cases (show _ = V.int i from h); exact .int i
  | .str x, _, h => by cases (show _ = V.str x from h); exact .str x
  | .tup ds, _, ⟨a, vs, e, h, _, r⟩ => by subst e; exact .tup (.inl h) (Reps.dp r)
theorem Reps.dp {K : PySem.W.Frag} {H : Hp} : ∀ {ds : List D} {vs : List V}, Reps H ds vs → DpAll K H vs (pys ds)
  | [], _, h => by cases (show _ = [] from h); exact .nil
  | d :: ds, _, ⟨v, r, e, h, q⟩ => by subst e; exact .cons (Rep.dp h) (Reps.dp q)
end
theorem lay_cont {x : Str} (h : Cont x) : PyData.canLay0 (.str x) = true := by
  show (x.cps.all (· < 0x110000)) = true
  rw [← Array.all_toList, List.all_eq_true]
  intro c hc
  refine decide_eq_true ?_
  rcases h.all c hc with e | e
  · omega
  · have := okx_of e
    omega
structure Good (fs : Fs) : Prop where
  ok : ∀ q ∈ fs, PairOk q
  asc : Asc (fs.map (·.1))
  few : fs.length ≤ 60
theorem lay_files : ∀ {fs : Fs}, (∀ q ∈ fs, PairOk q) → PyData.canLayAll0 (pys (fs.map pairD)) = true
  | [], _ => rfl
  | q :: r, h => by
    have h1 := h q (List.mem_cons_self ..)
    have ih := lay_files (fs := r) fun z hz => h z (List.mem_cons_of_mem _ hz)
    have e1 := h1.lay
    have e2 := lay_cont h1.cont
    simp only [List.map_cons, pys, py, pairD, PyData.canLayAll0, PyData.canLay0, Bool.and_true] at ih e1 e2 ⊢
    rw [e1, e2, ih]
    rfl
theorem depth_files : ∀ fs : Fs, PyData.depthAll (pys (fs.map pairD)) ≤ 1
  | [] => by simp [pys, PyData.depthAll]
  | q :: r => by
    have ih := depth_files r
    have e : PyData.depthAll (pys ((q :: r).map pairD)) = max (max 0 (max 0 0) + 1) (PyData.depthAll (pys (r.map pairD))) := rfl
    omega
theorem shaped_files {fs : Fs} (h : ∀ q ∈ fs, PairOk q) : SeqAt.shaped (py (filesD fs)) = true := by
  have e1 : (py (filesD fs)).canLay0 = true := lay_files h
  have e2 : (py (filesD fs)).depth ≤ 64 := by
    have := depth_files fs
    show PyData.depthAll (pys (fs.map pairD)) + 1 ≤ 64
    omega
  unfold SeqAt.shaped
  rw [e1, decide_eq_true e2]
  rfl
theorem eqv_files : ∀ fs gs : Fs, PyData.eqvAll (pys (fs.map pairD)) (pys (gs.map pairD)) = decide (fs = gs)
  | [], [] => rfl
  | [], _ :: _ => rfl
  | _ :: _, [] => rfl
  | (a, b) :: r, (c, d) :: s => by
    have ih := eqv_files r s
    simp only [List.map_cons, pys, py, pairD, PyData.eqvAll, PyData.eqv, Bool.and_true] at ih ⊢
    rw [ih]
    rw [Bool.eq_iff_iff]
    simp only [Bool.and_eq_true, beq_iff_eq, decide_eq_true_eq, List.cons.injEq, Prod.mk.injEq]
theorem eqv_filesD (fs gs : Fs) : PyData.eqv (py (filesD fs)) (py (filesD gs)) = decide (fs = gs) := eqv_files fs gs
/-! the trees -/
structure TreeF (K : PySem.W.Frag) (mg : Str → Option Value) (C : Addr) : Prop where
  cl : Cls K C
  ca : PySem.W.findIn K (.ref C) "__class__" = some (some (.builtin "object.__class__"))
  cg : PySem.W.specialIn K (.builtin "object.__class__") "__get__" = some (some (.builtin "getset_descriptor.__get__"))
  ct : PySem.W.takesIn K (.builtin "object.__class__") = some true
  cm : PySem.W.mroIn K C (.type "object") = some true
  mC : mg "Tree" = some (.ref C)
  nf : NoAttr K C "_files"
  kC : PySem.W.kitOne K (.ref C) (.ref C) = some true
  kT : PySem.W.kitOne K (.type "tuple") (.ref C) = some false
  kN : PySem.W.kitOne K (.type "NoneType") (.ref C) = some false
  fT : PySem.W.notFirst K C (.type "tuple") = true
  fN : PySem.W.notFirst K C (.type "NoneType") = true
theorem TreeF.fC {K : PySem.W.Frag} {mg : Str → Option Value} {C : Addr} (F : TreeF K mg C) : PySem.W.notFirst K C (.ref C) = true := by
  unfold PySem.W.notFirst
  rw [beq_self_eq_true, Bool.true_or]
def TreeAt (C : Addr) (H : Hp) (a : Addr) (fs : Fs) : Prop := ∃ (dx t : Addr) (o : Obj) (vs : List V), H a = some (.ins C dx [("_files", .ref t)]) ∧ H t = some (.frz o (.tup vs)) ∧ o.dict = none ∧ vs.length ≤ sizeLine ∧ Reps H (fs.map pairD) vs
theorem TreeAt.same {C : Addr} {H H' : Hp} {a : Addr} {fs : Fs} (s : Same H H') (h : TreeAt C H a fs) : TreeAt C H' a fs := by
  obtain ⟨dx, t, o, vs, h1, h2, h3, h4, h5⟩ := h
  exact ⟨dx, t, o, vs, s _ _ h1, s _ _ h2, h3, h4, h5.keep (Same.tk s)⟩
theorem TreeAt.ty {K : PySem.W.Frag} {mg : Str → Option Value} {C : Addr} {H : Hp} {a : Addr} {fs : Fs} (F : TreeF K mg C) (h : TreeAt C H a fs) : TyX K H (.ref a) (.ref C) := by
  obtain ⟨dx, t, o, vs, h1, _⟩ := h
  exact .base (.ins h1 F.cl F.ca F.cg F.ct F.cm)
def spInit (_ : PySem.W.Frag) (C : Addr) : Sp := fun vs H Q _ => ∃ (x dx : Addr) (v : V) (fs : Fs), vs = [.ref x, v] ∧ H x = some (.ins C dx []) ∧ RepL H (filesD fs) v ∧ Good fs ∧
  ∀ H' : Hp, (∀ b o, b ≠ x → H b = some o → H' b = some o) → TreeAt C H' x fs → Q .non H'
/-- a tree made -/
theorem te_make {C : Addr} {sp : Sp} {dvs : List V} {E : XK} {t : TA} {σ : L2.St} {H : Hp} {Q : VK} (h : t σ H fun vs H1 => ∀ x dx, H1 x = none → H1 dx = none → dx ≠ x → sp (.ref x :: (vs ++ dvs)) (upd (upd H1 dx (.own x)) x (.ins C dx [])) (fun v H2 => v = .non ∧ Q (.ref x) H2) E) : tMake C sp dvs E t σ H Q := h
theorem mk_leaf {K : PySem.W.Frag} {C : Addr} {H1 : Hp} {R : Addr → Hp → Prop} {v : V} {fs : Fs} (hr : RepL H1 (filesD fs) v) (hg : Good fs) (k : ∀ (a : Addr) (H' : Hp), Same H1 H' → TreeAt C H' a fs → R a H') :
    ∀ x dx, H1 x = none → H1 dx = none → dx ≠ x → spInit K C [.ref x, v] (upd (upd H1 dx (.own x)) x (.ins C dx [])) (fun v H2 => v = .non ∧ R x H2) C8.E0 := by
  intro x dx hx hd ne
  have s1 : Same H1 (upd (upd H1 dx (.own x)) x (.ins C dx [])) := fun b o e => by
    rw [upd_ne (ne_of_none e hx), upd_ne (ne_of_none e hd)]
    exact e
  exact ⟨x, dx, v, fs, rfl, upd_same, RepX.same s1 hr, hg, fun H' s tr => ⟨rfl, k x H' (fun b o e => s b o (ne_of_none e hx) (s1 b o e)) tr⟩⟩
section
variable {P : Program} {w : World} {K : PySem.W.Frag} {mg : Str → Option Value} {base : Heap}
abbrev s_Tree_init : Stmt := inClass (topS 27) 0
theorem sc_Tree_init : FnScope ["self", "files", "path", "content"] ["self", "files"] (defScope s_Tree_init) := ⟨rfl, rfl, rfl, by decide +kernel, rfl, by decide +kernel, by decide +kernel⟩
theorem ok_init {C f : Addr} {fd : FuncData} {dvs : List V} (F : FunD K "__init__" "Tree.__init__" (defArgs s_Tree_init) (defBody s_Tree_init) (defScope s_Tree_init) dvs [] f fd) (T : Glo mg) (TF : TreeF K mg C) (c_is_files : C8.Cal P w K mg base 4 "is_files" (spIsFiles K) []) :
    FnOk P w K mg base CX0 5 f fd ["self", "files"] (spInit K C) := by
  refine F.ok sc_Tree_init (fun vs H Q E h => ?_) (fun cdv A outer s H vs Q E hr h => ?_)
  · obtain ⟨x, dx, v, fs, rfl, _⟩ := h
    rfl
  · obtain ⟨x, dx, v, fs, rfl, hx, hv, hg, k⟩ := h
    have hfew := hg.few
    refine ⟨_, (pss_cons (ps_if (pt_not (pt_val (C8.pe_c c_is_files hr (by omega) (by rfl) (pa_cons (pv 1) pa_nil))))
      (pss_one ps_never)
      pss_nil)
      (pss_one (ps_fld (pv 0) (pe_callTy Ks.call_tup_frz (by rfl) T.tuple PyProof.Rows.boot_tuple (pa_cons (pe_lc (own := [("path", 2), ("content", 3)]) (g := (Ks.gSeq K 2 (gCons (gName 2) (gCons (gName 3) gNil)))) (tt := tYes) rfl sc_Tree_init.nd (pi_seq (pv 1)) (blkOk_by (N := ["self", "files", "path", "content"]) (sc := defScope s_Tree_init) (by decide +kernel)) (fun _ _ _ _ _ => (Ks.pg_seq rfl (pgs_cons (pg_name (i := 2) sc_Tree_init.nd rfl (.inl rfl)) (pgs_cons (pg_name (i := 3) sc_Tree_init.nd rfl (.inl rfl)) pgs_nil)))) (fun _ _ _ _ _ => pts_nil) (fun _ _ _ _ _ => (pe_tup (pa_cons (pv 2) (pa_cons (pv 3) pa_nil))))) pa_nil)) rfl))), ?_⟩
    refine st_seq (st_if (tt_not (tt_b (te_call (ta_cons ⟨_, rfl, ta_nil ⟨v, fs, rfl, hv, hg.ok, hg.asc, hfew, fun H1 s1 => ⟨_, rfl, ?_⟩⟩⟩)))))
    refine iteF (st_next ?_)
    dsimp only
    obtain ⟨a, vs, rfl, _, ha, _, hvs⟩ := RepX.same s1 hv
    have vl := hvs.len
    rw [List.length_map] at vl
    refine te_cb (ta_cons (te_lc ?_))
    refine seq_walk ha (fun Q q => ⟨_, rfl, q⟩) fun J G w hG D hD => ?_
    refine lc_it w (fun i H2 => Same H1 H2 ∧ ∃ ts : List V, H2 D = some (.lst ts) ∧ ts.length = i ∧ Reps H2 ((fs.take i).map pairD) ts) ⟨Same.new hD, [], upd_same, rfl, rfl⟩ (fun i H2 _ q => hG H2 q.1) ?_ ?_
    · rintro i y Hx H2 hi ⟨s2, ts, e2, l2, r2⟩ ⟨rfl, hy⟩
      have hil : i < fs.length := by omega
      have hqi : fs[i]? = some fs[i] := List.getElem?_eq_getElem hil
      obtain ⟨v, hv, hrep⟩ := hvs.get (i := i) (d := pairD fs[i]) (by rw [List.getElem?_map, hqi]; rfl)
      obtain rfl : v = y := Option.some.inj (hv.symm.trans hy)
      obtain ⟨c, rfl, hc⟩ := pairL_of (hrep.same s2)
      have fin : ∀ σ : L2.St, σ = [some (V.ref x), some (V.ref a), some (V.str fs[i].1), some (V.str fs[i].2)] → wipe σ [2, 3] = [some (V.ref x), some (V.ref a), none, none] ∧ tYes σ H2 fun b H3 =>
          if b = true then (tTup (tCons (tVar 2) (tCons (tVar 3) tNil))) σ H3 fun y H4 => ∃ acc, H4 D = some (.lst acc) ∧ acc.length < sizeLine ∧ (Same H1 (upd H4 D (.lst (acc ++ [y]))) ∧ ∃ ts : List V, upd H4 D (.lst (acc ++ [y])) D = some (.lst ts) ∧ ts.length = i + 1 ∧ Reps (upd H4 D (.lst (acc ++ [y]))) ((fs.take (i + 1)).map pairD) ts) else (Same H1 H3 ∧ ∃ ts : List V, H3 D = some (.lst ts) ∧ ts.length = i + 1 ∧ Reps H3 ((fs.take (i + 1)).map pairD) ts) := by
        rintro σ rfl
        refine ⟨rfl, _, rfl, _, rfl, (by show 2 ≤ sizeLine; decide), fun p hp => ?_⟩
        have hDp : D ≠ p := fun z => by
          rw [← z, e2] at hp
          cases hp
        refine ⟨ts, by rw [upd_ne hDp]; exact e2, small_lt (by omega), Same.mut (fun b o z => by rw [upd_ne (ne_of_none (s2 b o z) hp)]; exact s2 b o z) hD, ts ++ [.ref p], upd_same, by rw [List.length_append]; simp only [List.length_cons, List.length_nil]; omega, ?_⟩
        rw [map_take_succ pairD hqi]
        have tk : Tk (upd H2 p (.tup [.str fs[i].1, .str fs[i].2])) (upd (upd H2 p (.tup [.str fs[i].1, .str fs[i].2])) D (.lst (ts ++ [.ref p]))) := Tk.lst (by rw [upd_ne hDp]; exact e2)
        exact Reps.snoc (Reps.keep tk (Reps.keep (Tk.new hp) r2)) (Rep.keep tk (pair_rep upd_same))
      rcases hc with hc | hc
      · exact .inl ⟨c, _, rfl, .inl hc, rfl, _, _, rfl, _, _, rfl, rfl, fin _ rfl⟩
      · exact .inr ⟨c, _, rfl, SqL.of hc, rfl, _, _, rfl, _, _, rfl, rfl, fin _ rfl⟩
    · rintro H2 ⟨s2, ts, e2, l2, r2⟩
      rw [vl, List.take_length] at r2
      refine ⟨D, ts, rfl, SqL.of e2, fun l o hl ho => ?_⟩
      have s12 : Same H H2 := fun b o e => s2 b o (s1 b o e)
      have hx2 := s12 _ _ hx
      have lx : l ≠ x := fun z => by
        rw [z, hx2] at hl
        cases hl
      refine ⟨_, rfl, x, C, dx, [], rfl, by rw [upd_ne (Ne.symm lx)]; exact hx2, TF.cl, TF.nf, by decide, ?_⟩
      refine k _ (fun b u n e => ?_) ⟨dx, l, o, ts, upd_same, by rw [upd_ne lx]; exact upd_same, ho, by rw [l2]; exact small_of (by omega), ?_⟩
      · rw [upd_ne n, upd_ne (ne_of_none (s12 b u e) hl)]
        exact s12 b u e
      · have t1 : Tk H2 (upd H2 l (.frz o (.tup ts))) := Tk.new hl
        have t2 : Tk (upd H2 l (.frz o (.tup ts))) (upd (upd H2 l (.frz o (.tup ts))) x (.ins C dx [("_files", .ref l)])) := Tk.of (u := .ins C dx []) (by rw [upd_ne (Ne.symm lx)]; exact hx2) (fun _ z => nomatch z) (fun _ _ z => nomatch z)
        exact Reps.keep t2 (Reps.keep t1 r2)
end
end Kl

namespace Kl
open PySem L2 Kd
structure TreeP (P : Program) (w : World) (K : PySem.W.Frag) (mg : Str → Option Value) (base : Heap) (C : Addr) : Prop where
  tf : TreeF K mg C
  ex : ∃ (p g : Addr) (fd : FuncData), PropOf K C "files" p g ∧ FnOk P w K mg base CX0 1 g fd ["self"] (getSp C "_files") ∧ Binds K fd ["self"] []
theorem pe_files {X : Cx} {C : Addr} {j : Nat} {e : Expr} {ta : TE} {pos : Pos} (c : TreeP X.prog X.w X.K X.mg X.base C) (hr : Room j X.A) (hj : 2 ≤ j) (he : PE X e ta)
    (hab : attributeBase e "files" X.env (eval e X.env) = eval e X.env := by rfl) : PE X (.Attribute e "files" pos) (tProp C (getSp C "_files") [] C8.E0 ta) := by
  obtain ⟨p, g, fd, hp, F, b⟩ := c.ex
  exact pe_prop he c.tf.cl hp F (hr.mono hj) b .nil C8.pass0 hab
theorem te_prop {C : Addr} {sp : Sp} {dvs : List V} {E : XK} {ta : TE} {σ : L2.St} {H : Hp} {Q : VK} (h : ta σ H fun x H1 => ∃ a dx fs, x = .ref a ∧ H1 a = some (.ins C dx fs) ∧ sp (.ref a :: dvs) H1 Q E) : tProp C sp dvs E ta σ H Q := h
theorem files_leaf {C : Addr} {H : Hp} {Q : VK} {a : Addr} {fs : Fs} (h : TreeAt C H a fs) (k : ∀ (t : Addr) (o : Obj) (vs : List V), H t = some (.frz o (.tup vs)) → o.dict = none → vs.length ≤ sizeLine → Reps H (fs.map pairD) vs → Q (.ref t) H) :
    ∃ a' dx fs, V.ref a = .ref a' ∧ H a' = some (.ins C dx fs) ∧ getSp C "_files" [.ref a'] H Q C8.E0 := by
  obtain ⟨dx, t, o, vs, h1, h2, h3, h4, h5⟩ := h
  exact ⟨a, dx, _, rfl, h1, a, dx, _, .ref t, rfl, h1, rfl, k t o vs h2 h3 h4 h5⟩
theorem te_c {v : V} {σ : L2.St} {H : Hp} {Q : VK} (h : Q v H) : tC v σ H Q := h
theorem te_v {i : Nat} {x : V} {σ : L2.St} {H : Hp} {Q : VK} (e : σ[i]? = some (some x)) (h : Q x H) : tVar i σ H Q := ⟨x, e, h⟩
theorem st_expr {te : TE} {D : Ends} {σ : L2.St} {H : Hp} (h : te σ H fun _ H1 => D.nx σ H1) : tDrop te D σ H := h
/-- walked while what is newer changes -/
theorem seq_walk0 {K : PySem.W.Frag} {tl : TE} {σ : L2.St} {H H0 H1 : Hp} {R : It → Hp → Prop} {a : Addr} {vs : List V} (h : SeqAt H0 a vs) (s1 : Same H0 H1) (ht : ∀ Q : VK, Q (.ref a) H1 → tl σ H Q) (k : ∀ (J : It) (G : Hp → Prop), Walk J vs.length G (YAt vs) → (∀ H' : Hp, Same H0 H' → G H') → R J H1) : iSeq K tl σ H R := by
  rcases h with h | h
  · exact .inl (ht _ ⟨a, rfl, ⟨_, .inl (Rd.same s1 h)⟩, k _ (fun H => SqT K H a vs) walk_tup fun H' s => .inl (Rd.same s h)⟩)
  · exact .inr (ht _ ⟨a, rfl, ⟨_, SqL.of (s1 _ _ h)⟩, k _ (fun H => SqL K H a vs) walk_list fun H' s => SqL.of (s _ _ h)⟩)
/-- .files of a local -/
theorem te_filesV {C : Addr} {i : Nat} {a : Addr} {fs : Fs} {σ : L2.St} {H : Hp} {Q : VK} (hi : σ[i]? = some (some (.ref a))) (h : TreeAt C H a fs) (k : ∀ (t : Addr) (o : Obj) (vs : List V), H t = some (.frz o (.tup vs)) → o.dict = none → vs.length ≤ sizeLine → Reps H (fs.map pairD) vs → Q (.ref t) H) :
    tProp C (getSp C "_files") [] C8.E0 (tVar i) σ H Q := te_prop (te_v hi (files_leaf h k))
abbrev rDictTup (K : PySem.W.Frag) : List V → Hp → VK → Prop := fun xs H Q => ∃ (a : Addr) (o : Obj) (ps : List Addr) (kvs : List (Key × V)), xs = [.ref a] ∧ H a = some (.frz o (.tup (ps.map V.ref))) ∧ o.dict = none ∧ Paired (fun p kv => SqT K H p [kV kv.1, kv.2]) ps kvs ∧
    ∀ p, H p = none → Q (.ref p) (upd H p (.dK (mergeK [] kvs)))
theorem pairs_of {K : PySem.W.Frag} {H : Hp} : ∀ {fs : Fs} {vs : List V}, Reps H (fs.map pairD) vs → ∃ ps : List Addr, vs = ps.map V.ref ∧ Paired (fun p kv => SqT K H p [kV kv.1, kv.2]) ps (kvF fs)
  | [], _, h => by
    cases (show _ = [] from h)
    exact ⟨[], rfl, .nil⟩
  | q :: r, _, ⟨v, rest, e, hv, hr⟩ => by
    subst e
    obtain ⟨ps, rfl, pr⟩ := pairs_of (fs := r) hr
    obtain ⟨t, rfl, ht⟩ := pair_of hv
    exact ⟨t :: ps, rfl, .cons (.inl ht) pr⟩
/-- dict(x.files) -/
theorem te_dict {K : PySem.W.Frag} {C : Addr} {i : Nat} {a : Addr} {fs : Fs} {σ : L2.St} {H : Hp} {Q : VK} (hi : σ[i]? = some (some (.ref a))) (h : TreeAt C H a fs) (nd : (fs.map (·.1)).Nodup) (k : ∀ p : Addr, H p = none → Q (.ref p) (upd H p (.dK (kvF fs)))) :
    tCB (rDictTup K) (tCons (tProp C (getSp C "_files") [] C8.E0 (tVar i)) tNil) σ H Q := by
  refine te_cb (ta_cons (te_filesV hi h fun t o vs h1 h2 h3 h4 => ta_nil ?_))
  obtain ⟨ps, rfl, pr⟩ := pairs_of (K := K) h4
  refine ⟨t, o, ps, _, rfl, h1, h2, pr, fun p hp => ?_⟩
  have e : mergeK [] (kvF fs) = kvF fs := merge_all V.str nd
  rw [e]
  exact k p hp
def spTEq (K : PySem.W.Frag) (C : Addr) : Sp := fun vs H Q _ => ∃ (a : Addr) (y : V) (fs : Fs), vs = [.ref a, y] ∧ TreeAt C H a fs ∧ (∀ q ∈ fs, PairOk q) ∧
  ((∃ (b : Addr) (gs : Fs), y = .ref b ∧ TreeAt C H b gs ∧ (∀ q ∈ gs, PairOk q) ∧ Q (.bl (decide (fs = gs))) H) ∨ ∃ tb : Value, TyX K H y tb ∧ PySem.W.kitOne K tb (.ref C) = some false ∧ Q (.bl false) H)
def spCheck (_ : PySem.W.Frag) (C : Addr) : Sp := fun vs H Q _ => ∃ (a : Addr) (n : Int) (fs : Fs), vs = [.ref a, .int n] ∧ TreeAt C H a fs ∧ Q .non H
section
variable {P : Program} {w : World} {K : PySem.W.Frag} {mg : Str → Option Value} {base : Heap} {C : Addr}
abbrev s_Tree_files : Stmt := inClass (topS 27) 1
theorem sc_Tree_files : FnScope ["self"] ["self"] (defScope s_Tree_files) := ⟨rfl, rfl, rfl, by decide +kernel, rfl, by decide +kernel, by decide +kernel⟩
theorem ok_files {f : Addr} {fd : FuncData} (F : Fun K "files" "Tree.files" s_Tree_files f fd) (TF : TreeF K mg C) : FnOk P w K mg base CX0 1 f fd ["self"] (getSp C "_files") := by
  refine F.ok sc_Tree_files (fun vs H Q E h => ?_) (fun cdv A outer s H vs Q E hr h => ?_)
  · obtain ⟨a, dx, fs, v, rfl, _⟩ := h
    rfl
  · obtain ⟨a, dx, fs, v, rfl, ha, hl, k⟩ := h
    refine ⟨_, (pss_one (ps_ret (pe_fld (pv 0) rfl))), ?_⟩
    exact ⟨_, rfl, a, C, dx, fs, v, rfl, ha, TF.cl, TF.nf, hl, k⟩
abbrev s_Tree_eq : Stmt := inClass (topS 27) 2
theorem sc_Tree_eq : FnScope ["self", "other"] ["self", "other"] (defScope s_Tree_eq) := ⟨rfl, rfl, rfl, by decide +kernel, rfl, by decide +kernel, by decide +kernel⟩
theorem ok_teq {f : Addr} {fd : FuncData} (F : Fun K "__eq__" "Tree.__eq__" s_Tree_eq f fd) (T : Glo mg) (TF : TreeF K mg C) : FnOk P w K mg base CX0 1 f fd ["self", "other"] (spTEq K C) := by
  refine F.ok sc_Tree_eq (fun vs H Q E h => ?_) (fun cdv A outer s H vs Q E hr h => ?_)
  · obtain ⟨a, y, fs, rfl, _⟩ := h
    rfl
  · obtain ⟨a, y, fs, rfl, ha, hg, k⟩ := h
    refine ⟨_, (pss_one (ps_ret (pe_and (pe_callB call_isi (by rfl) T.isi PyProof.Rows.boot_isinstance (pa_cons (pv 1) (pa_cons (pe_glob (v := .ref C) (by rfl) TF.mC rfl) pa_nil))) (pe_one (pe_cmpR (op_eqD hr.units) (pe_fld (pv 0) rfl) (pe_fld (pv 1) rfl) (nomark _)))))), ?_⟩
    rcases k with ⟨b, gs, rfl, hb, hk, q⟩ | ⟨tb, ty, kt, q⟩
    · refine ⟨_, rfl, _, .ref C, .ref C, .ref C, true, rfl, .own C, hb.ty TF, TF.kC, _, rfl, iteT ?_⟩
      obtain ⟨dx, t, o, vs, h1, h2, h3, h4, h5⟩ := ha
      obtain ⟨dy, u, o2, ws, g1, g2, g3, g4, g5⟩ := hb
      have r1 : Rep H (filesD fs) (.ref t) := ⟨t, vs, rfl, .inr ⟨o, h2⟩, h4, h5⟩
      have r2 : Rep H (filesD gs) (.ref u) := ⟨u, ws, rfl, .inr ⟨o2, g2⟩, g4, g5⟩
      refine ⟨_, rfl, a, C, dx, _, .ref t, rfl, h1, TF.cl, TF.nf, rfl, _, rfl, b, C, dy, _, .ref u, rfl, g1, TF.cl, TF.nf, rfl, _, _, Rep.dp (d := filesD fs) r1, Rep.dp (d := filesD gs) r2, shaped_files hg, shaped_files hk, ?_⟩
      rw [eqv_filesD]
      exact q
    · exact ⟨_, rfl, y, .ref C, tb, .ref C, false, rfl, .own C, ty, kt, _, rfl, iteF q⟩
abbrev s_check_tree : Stmt := topS 29
theorem sc_check_tree : FnScope ["value", "at"] ["value", "at"] (defScope s_check_tree) := ⟨rfl, rfl, rfl, by decide +kernel, rfl, by decide +kernel, by decide +kernel⟩
theorem ok_check {f : Addr} {fd : FuncData} (F : Fun K "check_tree" "check_tree" s_check_tree f fd) (T : Glo mg) (TF : TreeF K mg C) : FnOk P w K mg base CX0 1 f fd ["value", "at"] (spCheck K C) := by
  refine F.ok sc_check_tree (fun vs H Q E h => ?_) (fun cdv A outer s H vs Q E hr h => ?_)
  · obtain ⟨a, n, fs, rfl, _⟩ := h
    rfl
  · obtain ⟨a, n, fs, rfl, ha, k⟩ := h
    refine ⟨_, (pss_one (ps_if (pt_not (pt_val (pe_callB call_isi (by rfl) T.isi PyProof.Rows.boot_isinstance (pa_cons (pv 0) (pa_cons (pe_glob (v := .ref C) (by rfl) TF.mC rfl) pa_nil)))))
      (pss_one ps_never)
      pss_nil)), ?_⟩
    exact ⟨_, rfl, _, .ref C, .ref C, .ref C, true, rfl, .own C, ha.ty TF, TF.kC, _, rfl, iteF k⟩
end
theorem FOk.good {fs : Fs} (h : FOk fs) (a : Asc (fs.map (·.1))) : Good fs := ⟨fun q hq => by
    have hp := h.path q hq
    have hc := h.ct q hq
    have e1 := List.all_eq_true.mp allPaths_ok _ hp
    have e2 : ∀ p ∈ allPaths, p.length ≤ 1000 ∧ PyData.canLay0 (.str p) = true := by decide +kernel
    exact ⟨e1, (e2 _ hp).1, hc.cont, (e2 _ hp).2⟩, a, by have := h.few; omega⟩
theorem EOk.ch {es : Es} (h : EOk es) : ∀ q ∈ es, ChOk q := fun q hq => by
  have hp := h.path q hq
  have e1 := List.all_eq_true.mp allPaths_ok _ hp
  have e2 : ∀ p ∈ allPaths, p.length ≤ 1000 := by decide +kernel
  exact ⟨e1, e2 _ hp, fun c hc => (h.ct q hq c hc).cont⟩
end Kl

namespace Kl
open PySem L2 Kd
/-! words and paths, both answers -/
def spWordG (_ : PySem.W.Frag) : Sp := fun vs H Q _ => ∃ x : Str, vs = [.str x] ∧ x.length ≤ 100000 ∧ Q (.bl (wordB x)) H
def spPathG (_ : PySem.W.Frag) : Sp := fun vs H Q _ => ∃ x : Str, vs = [.str x] ∧ x.length ≤ 1000 ∧ ∀ H' : Hp, Same H H' → Q (.bl (pathB x)) H'
section
variable {P : Program} {w : World} {K : PySem.W.Frag} {mg : Str → Option Value} {base : Heap}
theorem ok_wordG {f : Addr} {fd : FuncData} (F : Fun K "is_word" "is_word" s_is_word f fd) (T : Glo mg) {t12 : Tok} (m_MOST_WORD_SIGNS : mg "MOST_WORD_SIGNS" = some (.int 12 t12)) : FnOk P w K mg base CX0 1 f fd ["value"] (spWordG K) := by
  refine F.ok sc_is_word (fun vs H Q E h => ?_) (fun cdv A outer s H vs Q E hr h => ?_)
  · obtain ⟨x, rfl, _⟩ := h
    rfl
  · obtain ⟨x, rfl, hx, k⟩ := h
    refine ⟨_, (C8.pss_cut (ps_if (PW.pt (pw_or (pt_not (pt_val (pe_callB call_isi (by rfl) T.isi PyProof.Rows.boot_isinstance (pa_cons (pv 0) (pa_cons (pe_bltn (v := .ty "str") (by rfl) T.str (by decide +kernel) rfl) pa_nil))))) (pw_or1 (pt_not (pt_chain op_le op_le pe_int (pe_callB call_len_str (by rfl) T.len PySem.boot_len (pa_cons (pv 0) pa_nil)) (pe_glob (v := .int 12) (by rfl) m_MOST_WORD_SIGNS ⟨_, rfl⟩))))))
      (pss_one (ps_ret pe_bl))
      pss_nil)
      (C8.pss_cut (ps_if (PW.pt (pw_or (pt_not (pt_val (pe_m0 PySem.F.slot_str_isascii PySem.F.type_str_isascii mt_isascii (pv 0)))) (pw_or (pt_not (pt_val (pe_m0 PySem.F.slot_str_isalnum PySem.F.type_str_isalnum mt_isalnum (pv 0)))) (pw_or1 (pt_not (pt_val (pe_m0 PySem.F.slot_str_isalpha PySem.F.type_str_isalpha mt_isalpha (pe_ix ix_str (pv 0) pe_int (fun _ _ => rfl)))))))))
      (pss_one (ps_ret pe_bl))
      pss_nil)
      (pss_one (ps_ret (pe_cmpR op_eq (pv 0) (pe_lower (pv 0)) (nomark _)))))), ?_⟩
    refine ⟨fun σ' H' => σ' = [some (.str x)] ∧ H' = H ∧ 1 ≤ x.length ∧ x.length ≤ 12, ?_, ?_⟩
    · refine ⟨_, rfl, .str x, .ty "str", .type "str", .type "str", true, rfl, .ty "str", .base (.str _), kit_ty (by decide +kernel), _, rfl, iteF ?_⟩
      refine ⟨_, rfl, _, rfl, small_of hx, _, _, rfl, rfl, _, rfl, ite2 (fun z1 => ?_) (fun z1 => ?_)⟩
      · have z1 := of_decide_eq_true z1
        refine ⟨_, _, rfl, rfl, _, rfl, ?_⟩
        by_cases h2 : (x.length : Int) ≤ 12
        · rw [decide_eq_true h2]
          exact iteF ⟨rfl, rfl, by omega, by omega⟩
        · rw [decide_eq_false h2]
          refine iteT ?_
          have e : wordB x = false := by
            unfold wordB
            rw [decide_eq_false (show ¬ x.length ≤ 12 by omega)]
            simp
          rw [e] at k
          exact k
      · have e : wordB x = false := by
          unfold wordB
          rw [decide_eq_false (show ¬ 1 ≤ x.length from fun h => z1 (decide_eq_true (by omega)))]
          rfl
        rw [e] at k
        exact ⟨_, rfl, iteT k⟩
    rintro σ' H' ⟨rfl, rfl, h1, h2⟩
    refine ⟨fun σ' H'' => σ' = [some (.str x)] ∧ H'' = H' ∧ Txt.isascii x = true ∧ Txt.isalnum x = true ∧ Txt.isalpha ⟨#[x.cps.getD 0 0]⟩ = true, ?_, ?_⟩
    · have hc : atI x.cps.toList 0 = some (x.cps.getD 0 0) := by
        have hp : 0 < x.cps.size := h1
        refine atI_nat (j := 0) ?_
        rw [Array.getElem?_toList, Array.getD_eq_getD_getElem?, Array.getElem?_eq_getElem hp]
        rfl
      have no : wordB x = false → Q (.bl false) H' := fun e => by
        rw [e] at k
        exact k
      refine ⟨_, rfl, ⟨_, rfl⟩, _, rfl, rfl, trivial, _, rfl, ?_⟩
      cases e1 : Txt.isascii x with
      | false => exact iteT (no (by unfold wordB; rw [e1]; simp))
      | true =>
        refine iteF ⟨_, rfl, ⟨_, rfl⟩, _, rfl, rfl, trivial, _, rfl, ?_⟩
        cases e2 : Txt.isalnum x with
        | false => exact iteT (no (by unfold wordB; rw [e2]; simp))
        | true =>
          refine iteF ⟨_, rfl, x, 0, _, rfl, rfl, small_of (by omega), hc, ⟨_, rfl⟩, _, rfl, rfl, trivial, _, rfl, ?_⟩
          cases e3 : Txt.isalpha ⟨#[x.cps.getD 0 0]⟩ with
          | false => exact iteT (no (by unfold wordB; rw [e3]; simp))
          | true => exact iteF ⟨rfl, rfl, rfl, rfl, rfl⟩
    rintro σ' H'' ⟨rfl, rfl, e1, e2, e3⟩
    refine ⟨_, rfl, _, rfl, ⟨_, rfl⟩, _, rfl, rfl, Nat.le_trans h2 (by decide), rfl, ?_⟩
    have e : decide (V.str x = V.str (Txt.lower x)) = wordB x := by
      unfold wordB
      rw [e1, e2, e3, decide_eq_true h1, decide_eq_true h2]
      simp [eq_comm]
    rw [e]
    exact k
theorem ok_pathG {f : Addr} {fd : FuncData} (F : Fun K "is_path" "is_path" s_is_path f fd) (T : Glo mg) {t4 : Tok} (m_MOST_PATH_WORDS : mg "MOST_PATH_WORDS" = some (.int 4 t4)) (c_is_word : C8.Cal P w K mg base 1 "is_word" (spWordG K) []) : FnOk P w K mg base CX0 2 f fd ["value"] (spPathG K) := by
  refine F.ok sc_is_path (fun vs H Q E h => ?_) (fun cdv A outer s H vs Q E hr h => ?_)
  · obtain ⟨x, rfl, _⟩ := h
    rfl
  · obtain ⟨x, rfl, hz, k⟩ := h
    refine ⟨_, (pss_cons (ps_if (pt_not (pt_val (pe_callB call_isi (by rfl) T.isi PyProof.Rows.boot_isinstance (pa_cons (pv 0) (pa_cons (pe_bltn (v := .ty "str") (by rfl) T.str (by decide +kernel) rfl) pa_nil)))))
      (pss_one ps_never)
      pss_nil)
      (pss_cons (ps_set (i := 1) sc_is_path.nd rfl (.inl rfl) (pe_split (pv 0) pe_str))
      (pss_one (ps_ret (pe_and (pe_cmpR op_le (pe_callB call_len_seq (by rfl) T.len PySem.boot_len (pa_cons (pv 1) pa_nil)) (pe_glob (v := .int 4) (by rfl) m_MOST_PATH_WORDS ⟨_, rfl⟩) (nomark _)) (pe_one (pe_callB (cr_all rfl) (by rfl) T.all (by decide +kernel) (pa_cons (pe_lc (own := [("word", 2)]) (g := gName 2) (tt := tYes) rfl sc_is_path.nd (pi_list (pv 1)) (blkOk_by (N := ["value", "words", "word"]) (sc := defScope s_is_path) (by decide +kernel)) (fun _ _ _ _ _ => (pg_name (i := 2) sc_is_path.nd rfl (.inl rfl))) (fun _ _ _ _ _ => pts_nil) (fun _ _ _ _ _ => (C8.pe_c c_is_word hr (by omega) (by rfl) (pa_cons (pv 2) pa_nil)))) pa_nil)))))))), ?_⟩
    refine ⟨_, rfl, .str x, .ty "str", .type "str", .type "str", true, rfl, .ty "str", .base (.str _), kit_ty (by decide +kernel), _, rfl, iteF ?_⟩
    refine ⟨_, rfl, ⟨_, rfl⟩, x, "/", rfl, rfl, by decide +kernel, small_of (by omega), fun p hp => ?_⟩
    have s1 : Same H (upd H p (.lst ((Txt.split x "/").map V.str))) := Same.new hp
    have p1 : upd H p (.lst ((Txt.split x "/").map V.str)) p = some (.lst ((Txt.split x "/").map V.str)) := upd_same
    generalize upd H p (.lst ((Txt.split x "/").map V.str)) = H1 at s1 p1 ⊢
    have sl := PyProof.Rows.split_le x "/"
    refine ⟨_, rfl, p, _, rfl, .inl (SqL.of p1), _, _, rfl, rfl, _, rfl, ?_⟩
    by_cases h4 : (Txt.split x "/").length ≤ 4
    · rw [decide_eq_true (show (((Txt.split x "/").map V.str).length : Int) ≤ 4 by rw [List.length_map]; omega)]
      refine iteT ?_
      refine ⟨_, rfl, p, rfl, ⟨_, SqL.of p1⟩, fun D hD => lc_list (K := K) (xs := (Txt.split x "/").map V.str) (fun i H2 => Same H1 H2 ∧ H2 D = some (.lst ((((Txt.split x "/").take i).map wordB).map V.bl))) ⟨Same.new hD, upd_same⟩ (fun i H2 _ q => SqL.of (q.1 _ _ p1)) ?_ ?_⟩
      · rintro i y H2 hy ⟨s2, e2⟩
        rw [List.getElem?_map] at hy
        obtain ⟨w0, hw0, rfl⟩ := Option.map_eq_some_iff.mp hy
        have hil : i < (Txt.split x "/").length := (List.getElem?_eq_some_iff.mp hw0).1
        refine ⟨rfl, _, rfl, w0, rfl, ?_, _, e2, ?_, Same.mut s2 hD, ?_⟩
        · have hm := List.mem_of_getElem? hw0
          have := PyProof.Rows.part_short hm
          omega
        · rw [List.length_map, List.length_map, List.length_take]
          exact small_lt (by omega)
        · rw [upd_same, List.take_add_one, hw0, List.map_append, List.map_append]
          rfl
      · rintro H2 ⟨s2, e2⟩
        rw [List.length_map, List.take_length] at e2
        refine ⟨D, _, rfl, SqL.of e2, ?_⟩
        have e : (((Txt.split x "/").map wordB).all id) = pathB x := by
          unfold pathB
          rw [decide_eq_true h4, Bool.true_and, List.all_map]
          rfl
        rw [e]
        exact k H2 fun b o e => s2 b o (s1 b o e)
    · rw [decide_eq_false (show ¬ (((Txt.split x "/").map V.str).length : Int) ≤ 4 by rw [List.length_map]; omega)]
      refine iteF ?_
      have e : pathB x = false := by
        unfold pathB
        rw [decide_eq_false h4]
        rfl
      have := k H1 s1
      rw [e] at this
      exact this
end
end Kl

namespace Kl
open PySem L2 Kd
/-! the law's own words, paths, lines -/
def lowc (c : Nat) : Bool := decide (c ∈ ("abcdefghijklmnopqrstuvwxyz" : Str).cps.toList)
def lowd (c : Nat) : Bool := decide (c ∈ ("abcdefghijklmnopqrstuvwxyz0123456789" : Str).cps.toList)
def wordL (x : Str) : Bool := decide (1 ≤ x.length) && (decide (x.length ≤ 12) && (lowc (x.cps.getD 0 0) && x.cps.toList.all lowd))
theorem sign_fact : ∀ c : Nat, c < 128 → (lowd c = (Unicode.isAlnum c && PyProof.Rows.lo1 c == c)) ∧ (lowc c = (Unicode.isAlpha c && PyProof.Rows.lo1 c == c)) := by decide +kernel
theorem lowd_ascii {c : Nat} (h : lowd c = true) : c < 128 := by
  have := of_decide_eq_true h
  have e : ("abcdefghijklmnopqrstuvwxyz0123456789" : Str).cps.toList.all (fun c => decide (c < 128)) = true := by decide +kernel
  exact of_decide_eq_true (List.all_eq_true.mp e c this)
theorem wordB_L (x : Str) : wordB x = wordL x := by
  have asc : Txt.isascii x = x.cps.toList.all (fun c => decide (c < 128)) := by
    unfold Txt.isascii
    rw [← Array.all_toList]
  by_cases h1 : 1 ≤ x.length
  case neg =>
    unfold wordB wordL
    rw [decide_eq_false h1]
    rfl
  by_cases h2 : x.length ≤ 12
  case neg =>
    unfold wordB wordL
    rw [decide_eq_false h2]
    simp
  have al : Txt.isalnum x = x.cps.toList.all Unicode.isAlnum := by
    unfold Txt.isalnum
    rw [← Array.all_toList, decide_eq_true (show x.length > 0 by omega), Bool.true_and]
  have ap : ∀ c : Nat, Txt.isalpha ⟨#[c]⟩ = Unicode.isAlpha c := fun c => by
    unfold Txt.isalpha
    rw [← Array.all_toList]
    simp [Str.length]
  cases ha : x.cps.toList.all (fun c => decide (c < 128)) with
  | false =>
    have e1 : x.cps.toList.all lowd = false := by
      rw [List.all_eq_false] at ha ⊢
      obtain ⟨c, hc, h⟩ := ha
      exact ⟨c, hc, fun z => h (decide_eq_true (lowd_ascii z))⟩
    unfold wordB wordL
    rw [asc, ha, e1]
    simp
  | true =>
    have hs : ∀ c ∈ x.cps.toList, c < 128 := fun c hc => of_decide_eq_true (List.all_eq_true.mp ha c hc)
    have lw : Txt.lower x = ⟨x.cps.map PyProof.Rows.lo1⟩ := PyProof.Rows.lower_ascii (x := x) (fun c hc => hs c hc)
    have le : decide (Txt.lower x = x) = x.cps.toList.all (fun c => PyProof.Rows.lo1 c == c) := by
      rw [lw, Bool.eq_iff_iff, decide_eq_true_eq, List.all_eq_true]
      constructor
      · intro e c hc
        have e2 : x.cps.toList.map PyProof.Rows.lo1 = x.cps.toList := by
          have := congrArg (fun y : Str => y.cps.toList) e
          simpa using this
        obtain ⟨i, hi, rfl⟩ := List.getElem_of_mem hc
        have e3 := congrArg (fun l => l[i]?) e2
        simp only [List.getElem?_map, List.getElem?_eq_getElem hi, Option.map_some, Option.some.injEq] at e3
        rw [e3, beq_self_eq_true]
      · intro h
        refine TL.ext_tl ?_
        show (x.cps.map PyProof.Rows.lo1).toList = x.cps.toList
        rw [Array.toList_map]
        exact (List.map_congr_left fun c hc => eq_of_beq (h c hc)).trans (List.map_id _)
    have c0 : x.cps.getD 0 0 ∈ x.cps.toList := by
      have hp : 0 < x.cps.size := h1
      rw [Array.getD_eq_getD_getElem?, Array.getElem?_eq_getElem hp]
      exact Array.mem_toList_iff.mpr (Array.getElem_mem hp)
    unfold wordB wordL
    rw [asc, ha, al, ap, le, decide_eq_true h1, decide_eq_true h2]
    simp only [Bool.true_and]
    rw [(sign_fact _ (hs _ c0)).2]
    have ed : x.cps.toList.all lowd = (x.cps.toList.all Unicode.isAlnum && x.cps.toList.all (fun c => PyProof.Rows.lo1 c == c)) := by
      rw [Bool.eq_iff_iff, Bool.and_eq_true, List.all_eq_true, List.all_eq_true, List.all_eq_true]
      constructor
      · intro h
        refine ⟨fun c hc => ?_, fun c hc => ?_⟩
        · have := h c hc
          rw [(sign_fact c (hs c hc)).1, Bool.and_eq_true] at this
          exact this.1
        · have := h c hc
          rw [(sign_fact c (hs c hc)).1, Bool.and_eq_true] at this
          exact this.2
      · intro h c hc
        rw [(sign_fact c (hs c hc)).1, h.1 c hc]
        exact h.2 c hc
    rw [ed]
    cases h3 : x.cps.toList.all (fun c => PyProof.Rows.lo1 c == c) with
    | false => simp
    | true =>
      rw [List.all_eq_true.mp h3 _ c0]
      simp [Bool.and_comm]
section
variable {P : Program} {w : World} {K : PySem.W.Frag} {mg : Str → Option Value} {base : Heap}
abbrev s_l_is_word : Stmt := topS 45
theorem sc_l_is_word : FnScope ["value", "sign"] ["value"] (defScope s_l_is_word) := ⟨rfl, rfl, rfl, by decide +kernel, rfl, by decide +kernel, by decide +kernel⟩
theorem ok_l_is_word {f : Addr} {fd : FuncData} (F : Fun K "_law_is_word" "_law_is_word" s_l_is_word f fd) (T : Glo mg) : FnOk P w K mg base CX0 1 f fd ["value"] (spWordG K) := by
  refine F.ok sc_l_is_word (fun vs H Q E h => ?_) (fun cdv A outer s H vs Q E hr h => ?_)
  · obtain ⟨x, rfl, _⟩ := h
    rfl
  · obtain ⟨x, rfl, hx, k⟩ := h
    rw [wordB_L] at k
    refine ⟨_, (C8.pss_cut (ps_if (PW.pt (pw_or (pt_not (pt_val (pe_callB call_isi (by rfl) T.isi PyProof.Rows.boot_isinstance (pa_cons (pv 0) (pa_cons (pe_bltn (v := .ty "str") (by rfl) T.str (by decide +kernel) rfl) pa_nil))))) (pw_or (pt_not (pt_chain op_le op_le pe_int (pe_callB call_len_str (by rfl) T.len PySem.boot_len (pa_cons (pv 0) pa_nil)) pe_int)) (pw_or1 (pt_cmpR op_notin_str (pe_ix ix_str (pv 0) pe_int (fun _ _ => rfl)) pe_str (by rfl))))))
      (pss_one (ps_ret pe_bl))
      pss_nil)
      (pss_cons (ps_for PassesOwn.never rfl (pi_str (pv 0)) (pg_name (i := 1) sc_l_is_word.nd rfl (.inl rfl))
      (pss_one (ps_if (pt_cmpR op_notin_str (pv 1) pe_str (by rfl))
        (pss_one (ps_ret pe_bl))
        pss_nil)))
      (pss_one (ps_ret pe_bl)))), ?_⟩
    have no : wordL x = false → Q (.bl false) H := fun e => by
      rw [e] at k
      exact k
    refine ⟨fun σ' H' => σ' = [some (.str x), none] ∧ H' = H ∧ 1 ≤ x.length ∧ x.length ≤ 12 ∧ lowc (x.cps.getD 0 0) = true, ?_, ?_⟩
    · refine ⟨_, rfl, .str x, .ty "str", .type "str", .type "str", true, rfl, .ty "str", .base (.str _), kit_ty (by decide +kernel), _, rfl, iteF ?_⟩
      refine ⟨_, rfl, _, rfl, small_of hx, _, _, rfl, rfl, _, rfl, ite2 (fun z1 => ?_) (fun z1 => ?_)⟩
      · have z1 := of_decide_eq_true z1
        refine ⟨_, _, rfl, rfl, _, rfl, ?_⟩
        by_cases h2 : (x.length : Int) ≤ 12
        · rw [decide_eq_true h2]
          have hp : 0 < x.cps.size := (show 1 ≤ x.cps.size from by have : x.length = x.cps.size := rfl; omega)
          have hc : atI x.cps.toList 0 = some (x.cps.getD 0 0) := by
            refine atI_nat (j := 0) ?_
            rw [Array.getElem?_toList, Array.getD_eq_getD_getElem?, Array.getElem?_eq_getElem hp]
            rfl
          refine iteF ⟨_, rfl, x, 0, _, rfl, rfl, small_of hx, hc, _, _, rfl, rfl, _, rfl, ?_⟩
          rw [StrLaws.found_one]
          show if (!lowc (x.cps.getD 0 0)) = true then _ else _
          cases e3 : lowc (x.cps.getD 0 0) with
          | false => exact iteT (no (by unfold wordL; rw [e3]; simp))
          | true => exact iteF ⟨rfl, rfl, by omega, by omega, rfl⟩
        · rw [decide_eq_false h2]
          refine iteT (no ?_)
          unfold wordL
          rw [decide_eq_false (show ¬ x.length ≤ 12 by omega)]
          simp
      · refine ⟨_, rfl, iteT (no ?_)⟩
        unfold wordL
        rw [decide_eq_false (show ¬ 1 ≤ x.length from fun h => z1 (decide_eq_true (by omega)))]
        rfl
    rintro σ' H' ⟨rfl, rfl, h1, h2, h3⟩
    have wl : wordL x = x.cps.toList.all lowd := by
      unfold wordL
      rw [decide_eq_true h1, decide_eq_true h2, h3]
      simp
    refine ⟨_, rfl, x, rfl, for_it walk_str (fun i σ H2 => (∃ k1 : Option V, σ = [some (.str x), k1]) ∧ H2 = H' ∧ (x.cps.toList.take i).all lowd = true) ⟨⟨_, rfl⟩, rfl, rfl⟩ (fun _ _ _ _ _ => trivial) ?_ ?_⟩
    · rintro i y σ H2 H3 hi ⟨⟨k1, rfl⟩, rfl, ha⟩ ⟨rfl, c, hc, rfl⟩
      have hc' : x.cps.toList[i]? = some c := by rw [Array.getElem?_toList]; exact hc
      refine ⟨_, rfl, _, _, rfl, rfl, _, rfl, ?_⟩
      rw [StrLaws.found_one]
      show if (!lowd c) = true then _ else _
      cases e : lowd c with
      | false =>
        refine iteT (no ?_)
        rw [wl, List.all_eq_false]
        exact ⟨c, List.mem_of_getElem? hc', by rw [e]; exact Bool.false_ne_true⟩
      | true =>
        refine iteF ⟨⟨_, rfl⟩, rfl, ?_⟩
        rw [List.take_add_one, hc', List.all_append, ha]
        simp [e]
    · rintro σ H2 ⟨⟨k1, rfl⟩, rfl, ha⟩
      have e3 : x.cps.toList.take x.cps.size = x.cps.toList := List.take_of_length_le (by rw [Array.length_toList]; exact Nat.le_refl _)
      rw [e3] at ha
      have e : wordL x = true := by rw [wl]; exact ha
      rw [e] at k
      exact k
end
end Kl

namespace Kl
open PySem L2 Kd
def linesL (c : Str) : List Str := if (Txt.split c "\n").getLast? = some ("" : Str) then (Txt.split c "\n").dropLast else Txt.split c "\n"
theorem at_end {xs : List Str} (h : xs ≠ []) : atI (xs.map V.str) (-1) = some (.str (xs.getLast h)) := by
  have e : xs.map V.str = xs.dropLast.map V.str ++ [V.str (xs.getLast h)] := by
    rw [← List.map_singleton, ← List.map_append, List.dropLast_concat_getLast]
  rw [e]
  exact atI_last _ _
theorem sIx_m1 (n d : Nat) : HT.sIx n d (some (-1)) = n - 1 := by
  show (if (-1 : Int) < 0 then ((-1 : Int) + (n : Int)).toNat else min ((-1 : Int)).toNat n) = _
  rw [if_pos (by decide)]
  omega
theorem cut_init (xs : List Str) : cutV (xs.map V.str) none (some (-1)) = xs.dropLast.map V.str := by
  unfold cutV
  rw [HT.sIx_none, List.drop_zero, sIx_m1, Nat.sub_zero, List.dropLast_eq_take, List.map_take, List.length_map]
theorem split_ne (x y : Str) : Txt.split x y ≠ [] := fun e => by
  have := PyProof.Rows.split_pos x y
  rw [e] at this
  cases this
def spLines (_ : PySem.W.Frag) : Sp := fun vs H Q _ => ∃ c : Str, vs = [.str c] ∧ c.length ≤ 1000 ∧ ∀ (p : Addr) (H' : Hp), Same H H' → H p = none → Strs H' p (linesL c) → Q (.ref p) H'
def spParts (_ : PySem.W.Frag) : Sp := fun vs H Q _ => ∃ c : Str, vs = [.str c] ∧ c.length ≤ 1000 ∧ ∀ (p : Addr) (H' : Hp), Same H H' → H p = none → Strs H' p (Txt.split c " ") → Q (if ("" : Str) ∈ Txt.split c " " then .non else .ref p) H'
def spWrong (_ : PySem.W.Frag) : Sp := fun vs H Q _ => ∃ (p : Addr) (ws : List Str), vs = [.ref p] ∧ Strs H p ws ∧ ws.length ≤ 2000 ∧ (∀ x ∈ ws, x.length ≤ 100000) ∧ ∀ H' : Hp, Same H H' → Q (.bl (ws.any fun x => !wordB x)) H'
theorem inV_strs (x : Str) (xs : List Str) : inV (.str x) (xs.map V.str) = decide (x ∈ xs) := by
  unfold inV
  rw [Bool.eq_iff_iff, List.any_eq_true, decide_eq_true_eq]
  constructor
  · rintro ⟨v, hv, e⟩
    obtain ⟨y, hy, rfl⟩ := List.mem_map.mp hv
    have : y = x := by simpa [eqV] using e
    rw [← this]
    exact hy
  · intro h
    exact ⟨.str x, List.mem_map.mpr ⟨x, h, rfl⟩, by simp [eqV]⟩
theorem flat_strs (xs : List Str) : (xs.map V.str).all flatV = true := by
  rw [List.all_eq_true]
  intro v hv
  obtain ⟨y, _, rfl⟩ := List.mem_map.mp hv
  rfl
/-- [one for one in words if not is_word(one)] -/
theorem lc_wrong {K : PySem.W.Frag} {j : Nat} {σ : L2.St} {H1 : Hp} {D p : Addr} {Qd : Hp → Prop} {ws : List Str}
    (hw : ∀ x, wipe ((wipe σ [j]).set j (some x)) [j] = wipe σ [j]) (hj : ∀ x, ((wipe σ [j]).set j (some x))[j]? = some (some x)) (hp : H1 p = some (.lst (ws.map V.str))) (hl : ws.length ≤ 2000) (hx : ∀ x ∈ ws, x.length ≤ 100000) (hD : H1 D = none)
    (hd : ∀ H2 : Hp, Same H1 H2 → H2 D = some (.lst ((ws.filter fun x => !wordB x).map V.str)) → Qd H2) :
    ∃ W : Nat → Nat → Hp → Prop, (∃ m, W 0 m (upd H1 D (.lst []))) ∧ ∀ i m H, W i m H →
      ((Itl K p).stop i H ∧ Qd H) ∨ ((Itl K p).go i H ∧ ∃ Nx : Hp → Prop, (∀ H', Nx H' → ∃ m', m' < m ∧ W (i + 1) m' H') ∧ ∀ x H', (Itl K p).yld i H x H' → gName j x (wipe σ [j]) H' fun σ2 H2 => wipe σ2 [j] = wipe σ [j] ∧ (tNot (tB (tCall (spWordG K) [] C8.E0 (tCons (tVar j) tNil)))) σ2 H2 fun b H3 =>
        if b = true then (tVar j) σ2 H3 fun y H4 => ∃ acc, H4 D = some (.lst acc) ∧ acc.length < sizeLine ∧ Nx (upd H4 D (.lst (acc ++ [y]))) else Nx H3) := by
  refine lc_list (K := K) (a := p) (xs := ws.map V.str) (fun i H => Same H1 H ∧ H D = some (.lst (((ws.take i).filter fun x => !wordB x).map V.str)))
    ⟨Same.new hD, upd_same⟩ (fun i H _ q => SqL.of (q.1 _ _ hp)) ?_ ?_
  · rintro i x H hx' ⟨s, e⟩
    rw [List.getElem?_map] at hx'
    obtain ⟨k, hk, rfl⟩ := Option.map_eq_some_iff.mp hx'
    have hil : i < ws.length := (List.getElem?_eq_some_iff.mp hk).1
    have et : (ws.take (i + 1)).filter (fun x => !wordB x) = (ws.take i).filter (fun x => !wordB x) ++ if (!wordB k) = true then [k] else [] := by
      rw [List.take_add_one, hk, List.filter_append]
      congr 1
      simp [List.filter_cons]
    refine ⟨hw _, _, hj _, k, rfl, hx k (List.mem_of_getElem? hk), _, rfl, ?_⟩
    rw [et]
    cases hb : wordB k with
    | true => exact iteF ⟨s, by simpa using e⟩
    | false =>
      refine iteT ⟨_, hj _, _, e, ?_, Same.mut s hD, ?_⟩
      · rw [List.length_map]
        refine small_lt ?_
        have := List.length_filter_le (fun x => !wordB x) (ws.take i)
        rw [List.length_take] at this
        omega
      · rw [upd_same]
        simp
  · rintro H ⟨s, e⟩
    rw [List.length_map, List.take_length] at e
    exact hd H s e
section
variable {P : Program} {w : World} {K : PySem.W.Frag} {mg : Str → Option Value} {base : Heap}
abbrev s_l_is_path : Stmt := topS 46
theorem sc_l_is_path : FnScope ["value", "words", "one"] ["value"] (defScope s_l_is_path) := ⟨rfl, rfl, rfl, by decide +kernel, rfl, by decide +kernel, by decide +kernel⟩
theorem ok_l_is_path {f : Addr} {fd : FuncData} (F : Fun K "_law_is_path" "_law_is_path" s_l_is_path f fd) (T : Glo mg) (c_l_is_word : C8.Cal P w K mg base 1 "_law_is_word" (spWordG K) []) : FnOk P w K mg base CX0 2 f fd ["value"] (spPathG K) := by
  refine F.ok sc_l_is_path (fun vs H Q E h => ?_) (fun cdv A outer s H vs Q E hr h => ?_)
  · obtain ⟨x, rfl, _⟩ := h
    rfl
  · obtain ⟨x, rfl, hz, k⟩ := h
    refine ⟨_, (pss_cons (ps_if (pt_not (pt_val (pe_callB call_isi (by rfl) T.isi PyProof.Rows.boot_isinstance (pa_cons (pv 0) (pa_cons (pe_bltn (v := .ty "str") (by rfl) T.str (by decide +kernel) rfl) pa_nil)))))
      (pss_one ps_never)
      pss_nil)
      (pss_cons (ps_set (i := 1) sc_l_is_path.nd rfl (.inl rfl) (pe_split (pv 0) pe_str))
      (pss_one (ps_ret (pe_and (pe_cmpR op_le (pe_callB call_len_seq (by rfl) T.len PySem.boot_len (pa_cons (pv 1) pa_nil)) pe_int (nomark _)) (pe_one (pe_cmpR op_eq (pe_callB call_len_seq (by rfl) T.len PySem.boot_len (pa_cons (pe_lc (own := [("one", 2)]) (g := gName 2) (tt := _) rfl sc_l_is_path.nd (pi_list (pv 1)) (blkOk_by (N := ["value", "words", "one"]) (sc := defScope s_l_is_path) (by decide +kernel)) (fun _ _ _ _ _ => (pg_name (i := 2) sc_l_is_path.nd rfl (.inl rfl))) (fun _ _ _ _ _ => (pts_one (pt_not (pt_val (C8.pe_c c_l_is_word hr (by omega) (by rfl) (pa_cons (pv 2) pa_nil)))))) (fun _ _ _ _ _ => (pv 2))) pa_nil)) pe_int (nomark _)))))))), ?_⟩
    refine ⟨_, rfl, .str x, .ty "str", .type "str", .type "str", true, rfl, .ty "str", .base (.str _), kit_ty (by decide +kernel), _, rfl, iteF ?_⟩
    refine ⟨_, rfl, ⟨_, rfl⟩, x, "/", rfl, rfl, by decide +kernel, small_of (by omega), fun p hp => ?_⟩
    have s1 : Same H (upd H p (.lst ((Txt.split x "/").map V.str))) := Same.new hp
    have p1 : upd H p (.lst ((Txt.split x "/").map V.str)) p = some (.lst ((Txt.split x "/").map V.str)) := upd_same
    generalize upd H p (.lst ((Txt.split x "/").map V.str)) = H1 at s1 p1 ⊢
    have sl := PyProof.Rows.split_le x "/"
    refine ⟨_, rfl, p, _, rfl, .inl (SqL.of p1), _, _, rfl, rfl, _, rfl, ?_⟩
    by_cases h4 : (Txt.split x "/").length ≤ 4
    · rw [decide_eq_true (show (((Txt.split x "/").map V.str).length : Int) ≤ 4 by rw [List.length_map]; omega)]
      refine iteT ?_
      refine ⟨_, rfl, p, rfl, ⟨_, SqL.of p1⟩, fun D hD => lc_wrong (K := K) (fun _ => rfl) (fun _ => rfl) p1 (by omega) (fun y hy => by have := PyProof.Rows.part_short hy; omega) hD fun H2 s2 e2 => ?_⟩
      refine ⟨D, _, rfl, .inl (SqL.of e2), rfl, ?_⟩
      have e : decide (V.int (((((Txt.split x "/").filter fun y => !wordB y).map V.str).length : Nat) : Int) = V.int 0) = pathB x := by
        unfold pathB
        rw [decide_eq_true h4, Bool.true_and, Bool.eq_iff_iff, decide_eq_true_eq, List.all_eq_true, List.length_map]
        constructor
        · intro e y hy
          have e : ((Txt.split x "/").filter fun y => !wordB y) = [] := List.length_eq_zero_iff.mp (by have := V.int.inj e; omega)
          have := List.filter_eq_nil_iff.mp e y hy
          simpa using this
        · intro h
          have e : ((Txt.split x "/").filter fun y => !wordB y) = [] := List.filter_eq_nil_iff.mpr fun y hy => by rw [h y hy]; exact fun z => nomatch z
          rw [e]
          rfl
      have kk := k H2 fun b o e => s2 b o (s1 b o e)
      rw [← e] at kk
      exact kk
    · rw [decide_eq_false (show ¬ (((Txt.split x "/").map V.str).length : Int) ≤ 4 by rw [List.length_map]; omega)]
      refine iteF ?_
      have e : pathB x = false := by
        unfold pathB
        rw [decide_eq_false h4]
        rfl
      have := k H1 s1
      rw [e] at this
      exact this
abbrev s_l_lines : Stmt := topS 47
theorem sc_l_lines : FnScope ["content", "rows"] ["content"] (defScope s_l_lines) := ⟨rfl, rfl, rfl, by decide +kernel, rfl, by decide +kernel, by decide +kernel⟩
theorem ok_l_lines {f : Addr} {fd : FuncData} (F : Fun K "_law_lines" "_law_lines" s_l_lines f fd) : FnOk P w K mg base CX0 1 f fd ["content"] (spLines K) := by
  refine F.ok sc_l_lines (fun vs H Q E h => ?_) (fun cdv A outer s H vs Q E hr h => ?_)
  · obtain ⟨x, rfl, _⟩ := h
    rfl
  · obtain ⟨x, rfl, hz, k⟩ := h
    refine ⟨_, (pss_cons (ps_set (i := 1) sc_l_lines.nd rfl (.inl rfl) (pe_split (pv 0) pe_str))
      (pss_one (ps_ret (pe_ifExp (pt_cmpR op_eq (pe_ix ix_list (pv 1) (pe_un un_neg pe_int) (fun _ _ => rfl)) pe_str (nomark _)) (pe_slice sl_list (pv 1) po_none (po_some (pe_un un_neg pe_int))) (pv 1))))), ?_⟩
    refine ⟨_, rfl, ⟨_, rfl⟩, x, "\n", rfl, rfl, by decide +kernel, small_of (by omega), fun p hp => ?_⟩
    have ne := split_ne x "\n"
    have s1 : Same H (upd H p (.lst ((Txt.split x "\n").map V.str))) := Same.new hp
    have p1 : upd H p (.lst ((Txt.split x "\n").map V.str)) p = some (.lst ((Txt.split x "\n").map V.str)) := upd_same
    generalize upd H p (.lst ((Txt.split x "\n").map V.str)) = H1 at s1 p1 ⊢
    refine ⟨_, rfl, _, rfl, p, _, -1, _, rfl, rfl, SqL.of p1, at_end ne, rfl, _, rfl, ite2 (fun z => ?_) (fun z => ?_)⟩
    · have z := V.str.inj (of_decide_eq_true z)
      refine ⟨_, rfl, _, rfl, _, rfl, p, _, rfl, SqL.of p1, fun q hq => ?_⟩
      rw [cut_init]
      have e : linesL x = (Txt.split x "\n").dropLast := by
        unfold linesL
        rw [if_pos (by rw [List.getLast?_eq_some_getLast ne, z])]
      refine k q _ (Same.mut s1 (none_of s1 hq)) (none_of s1 hq) ?_
      rw [e]
      exact upd_same
    · have e : linesL x = Txt.split x "\n" := by
        unfold linesL
        rw [if_neg fun h => z (decide_eq_true (by rw [List.getLast?_eq_some_getLast ne] at h; rw [Option.some.inj h]))]
      refine ⟨_, rfl, k p H1 s1 hp ?_⟩
      rw [e]
      exact p1
abbrev s_l_parts : Stmt := topS 48
theorem sc_l_parts : FnScope ["line", "parts"] ["line"] (defScope s_l_parts) := ⟨rfl, rfl, rfl, by decide +kernel, rfl, by decide +kernel, by decide +kernel⟩
theorem ok_l_parts {f : Addr} {fd : FuncData} (F : Fun K "_law_parts" "_law_parts" s_l_parts f fd) : FnOk P w K mg base CX0 1 f fd ["line"] (spParts K) := by
  refine F.ok sc_l_parts (fun vs H Q E h => ?_) (fun cdv A outer s H vs Q E hr h => ?_)
  · obtain ⟨x, rfl, _⟩ := h
    rfl
  · obtain ⟨x, rfl, hz, k⟩ := h
    refine ⟨_, (pss_cons (ps_set (i := 1) sc_l_parts.nd rfl (.inl rfl) (pe_split (pv 0) pe_str))
      (pss_one (ps_ret (pe_ifExp (pt_cmpR op_in_seq pe_str (pv 1) (by rfl)) pe_non (pv 1))))), ?_⟩
    refine ⟨_, rfl, ⟨_, rfl⟩, x, " ", rfl, rfl, by decide +kernel, small_of (by omega), fun p hp => ?_⟩
    have s1 : Same H (upd H p (.lst ((Txt.split x " ").map V.str))) := Same.new hp
    have p1 : upd H p (.lst ((Txt.split x " ").map V.str)) p = some (.lst ((Txt.split x " ").map V.str)) := upd_same
    generalize upd H p (.lst ((Txt.split x " ").map V.str)) = H1 at s1 p1 ⊢
    have kk := k p H1 s1 hp p1
    refine ⟨_, rfl, p, _, rfl, .inl (SqL.of p1), rfl, flat_strs _, _, rfl, ?_⟩
    show if inV (.str "") ((Txt.split x " ").map V.str) = true then _ else _
    rw [inV_strs]
    by_cases e : ("" : Str) ∈ Txt.split x " "
    · rw [if_pos e] at kk
      rw [decide_eq_true e]
      exact iteT kk
    · rw [if_neg e] at kk
      rw [decide_eq_false e]
      exact iteF ⟨_, rfl, kk⟩
abbrev s_l_wrong_words : Stmt := topS 49
theorem sc_l_wrong_words : FnScope ["words", "one"] ["words"] (defScope s_l_wrong_words) := ⟨rfl, rfl, rfl, by decide +kernel, rfl, by decide +kernel, by decide +kernel⟩
theorem ok_l_wrong {f : Addr} {fd : FuncData} (F : Fun K "_law_wrong_words" "_law_wrong_words" s_l_wrong_words f fd) (T : Glo mg) (c_l_is_word : C8.Cal P w K mg base 1 "_law_is_word" (spWordG K) []) : FnOk P w K mg base CX0 2 f fd ["words"] (spWrong K) := by
  refine F.ok sc_l_wrong_words (fun vs H Q E h => ?_) (fun cdv A outer s H vs Q E hr h => ?_)
  · obtain ⟨p, ws, rfl, _⟩ := h
    rfl
  · obtain ⟨p, ws, rfl, hp, hl, hx, k⟩ := h
    refine ⟨_, (pss_one (ps_ret (pe_cmpR op_gt (pe_callB call_len_seq (by rfl) T.len PySem.boot_len (pa_cons (pe_lc (own := [("one", 1)]) (g := gName 1) (tt := _) rfl sc_l_wrong_words.nd (pi_list (pv 0)) (blkOk_by (N := ["words", "one"]) (sc := defScope s_l_wrong_words) (by decide +kernel)) (fun _ _ _ _ _ => (pg_name (i := 1) sc_l_wrong_words.nd rfl (.inl rfl))) (fun _ _ _ _ _ => (pts_one (pt_not (pt_val (C8.pe_c c_l_is_word hr (by omega) (by rfl) (pa_cons (pv 1) pa_nil)))))) (fun _ _ _ _ _ => (pv 1))) pa_nil)) pe_int (nomark _)))), ?_⟩
    refine ⟨_, rfl, p, rfl, ⟨_, SqL.of hp⟩, fun D hD => lc_wrong (K := K) (fun _ => rfl) (fun _ => rfl) hp hl hx hD fun H2 s2 e2 => ?_⟩
    refine ⟨D, _, rfl, .inl (SqL.of e2), _, _, rfl, rfl, ?_⟩
    have e : decide ((0 : Int) < ((((ws.filter fun y => !wordB y).map V.str).length : Nat) : Int)) = ws.any fun y => !wordB y := by
      rw [Bool.eq_iff_iff, decide_eq_true_eq, List.any_eq_true, List.length_map]
      constructor
      · intro h
        have hp : 0 < (ws.filter fun y => !wordB y).length := by omega
        obtain ⟨y, hy⟩ := List.exists_mem_of_length_pos hp
        exact ⟨y, (List.mem_filter.mp hy).1, (List.mem_filter.mp hy).2⟩
      · rintro ⟨y, hy, h⟩
        have := List.length_pos_of_mem (List.mem_filter (p := fun y => !wordB y).mpr ⟨hy, h⟩)
        omega
    have kk := k H2 s2
    rw [← e] at kk
    exact kk
end
end Kl

namespace Kl
open PySem L2 Kd
/-! the lines that tell something -/
abbrev Row := Str × Nat × List Str
def rowOf (path : Str) (l : Str) (i : Nat) : List Row := if l = "" then [] else [(path, i + 1, Txt.split l " ")]
def rowsFrom (path : Str) : List Str → Nat → List Row
  | [], _ => []
  | l :: r, i => rowOf path l i ++ rowsFrom path r (i + 1)
def linesP (path c : Str) : List Row := rowsFrom path (Txt.split c "\n") 0
def tellsB (start path : Str) : Bool := decide (path = start) || (Txt.endswith start "/" && Txt.startswith path start)
def toldP (start : Str) : Fs → List Row
  | [] => []
  | q :: r => (if tellsB start q.1 = true then linesP q.1 q.2 else []) ++ toldP start r
theorem rowsFrom_snoc (path : Str) : ∀ (ls : List Str) (i k : Nat) (l : Str), ls[i]? = some l → rowsFrom path (ls.take (i + 1)) k = rowsFrom path (ls.take i) k ++ rowOf path l (k + i)
  | [], i, k, l, h => by simp at h
  | x :: r, 0, k, l, h => by
    obtain rfl : x = l := Option.some.inj h
    simp [rowsFrom]
  | x :: r, i + 1, k, l, h => by
    have ih := rowsFrom_snoc path r i (k + 1) l h
    simp only [List.take_succ_cons, rowsFrom, List.append_assoc] at ih ⊢
    rw [ih]
    congr 3
    omega
theorem rowsFrom_len (path : Str) : ∀ (ls : List Str) (k : Nat), (rowsFrom path ls k).length ≤ ls.length
  | [], _ => Nat.le_refl _
  | l :: r, k => by
    have ih := rowsFrom_len path r (k + 1)
    have h : (rowOf path l k).length ≤ 1 := by
      unfold rowOf
      split <;> simp
    simp only [rowsFrom, List.length_append, List.length_cons]
    omega
theorem toldP_snoc (start : Str) : ∀ (fs : Fs) (i : Nat) (q : Str × Str), fs[i]? = some q → toldP start (fs.take (i + 1)) = toldP start (fs.take i) ++ (if tellsB start q.1 = true then linesP q.1 q.2 else [])
  | [], i, q, h => by simp at h
  | x :: r, 0, q, h => by
    obtain rfl : x = q := Option.some.inj h
    simp [toldP]
  | x :: r, i + 1, q, h => by
    have ih := toldP_snoc start r i q h
    simp only [List.take_succ_cons, toldP, List.append_assoc] at ih ⊢
    rw [ih]
theorem toldP_len (start : Str) {m : Nat} : ∀ (fs : Fs), (∀ q ∈ fs, q.2.length ≤ m) → (toldP start fs).length ≤ fs.length * (m + 2)
  | [], _ => Nat.zero_le _
  | q :: r, h => by
    have ih := toldP_len start (m := m) r fun z hz => h z (List.mem_cons_of_mem _ hz)
    have hq := h q (List.mem_cons_self ..)
    have h1 : (if tellsB start q.1 = true then linesP q.1 q.2 else []).length ≤ m + 2 := by
      split
      · unfold linesP
        have := rowsFrom_len q.1 (Txt.split q.2 "\n") 0
        have := PyProof.Rows.split_le q.2 "\n"
        omega
      · simp
    simp only [toldP, List.length_append, List.length_cons, Nat.succ_mul]
    omega
/-- one such line, its parts in a list of their own -/
def RowV (D : Addr) (H : Hp) (v : V) (r : Row) : Prop := ∃ t pl : Addr, v = .ref t ∧ H t = some (.tup [.str r.1, .int (r.2.1 : Int), .ref pl]) ∧ H pl = some (.lst (r.2.2.map V.str)) ∧ pl ≠ D
theorem RowV.same {D : Addr} {H H' : Hp} {v : V} {r : Row} (s : Same H H') (h : RowV D H v r) : RowV D H' v r := by
  obtain ⟨t, pl, e, h1, h2, n⟩ := h
  exact ⟨t, pl, e, s _ _ h1, s _ _ h2, n⟩
theorem RowV.upd {D : Addr} {H : Hp} {v : V} {r : Row} {xs : List V} {o : HO} (e : H D = some (.lst xs)) (h : RowV D H v r) : RowV D (L2.upd H D o) v r := by
  obtain ⟨t, pl, e', h1, h2, n⟩ := h
  exact ⟨t, pl, e', by rw [upd_ne (ne_of h1 e (fun z => nomatch z))]; exact h1, by rw [upd_ne n]; exact h2, n⟩
def spTold (_ : PySem.W.Frag) : Sp := fun vs H Q _ => ∃ (ft : Addr) (start : Str) (fs : Fs), vs = [.ref ft, .str start] ∧ Rep H (filesD fs) (.ref ft) ∧ (∀ q ∈ fs, q.2.length ≤ 1000) ∧ fs.length ≤ 60 ∧
  ∀ (D : Addr) (H' : Hp) (vs : List V), Same H H' → H D = none → H' D = some (.lst vs) → Paired (RowV D H') vs (toldP start fs) → Q (.ref D) H'
theorem tt_tells {r : R2} {r2 r3 : V → List V → Hp → VK → Prop} {start path : Str} {σ : L2.St} {H : Hp} {Q : Bool → Hp → Prop} (h3 : σ[3]? = some (some (.str path))) (h1 : σ[1]? = some (some (.str start)))
    (e1 : ∀ (H : Hp) (Q : VK), Q (.bl (decide (V.str path = V.str start))) H → r (.str path) (.str start) H Q) (e2 : ∀ (H : Hp) (Q : VK), Q (.bl (Txt.endswith start "/")) H → r2 (.str start) [.str "/"] H Q)
    (e3 : ∀ (H : Hp) (Q : VK), Q (.bl (Txt.startswith path start)) H → r3 (.str path) [.str start] H Q) (q : Q (tellsB start path) H) :
    tOr (tB (tOp r (tVar 3) (tVar 1))) (tAnd (tB (tM1 r2 (tVar 1) (tC (.str "/")))) (tB (tM1 r3 (tVar 3) (tVar 1)))) σ H Q := by
  refine ⟨_, h3, _, h1, e1 _ _ ⟨_, rfl, ?_⟩⟩
  unfold tellsB at q
  by_cases h : path = start
  · rw [decide_eq_true (show V.str path = V.str start by rw [h])]
    rw [decide_eq_true h] at q
    exact iteT q
  · rw [decide_eq_false (show V.str path ≠ V.str start from fun e => h (V.str.inj e))]
    rw [decide_eq_false h] at q
    refine iteF ⟨_, h1, ⟨_, rfl⟩, e2 _ _ ⟨_, rfl, ?_⟩⟩
    cases he : Txt.endswith start "/" with
    | false =>
      rw [he] at q
      exact iteF q
    | true =>
      rw [he] at q
      refine iteT ⟨_, h3, ⟨_, rfl⟩, _, h1, e3 _ _ ⟨_, rfl, q⟩⟩
section
variable {P : Program} {w : World} {K : PySem.W.Frag} {mg : Str → Option Value} {base : Heap}
abbrev s_told_lines : Stmt := topS 19
theorem sc_told_lines : FnScope ["files", "start", "rows", "path", "content", "at", "line"] ["files", "start"] (defScope s_told_lines) := ⟨rfl, rfl, rfl, by decide +kernel, rfl, by decide +kernel, by decide +kernel⟩
theorem ok_told {f : Addr} {fd : FuncData} (F : Fun K "told_lines" "told_lines" s_told_lines f fd) (Te : mg "enumerate" = none) : FnOk P w K mg base CX0 1 f fd ["files", "start"] (spTold K) := by
  refine F.ok sc_told_lines (fun vs H Q E h => ?_) (fun cdv A outer s H vs Q E hr h => ?_)
  · obtain ⟨ft, start, fs, rfl, _⟩ := h
    rfl
  · obtain ⟨ft, start, fs, rfl, hf, hc, hl, kk⟩ := h
    refine ⟨_, (pss_cons (ps_set (i := 2) sc_told_lines.nd rfl (.inl rfl) (pe_lst pa_nil))
      (pss_cons (ps_for PassesOwn.never rfl (pi_tup (pv 0)) (pg_tup rfl (pgs_cons (pg_name (i := 3) sc_told_lines.nd rfl (.inl rfl)) (pgs_cons (pg_name (i := 4) sc_told_lines.nd rfl (.inl rfl)) pgs_nil)))
      (pss_one (ps_if (PW.pt (pw_or (pt_cmpR op_eq (pv 3) (pv 1) (nomark _)) (pw_or1 (PW.pt (pw_and (pt_val (pe_m1 PySem.F.slot_str_endswith PySem.F.type_str_endswith mt_endswith (pv 1) pe_str)) (pw_and1 (pt_val (pe_m1 PySem.F.slot_str_startswith PySem.F.type_str_startswith mt_startswith (pv 3) (pv 1)))))))))
        (pss_one (ps_for PassesOwn.never rfl (pi_enum (by rfl) Te (pa_cons (pe_split (pv 4) pe_str) pa_nil)) (pg_tup rfl (pgs_cons (pg_name (i := 5) sc_told_lines.nd rfl (.inl rfl)) (pgs_cons (pg_name (i := 6) sc_told_lines.nd rfl (.inl rfl)) pgs_nil)))
          (pss_one (ps_if (pt_cmpR op_ne (pv 6) pe_str (nomark _))
            (pss_one (ps_expr (pe_bm PySem.F.plainAttrs_list PySem.F.slot_list_append PySem.F.type_list_append mt_append (pv 2) (pa_cons (pe_tup (pa_cons (pv 3) (pa_cons (pe_op op_add (pv 5) pe_int) (pa_cons (pe_split (pv 6) pe_str) pa_nil)))) pa_nil))))
            pss_nil))))
        pss_nil)))
      (pss_one (ps_ret (pv 2))))), ?_⟩
    obtain ⟨_, fvs, e, hft, hfz, hfs⟩ := id hf
    cases e
    have fl := hfs.len
    rw [List.length_map] at fl
    refine st_seq (st_asg ?_)
    refine ⟨(by show 0 ≤ sizeLine; decide), fun D hD => st_g ?_⟩
    dsimp only
    have s1 : Same H (upd H D (.lst [])) := Same.new hD
    have d1 : upd H D (.lst []) D = some (.lst []) := upd_same
    generalize upd H D (.lst []) = H1 at s1 d1 ⊢
    refine st_seq ?_
    refine ⟨_, rfl, ft, rfl, ⟨_, .inl (Rd.same s1 hft)⟩, for_tup (K := K) (a := ft) (xs := fvs) (fun i σ H2 => ∃ (k3 k4 k5 k6 : Option V) (vs : List V), σ = [some (.ref ft), some (.str start), some (.ref D), k3, k4, k5, k6] ∧ Same H H2 ∧ H2 D = some (.lst vs) ∧ Paired (RowV D H2) vs (toldP start (fs.take i)))
      ⟨_, _, _, _, [], rfl, s1, d1, .nil⟩ (fun i σ H2 _ ⟨_, _, _, _, _, _, z, _⟩ => .inl (Rd.same z hft)) ?_ ?_⟩
    · rintro i x σ H2 hx ⟨k3, k4, k5, k6, vs, rfl, s2, d2, pr⟩
      have hil : i < fs.length := by
        have := (List.getElem?_eq_some_iff.mp hx).1
        omega
      have hq : fs[i]? = some fs[i] := List.getElem?_eq_getElem hil
      obtain ⟨v, hv, hrep⟩ := hfs.get (i := i) (d := pairD fs[i]) (by rw [List.getElem?_map, hq]; rfl)
      obtain rfl : v = x := Option.some.inj (hv.symm.trans hx)
      obtain ⟨t, rfl, ht⟩ := pair_of (hrep.keep (Same.tk s2))
      have cl := hc _ (List.getElem_mem hil)
      have sn := toldP_snoc start fs i _ hq
      have pl := toldP_len start (fs.take i) fun q hq => hc q (List.mem_of_mem_take hq)
      have pl2 : (toldP start (fs.take i)).length ≤ 60 * 1002 := Nat.le_trans pl (Nat.mul_le_mul_right _ (by rw [List.length_take]; omega))
      have vl := pr.length
      generalize fs[i] = q at hq ht cl sn
      refine ⟨t, _, rfl, .inl ht, rfl, _, _, rfl, _, _, rfl, rfl, ?_⟩
      dsimp only
      refine st_if (tt_tells rfl rfl (fun _ _ q => ⟨rfl, q⟩) (fun _ _ q => ⟨_, _, rfl, rfl, q⟩) (fun _ _ q => ⟨_, _, rfl, rfl, q⟩) ?_)
      cases tb : tellsB start q.1 with
      | false =>
        refine iteF ⟨_, _, _, _, vs, rfl, s2, d2, ?_⟩
        rw [sn, tb]
        simpa using pr
      | true =>
        refine iteT ?_
        refine ⟨_, rfl, ⟨_, rfl⟩, q.2, "\n", rfl, rfl, by decide +kernel, small_of (by omega), fun lp hlp => ?_⟩
        have s3 : Same H (upd H2 lp (.lst ((Txt.split q.2 "\n").map V.str))) := fun b o e => by rw [upd_ne (ne_of_none (s2 b o e) hlp)]; exact s2 b o e
        have lp3 : upd H2 lp (.lst ((Txt.split q.2 "\n").map V.str)) lp = some (.lst ((Txt.split q.2 "\n").map V.str)) := upd_same
        have nl : D ≠ lp := fun z => by
          rw [← z, d2] at hlp
          cases hlp
        have d3 : upd H2 lp (.lst ((Txt.split q.2 "\n").map V.str)) D = some (.lst vs) := by rw [upd_ne nl]; exact d2
        have lp0 := none_of s2 hlp
        have pr3 := Paired.mono (fun v r h => RowV.same (Same.new (o := .lst ((Txt.split q.2 "\n").map V.str)) hlp) h) pr
        have sl := PyProof.Rows.split_le q.2 "\n"
        generalize upd H2 lp (.lst ((Txt.split q.2 "\n").map V.str)) = H3 at s3 lp3 d3 pr3 ⊢
        refine ⟨lp, _, rfl, SqL.of lp3, ?_⟩
        refine for_it walk_enum (fun j σ H4 => ∃ (k5 k6 : Option V) (ws : List V), σ = [some (.ref ft), some (.str start), some (.ref D), some (.str q.1), some (.str q.2), k5, k6] ∧ Same H H4 ∧ H4 lp = some (.lst ((Txt.split q.2 "\n").map V.str)) ∧ H4 D = some (.lst ws) ∧ Paired (RowV D H4) ws (toldP start (fs.take i) ++ rowsFrom q.1 ((Txt.split q.2 "\n").take j) 0))
          ⟨_, _, vs, rfl, s3, lp3, d3, by simpa [rowsFrom] using pr3⟩ (fun j σ H4 _ ⟨_, _, _, _, _, z, _⟩ => SqL.of z) ?_ ?_
        · rintro j y σ H4 H5 hj ⟨k5, k6, ws, rfl, s4, lp4, d4, pr4⟩ ⟨T', x, l, rfl, hT, rfl, hx, hl'⟩
          obtain rfl := Option.some.inj hx
          replace hl' : ((Txt.split q.2 "\n").map V.str)[j]? = some l := hl'
          rw [List.getElem?_map] at hl'
          obtain ⟨l, hll, rfl⟩ := Option.map_eq_some_iff.mp hl'
          have hjl : j < (Txt.split q.2 "\n").length := (List.getElem?_eq_some_iff.mp hll).1
          have snj := rowsFrom_snoc q.1 (Txt.split q.2 "\n") j 0 l hll
          have wl := pr4.length
          rw [List.length_append] at wl
          have rl := rowsFrom_len q.1 ((Txt.split q.2 "\n").take j) 0
          rw [List.length_take] at rl
          have nT : ∀ {a : Addr} {o : HO}, H4 a = some o → upd H4 T' (.tup [.int (j : Nat), .str l]) a = some o := fun e => by rw [upd_ne (ne_of_none e hT)]; exact e
          have sT : Same H4 (upd H4 T' (.tup [.int (j : Nat), .str l])) := Same.new hT
          have tt : upd H4 T' (.tup [.int (j : Nat), .str l]) T' = some (.tup [.int (j : Nat), .str l]) := upd_same
          have d5 := nT d4
          have lp5 := nT lp4
          have s5 : Same H (upd H4 T' (.tup [.int (j : Nat), .str l])) := fun b o e => nT (s4 b o e)
          have pr5 := Paired.mono (fun v r h => RowV.same sT h) pr4
          generalize upd H4 T' (.tup [.int (j : Nat), .str l]) = H5 at tt d5 lp5 s5 pr5 ⊢
          refine ⟨T', _, rfl, SqT.of tt, rfl, _, _, rfl, _, _, rfl, rfl, ?_⟩
          dsimp only
          refine ⟨_, rfl, rfl, _, rfl, ?_⟩
          by_cases hn : l = ""
          · rw [decide_eq_true (show V.str l = V.str "" by rw [hn])]
            refine iteF ⟨_, _, ws, rfl, s5, lp5, d5, ?_⟩
            rw [snj]
            unfold rowOf
            rw [if_pos hn, List.append_nil]
            exact pr5
          · rw [decide_eq_false (show V.str l ≠ V.str "" from fun e => hn (V.str.inj e))]
            refine iteT ?_
            have ll : l.length ≤ 1000 := Nat.le_trans (PyProof.Rows.part_short (List.mem_of_getElem? hll)) cl
            refine ⟨_, rfl, .inl ⟨rfl, _, SqL.of d5⟩, _, rfl, _, rfl, _, _, rfl, rfl, _, rfl, ⟨_, rfl⟩, l, " ", rfl, rfl, by decide +kernel, small_of (by omega), fun pl hpl => ⟨(by show 3 ≤ sizeLine; decide), fun t3 ht3 => ?_⟩⟩
            have npl : pl ≠ D := fun z => by
              rw [z, d5] at hpl
              cases hpl
            have n3 : t3 ≠ D := fun z => by
              rw [z, upd_ne (Ne.symm npl), d5] at ht3
              cases ht3
            have n3p : t3 ≠ pl := fun z => by
              rw [z, upd_same] at ht3
              cases ht3
            have s6 : Same H5 (upd (upd H5 pl (.lst ((Txt.split l " ").map V.str))) t3 (.tup [.str q.1, .int ((j : Int) + 1), .ref pl])) := fun b o e => by
              rw [upd_ne (ne_of_none (by rw [upd_ne (ne_of_none e hpl)]; exact e) ht3), upd_ne (ne_of_none e hpl)]
              exact e
            have t6 : upd (upd H5 pl (.lst ((Txt.split l " ").map V.str))) t3 (.tup [.str q.1, .int ((j : Int) + 1), .ref pl]) t3 = some (.tup [.str q.1, .int ((j : Int) + 1), .ref pl]) := upd_same
            have pl6 : upd (upd H5 pl (.lst ((Txt.split l " ").map V.str))) t3 (.tup [.str q.1, .int ((j : Int) + 1), .ref pl]) pl = some (.lst ((Txt.split l " ").map V.str)) := by rw [upd_ne (Ne.symm n3p)]; exact upd_same
            have d6 := s6 _ _ d5
            have lp6 := s6 _ _ lp5
            have pr6 := Paired.mono (fun v r h => RowV.same s6 h) pr5
            have s6' : Same H (upd (upd H5 pl (.lst ((Txt.split l " ").map V.str))) t3 (.tup [.str q.1, .int ((j : Int) + 1), .ref pl])) := fun b o e => s6 b o (s5 b o e)
            generalize upd (upd H5 pl (.lst ((Txt.split l " ").map V.str))) t3 (.tup [.str q.1, .int ((j : Int) + 1), .ref pl]) = H6 at t6 pl6 d6 lp6 pr6 s6' ⊢
            refine ⟨D, _, _, rfl, rfl, d6, small_lt (by omega), _, _, ws ++ [.ref t3], rfl, Same.mut s6' hD, by rw [upd_ne (Ne.symm nl)]; exact lp6, upd_same, ?_⟩
            rw [snj, ← List.append_assoc]
            unfold rowOf
            rw [if_neg hn]
            refine Paired.snoc (Paired.mono (fun v r h => RowV.upd d6 h) pr6) ?_
            exact RowV.upd d6 ⟨t3, pl, rfl, by rw [t6]; simp, pl6, npl⟩
        · rintro σ H4 ⟨k5, k6, ws, rfl, s4, lp4, d4, pr4⟩
          rw [List.length_map, List.take_length] at pr4
          refine ⟨_, _, _, _, ws, rfl, s4, d4, ?_⟩
          rw [sn, tb]
          exact pr4
    · rintro σ H2 ⟨k3, k4, k5, k6, vs, rfl, s2, d2, pr⟩
      rw [fl, List.take_length] at pr
      exact ⟨_, rfl, kk D H2 vs s2 hD d2 pr⟩
end
end Kl

namespace Kl
open PySem L2 Kd
def digitP (t : Str) : Int := if t.length = 1 ∧ 48 ≤ t.cps.getD 0 0 ∧ t.cps.getD 0 0 ≤ 57 then (t.cps.getD 0 0 : Int) - 48 else -1
theorem one_sign {t : Str} (h : t.length = 1) : t = ⟨#[t.cps.getD 0 0]⟩ := by
  obtain ⟨⟨l⟩⟩ := t
  match l, h with
  | [c], _ => rfl
theorem digit_mem (c : Nat) : c ∈ ("0123456789" : Str).cps.toList ↔ 48 ≤ c ∧ c ≤ 57 := by
  have e : ("0123456789" : Str).cps.toList = [48, 49, 50, 51, 52, 53, 54, 55, 56, 57] := by decide +kernel
  rw [e]
  simp only [List.mem_cons, List.not_mem_nil, or_false]
  omega
theorem digit_int : ∀ k : Nat, k < 10 → intText? ⟨#[48 + k]⟩ = some (k : Int) := by decide +kernel
theorem digit_lo (t : Str) : -1 ≤ digitP t := by
  unfold digitP
  split <;> omega
theorem digit_hi (t : Str) : digitP t ≤ 9 := by
  unfold digitP
  split <;> omega
def spDigit (_ : PySem.W.Frag) : Sp := fun vs H Q _ => ∃ t : Str, vs = [.str t] ∧ t.length ≤ 100000 ∧ Q (.int (digitP t)) H
section
variable {P : Program} {w : World} {K : PySem.W.Frag} {mg : Str → Option Value} {base : Heap}
abbrev s_digit_of : Stmt := topS 13
theorem sc_digit_of : FnScope ["text"] ["text"] (defScope s_digit_of) := ⟨rfl, rfl, rfl, by decide +kernel, rfl, by decide +kernel, by decide +kernel⟩
theorem ok_digit {f : Addr} {fd : FuncData} (F : Fun K "digit_of" "digit_of" s_digit_of f fd) (T : Glo mg) : FnOk P w K mg base CX0 1 f fd ["text"] (spDigit K) := by
  refine F.ok sc_digit_of (fun vs H Q E h => ?_) (fun cdv A outer s H vs Q E hr h => ?_)
  · obtain ⟨x, rfl, _⟩ := h
    rfl
  · obtain ⟨x, rfl, hx, k⟩ := h
    refine ⟨_, (pss_one (ps_ret (pe_ifExp (PW.pt (pw_and (pt_cmpR op_eq (pe_callB call_len_str (by rfl) T.len PySem.boot_len (pa_cons (pv 0) pa_nil)) pe_int (nomark _)) (pw_and1 (pt_cmpR op_in_str (pv 0) pe_str (by rfl))))) (pe_callTy call_int_str (by rfl) T.int PyProof.Rows.boot_int (pa_cons (pv 0) pa_nil)) (pe_un un_neg pe_int)))), ?_⟩
    refine ⟨_, rfl, _, rfl, small_of hx, rfl, _, rfl, ?_⟩
    by_cases h1 : x.length = 1
    · obtain ⟨c, rfl⟩ : ∃ c, x = ⟨#[c]⟩ := ⟨_, one_sign h1⟩
      rw [decide_eq_true (show V.int ((⟨#[c]⟩ : Str).length : Int) = V.int 1 from rfl)]
      refine iteT ⟨_, rfl, _, _, rfl, rfl, _, rfl, ?_⟩
      rw [StrLaws.found_one]
      by_cases h2 : 48 ≤ c ∧ c ≤ 57
      · rw [decide_eq_true ((digit_mem _).mpr h2)]
        refine iteT ⟨_, rfl, ⟨#[c]⟩, ((c - 48 : Nat) : Int), rfl, ?_, by omega, ?_⟩
        · have := digit_int (c - 48) (by omega)
          rw [show 48 + (c - 48) = c by omega] at this
          exact this
        · have e : digitP ⟨#[c]⟩ = (c : Int) - 48 := if_pos ⟨h1, h2⟩
          rw [e] at k
          rw [show ((c - 48 : Nat) : Int) = (c : Int) - 48 by omega]
          exact k
      · rw [decide_eq_false (fun z => h2 ((digit_mem _).mp z))]
        refine iteF ⟨1, rfl, ?_⟩
        have e : digitP ⟨#[c]⟩ = -1 := if_neg (fun z => h2 z.2)
        rw [e] at k
        exact k
    · rw [decide_eq_false (show V.int (x.length : Int) ≠ V.int 1 from fun e => h1 (by have := V.int.inj e; omega))]
      refine iteF (iteF ⟨1, rfl, ?_⟩)
      unfold digitP at k
      rw [if_neg (fun z => h1 z.1)] at k
      exact k
end
end Kl

namespace Kl
open PySem PySem.Spec PyProof.Rows L2
/-! len(set(xs)), xs a list of texts, alike ones among them or not -/
/-- how many unlike ones stand in the first i -/
def unlike (xs : List Str) : Nat → Nat
  | 0 => 0
  | i + 1 => if (xs.getD i Str.empty) ∈ xs.take i then unlike xs i else unlike xs i + 1
theorem unlike_le (xs : List Str) : ∀ i, unlike xs i ≤ i
  | 0 => Nat.le_refl _
  | i + 1 => by
    have := unlike_le xs i
    unfold unlike
    split <;> omega
theorem take_snoc (xs : List Str) {i : Nat} (h : i < xs.length) : xs.take (i + 1) = xs.take i ++ [xs.getD i Str.empty] := by
  rw [List.take_add_one, List.getElem?_eq_getElem h, List.getD_eq_getElem?_getD, List.getElem?_eq_getElem h]
  rfl
theorem unlike_lt (xs : List Str) : ∀ i, i ≤ xs.length → (unlike xs i = i ↔ (xs.take i).Nodup)
  | 0, _ => by simp [unlike]
  | i + 1, h => by
    have ih := unlike_lt xs i (by omega)
    have le := unlike_le xs i
    rw [take_snoc xs (by omega), List.nodup_append]
    unfold unlike
    by_cases c : xs.getD i Str.empty ∈ xs.take i
    · rw [if_pos c]
      constructor
      · intro e
        omega
      · intro e
        exact absurd rfl (e.2.2 _ c _ (List.mem_cons_self ..))
    · rw [if_neg c]
      constructor
      · intro e
        refine ⟨ih.mp (by omega), by simp, ?_⟩
        intro a ha b hb e
        obtain rfl := List.mem_singleton.mp hb
        exact c (e ▸ ha)
      · intro e
        have := ih.mpr e.1
        omega
section
variable {prog : Program} {w : World} {A : Around} {R : Result → Shared → Prop} {I : Addr} {fp wr : List Addr} {G : Array GenState → Array GenState → Prop} {P : Nat → Value → Prop} {St : Nat → Shared → Prop}
/-- the set at S holds the first i -/
abbrev Holds (prog : Program) (w : World) (h : Heap) (S : Addr) (xs : List Str) (i : Nat) : Prop := h.SetOf (PySem.strKind prog w) S (fun k => decide (k ∈ xs.take i)) (unlike xs i)
theorem Holds.keep {h h' : Heap} {S : Addr} {xs : List Str} {i : Nat} (hS : Holds prog w h S xs i) (k : ∀ o, h.get? S = some o → h'.get? S = some o) : Holds prog w h' S xs i := by
  obtain ⟨o, es, ep, t, ho, rest⟩ := hS
  exact ⟨o, es, ep, t, k _ ho, rest⟩
theorem Holds.next {h : Heap} {S : Addr} {xs : List Str} {i : Nat} (hi : i < xs.length)
    (hS : h.SetOf (PySem.strKind prog w) S (fun k => decide (k ∈ xs.take i) || decide (k = xs.getD i Str.empty)) (if decide (xs.getD i Str.empty ∈ xs.take i) = true then unlike xs i else unlike xs i + 1)) : Holds prog w h S xs (i + 1) := by
  refine SetOf_congr hS (fun k => ?_) ?_
  · rw [take_snoc xs hi]
    simp
  · show _ = if _ then _ else _
    by_cases c : xs.getD i Str.empty ∈ xs.take i
    · rw [decide_eq_true c, if_pos rfl, if_pos c]
    · rw [decide_eq_false c, if_neg c]
      rfl
/-- the texts go in, one by one -/
theorem texts_in (xs : List Str) (W : WalksS prog w A.in1 I fp wr G xs.length P St) (S : Addr) (out : S ∉ fp) (few : xs.length + 1 < scanBound) (hval : ∀ i v, P i v → ∃ t, v = .str (xs.getD i Str.empty) t)
    (fin : ∀ s s', Moved (S :: wr) G s s' → True) :
    ∀ (k i : Nat) (s : Shared), xs.length - i = k → i ≤ xs.length → St i s → Holds prog w s.heap S xs i →
      (∀ s', Moved (S :: wr) G s s' → Holds prog w s'.heap S xs xs.length → R (.ok (.ret .none)) s') → codeAny (model prog w) A (.builtin "set.update.loop" ⟨[.ref S, .ref I], []⟩) R s := by
  have nw : S ∉ wr := fun h => out (W.sub _ h)
  have wid : ∀ b ∈ wr, b ∈ S :: wr := fun b hb => List.mem_cons_of_mem _ hb
  intro k
  induction k with
  | zero =>
    intro i s hk hi st hS q
    obtain rfl : i = xs.length := by omega
    refine codeAny_builtin PyProof.Rows.F.entry_set_update_loop ?_
    rw [Around.under_plainId PyProof.Rows.F.plain_set_update_loop _]
    show wpAny _ A.in1 (pyNext (.ref I) >>= _) _ _ s
    refine wpAny_bind (W.done s _ _ st fun s' hm => ?_)
    show wpAny _ A.in1 (ret Value.none) _ _ s'
    exact wpAny_pure (q s' (hm.mono wid) (hS.keep fun o e => hm.heap S o nw e))
  | succ k ih =>
    intro i s hk hi st hS q
    have lt : i < xs.length := by omega
    refine codeAny_builtin PyProof.Rows.F.entry_set_update_loop ?_
    rw [Around.under_plainId PyProof.Rows.F.plain_set_update_loop _]
    show wpAny _ A.in1 (pyNext (.ref I) >>= _) _ _ s
    refine wpAny_bind (W.item i s _ _ lt st fun v s' hP st' hm => ?_)
    obtain ⟨t, rfl⟩ := hval i v hP
    have hS' : Holds prog w s'.heap S xs i := hS.keep fun o e => hm.heap S o nw e
    show wpAny _ A.in1 (holding [Value.str (xs.getD i Str.empty) t] (setAdd S (.str (xs.getD i Str.empty) t)) >>= _) _ _ s'
    refine wpAny_bind (wpAny_holding ?_)
    unfold setAdd
    refine wpAny_holding ?_
    refine wpAny_bind ((PySem.strKind prog w).pyHash (k := xs.getD i Str.empty) (strKind_is _ _ _ _) ?_)
    have room : unlike xs i + 1 < scanBound := by
      have := unlike_le xs i
      omega
    refine wpAny_setAddHashed_of (knd := PySem.strKind prog w) (s := { s' with toks := s'.toks + 1 }) (strKind_is _ _ _ _) rfl hS' room fun h' same hS2 => ?_
    have nS : ∀ b ∈ fp, b ≠ S := fun b hb e => out (e ▸ hb)
    refine wpAny_pure ⟨plainId_quiet PyProof.Rows.F.plain_set_update_loop _, ih (i + 1) _ (by omega) lt (W.frame _ s' _ _ st' (Nat.le_succ _) fun b hb o e => (same.2 b (nS b hb)).trans e) (Holds.next lt hS2) fun s'' hm'' hS'' => ?_⟩
    refine q s'' (Moved.trans W.gtrans ((hm.mono wid).then_heap (Nat.le_succ _) fun b o hb e => ?_) hm'') hS''
    exact (same.2 b fun z => hb (z ▸ List.mem_cons_self ..)).trans e
end
end Kl

namespace Kl
open PySem PySem.Spec PyProof.Rows L2
section
variable {prog : Program} {w : World} {A : Around} {E : Value → Shared → Prop}
/-- the empty set -/
abbrev empty0 (led : Bool) : Obj := { cls := .type "set", dict := none, data := .set #[] 0 (.fresh 0 0 led) }
/-- what set.__init__ leaves -/
def Filled (prog : Program) (w : World) (s0 s : Shared) (S : Addr) (xs : List Str) : Prop := ∃ (h' : Heap) (tk : Nat), s = { s0 with heap := h', toks := tk } ∧ Holds prog w h' S xs xs.length ∧ ∀ b o, b < s0.heap.objs.size → s0.heap.get? b = some o → h'.get? b = some o
set_option maxRecDepth 100000 in
set_option maxHeartbeats 3200000 in
theorem set_init_texts {s : Shared} {l : Addr} {items : Array Value} {xs : List Str} {led : Bool} (calm : A.handled = none) (hl : s.heap.IsList l items) (hi : StrsAre items.toList xs) (few : xs.length + 1 < scanBound) :
    wpAny (model prog w) A (Builtin.«set.__init__» ⟨[.ref s.heap.objs.size, .ref l], []⟩) (fun fin s' => ∃ r, fin = .done (.ret r) ∧ r = .none ∧ Filled prog w s s' s.heap.objs.size xs) E
      { s with heap := s.heap.push (empty0 led) } := by
  have hS : (s.heap.push (empty0 led)).get? s.heap.objs.size = some (empty0 led) := Heap.get?_push_size _ rfl
  obtain ⟨⟨ocls, odict, odata, oslots⟩, hol, hcl, nl, hdl⟩ := hl
  simp only at hcl hdl
  subst hcl
  subst hdl
  have hol' : (s.heap.push (empty0 led)).get? l = some { cls := .type "list", dict := odict, data := .seq items nl, slots := oslots } := Heap.get?_push_of_some _ hol
  have h1 := PySem.F.sub_list_set
  have h2 := PySem.F.sub_list_frozenset
  have h3 : (Value.type "list" == Value.type "dict") = false := by decide
  have hl1 : (s.heap.push (empty0 led)).IsList l items := ⟨_, hol', rfl, nl, rfl⟩
  unfold Builtin.«set.__init__» noKeywords Builtin.Frozenset.updateFrom
  generalize hPI : pyIter = PI
  wp_walk
  subst hPI
  refine wpAny_pyIter_list hl1 ?_
  refine wpAny_bind (wpAny_runValue ?_)
  have lS : l < s.heap.objs.size := Heap.lt_size hol
  have z : (s.heap.push (empty0 led)).objs.size = s.heap.objs.size + 1 := Heap.size_push ..
  have c3 : A.in1.handled = none := by simp [calm]
  have nI : l ≠ (s.heap.push (empty0 led)).objs.size := by rw [z]; exact Nat.ne_of_lt (Nat.lt_succ_of_lt lS)
  have out : s.heap.objs.size ∉ [(s.heap.push (empty0 led)).objs.size, l] := by
    rw [z]
    simp only [List.mem_cons, List.not_mem_nil, or_false, not_or]
    exact ⟨Nat.ne_of_lt (Nat.lt_succ_self _), Nat.ne_of_gt lS⟩
  have hsz : items.size = xs.length := by rw [← StrsAre.len_eq hi, Array.length_toList]
  have hval : ∀ (i : Nat) (v : Value), items[i]? = some v → ∃ t, v = .str (xs.getD i Str.empty) t := fun i v hv => SS.strs_at hi i v (by rw [Array.getElem?_toList]; exact hv)
  have W := (Walks.list (prog := prog) (w := w) (A := A.in1) c3 _ l nI items).toS
  rw [hsz] at W
  refine texts_in xs W s.heap.objs.size out few hval (fun _ _ _ => trivial) _ 0 _ rfl (Nat.zero_le _) ⟨⟨_, Heap.get?_push_size _ rfl, rfl, rfl⟩, (hl1.push _)⟩ ?_ ?_
  · have hg : ((s.heap.push (empty0 led)).push { cls := .type "list_iterator", data := .fields #[.ref l, .int 0 0] }).get? s.heap.objs.size = some (empty0 led) := Heap.get?_push_of_some _ hS
    exact SetOf_congr ((setObjOf_fresh (knd := PySem.strKind prog w) led).setOf hg (by unfold scanBound; omega)) (fun k => by simp) rfl
  · intro s' hm hS'
    obtain ⟨h', g', d', tk', os'⟩ := s'
    obtain rfl : g' = s.gens := hm.gens
    obtain rfl : d' = s.drawn := hm.drawn
    obtain rfl : os' = s.os := hm.os
    show wpAny _ _ _ _ _ _
    refine wpAny_pure ?_
    show wpAny _ _ (ret Value.none) _ _ _
    refine wpAny_pure ⟨_, rfl, rfl, h', tk', rfl, hS', fun b o hb e => ?_⟩
    refine hm.heap b o ?_ (Heap.get?_push_of_some _ (Heap.get?_push_of_some _ e))
    simp only [List.mem_cons, List.not_mem_nil, or_false, not_or]
    rw [z]
    exact ⟨Nat.ne_of_lt hb, Nat.ne_of_lt (Nat.lt_succ_of_lt hb)⟩
/-- set(xs) -/
theorem set_of_texts {s : Shared} {l : Addr} {items : Array Value} {xs : List Str} {Q : Value → Shared → Prop} (calm : A.handled = none) (hl : s.heap.IsList l items) (hi : StrsAre items.toList xs) (few : xs.length + 1 < scanBound)
    (h : ∀ s', Filled prog w s s' s.heap.objs.size xs → Q (.ref s.heap.objs.size) s') : wpAny (model prog w) A (call (.type "set") [.ref l]) Q E s := by
  obtain ⟨c, tl, hmro⟩ := PySem.F.called_set.mro
  have a1 := PySem.F.called_set.made
  have a2 := PySem.F.called_set.sub
  have a3 := PySem.F.called_set.notType
  have a4 := PySem.F.called_set.canCreate
  have a5 := PySem.F.typeCall_set_1 (.ref l)
  refine wpAny_call (codeAny_of_tree ?_)
  show wpAny _ _ (callAny (.type "set") _) _ _ _
  refine wpAny_pure ⟨Code.quiet_builtin _ (by decide +kernel), codeAny_builtin PySem.F.entry_type_call ?_⟩
  rw [Around.under_plain (weight_type_call_type "set" [.ref l] []) rfl]
  repeat (any_goals (first | assumption | wp_step))
  refine codeAny_mono (code_set_new_1 (.ref l) (E := E) (Q₁ := fun o s₁ => ∃ led : Bool, o = .ref s.heap.objs.size ∧ s₁ = { s with heap := s.heap.push (empty0 led) }) fun led => ⟨led, rfl, rfl⟩) fun r s₁ hr => ?_
  match r, hr with
  | .error e, hr => exact hr
  | .ok (.ret o), hr =>
    obtain ⟨led, rfl, rfl⟩ := hr
    have hS : (s.heap.push (empty0 led)).get? s.heap.objs.size = some (empty0 led) := Heap.get?_push_size _ rfl
    have hT : Shared.TypeIs { s with heap := s.heap.push (empty0 led) } (.ref s.heap.objs.size) "set" := ⟨_, hS, rfl⟩
    have b1 := PySem.F.called_set.init.lookup
    have b2 := PySem.F.called_set.init.bind (.ref s.heap.objs.size)
    repeat (any_goals (first | assumption | wp_step))
    refine codeAny_mono (codeAny_call_builtin (R := wants (fun r s₂ => r = .none ∧ Filled prog w s s₂ s.heap.objs.size xs) E) PySem.F.called_set.init.plain PySem.F.entry_set_init (check_set_init_1 hT ?_)) fun r₂ s₂ hr₂ => ?_
    · refine wpAny_mono (set_init_texts (prog := prog) (w := w) (A := A.in1.in1) (E := E) (by simp [calm]) hl hi few) (fun fin s' hf => ?_) fun e s' hf => hf
      obtain ⟨r, rfl, hr, hF⟩ := hf
      exact ⟨hr, hF⟩
    · match r₂, hr₂ with
      | .error e, hr₂ => exact hr₂
      | .ok (.ret r), hr₂ =>
        obtain ⟨rfl, hF⟩ := hr₂
        repeat (any_goals (first | assumption | wp_step))
        exact h _ hF
end
/-- len(set(xs)), xs a list of texts -/
def tLenSetS (K : PySem.W.Frag) (ta : TE) : TE := fun σ H Q => ta σ H fun x H1 => ∃ (l : Addr) (xs : List Str), x = .ref l ∧ SqL K H1 l (xs.map V.str) ∧ xs.length ≤ 1000 ∧ Q (.int (unlike xs xs.length : Nat)) H1
theorem pe_lenSetS {X : Cx} {a : Expr} {ta : TE} {p p2 q pos : Pos} (hg : Gl X "len") (hm : X.mg "len" = none) (hg2 : Gl X "set") (hm2 : X.mg "set" = none) (ha : PE X a ta) (hc : X.calm = true := by rfl)
    (na : starEach [a] X.env = (false, eval a X.env) :: starEach [] X.env := by rfl) : PE X (.Call (.Name "len" p) [.Call (.Name "set" p2) [a] [] q] [] pos) (tLenSetS X.K ta) := by
  refine ⟨fun pins s σ H Q I h => ?_⟩
  refine Call_ (ld_blt I hg hm boot_len ?_)
  refine callWith_builtin1 (args_cons ?_ rfl) rfl rfl
  refine Call_ (ld_blt I hg2 hm2 boot_set ?_)
  refine callWith_type1 (args_cons (thn (ha.run pins s σ H _ I h) fun v s1 ⟨x, H1, I1, r1, q1⟩ => args_nil ?_) na) na rfl
  obtain ⟨l, xs, rfl, hq, few, q1⟩ := q1
  cases r1
  obtain ⟨its, r, pl, hz⟩ := I1.list hq
  refine set_of_texts (I1.ok.hd hc) pl.isList (by simpa using strsAre_of r) (by unfold scanBound; omega) fun s' hF => ?_
  obtain ⟨h', tk, rfl, hS, hk⟩ := hF
  refine args_nil ?_
  obtain ⟨o, es, ep, t, ho, hex, hd, _, _, _, hf, hn⟩ := hS
  have le := unlike_le xs xs.length
  have I2 : Inv X pins σ H1 { s1 with heap := h', toks := tk } := I1.kept fun b o e => hk b o (Heap.lt_size e) e
  exact call_len_set ho hex hd hf (by rw [hn] <;> omega) ⟨.int (unlike xs xs.length : Nat), H1, I2.tok _, ⟨_, by rw [hn]⟩, q1⟩
end Kl

namespace Kl
open PySem L2 Kd
/-! a line of approvals -/
def apprP (ps : List Str) : Option (Str × Int × List Str) :=
  if ps.getD 0 "" = "own" ∧ 4 ≤ ps.length ∧ ps.length ≤ 9 then
    if ps.getD 1 "" = "all/" ∨ pathB (ps.getD 1 "") = true then
      if 0 ≤ digitP (ps.getD 2 "") ∧ digitP (ps.getD 2 "") ≤ 3 then
        if (ps.drop 3).all wordB = true ∧ (ps.drop 3).Nodup then some (ps.getD 1 "", digitP (ps.getD 2 ""), ps.drop 3) else none
      else none
    else none
  else none
theorem at_str {ps : List Str} {i : Nat} (h : i < ps.length) : atI (ps.map V.str) (i : Int) = some (.str (ps.getD i "")) := by
  refine atI_nat ?_
  rw [List.getElem?_map, List.getElem?_eq_getElem h, List.getD_eq_getElem?_getD, List.getElem?_eq_getElem h]
  rfl
def ApprV (H : Hp) (v : V) : Option (Str × Int × List Str) → Prop
  | none => v = .non
  | some a => ∃ t nt : Addr, v = .ref t ∧ H t = some (.tup [.str a.1, .int a.2.1, .ref nt]) ∧ H nt = some (.tup (a.2.2.map V.str))
def spAppr (_ : PySem.W.Frag) : Sp := fun vs H Q _ => ∃ (pl : Addr) (ps : List Str), vs = [.ref pl] ∧ H pl = some (.lst (ps.map V.str)) ∧ 1 ≤ ps.length ∧ (∀ x ∈ ps, x.length ≤ 1000) ∧ ∀ (v : V) (H' : Hp), Same H H' → ApprV H' v (apprP ps) → Q v H'
section
variable {P : Program} {w : World} {K : PySem.W.Frag} {mg : Str → Option Value} {base : Heap}
abbrev s_approval_of : Stmt := topS 23
theorem sc_approval_of : FnScope ["parts", "names", "count", "name"] ["parts"] (defScope s_approval_of) := ⟨rfl, rfl, rfl, by decide +kernel, rfl, by decide +kernel, by decide +kernel⟩
theorem ok_approval {f : Addr} {fd : FuncData} (F : Fun K "approval_of" "approval_of" s_approval_of f fd) (T : Glo mg) (Se : mg "set" = none) {t6 t3 : Tok} (m_MOST_OWNERS : mg "MOST_OWNERS" = some (.int 6 t6)) (m_MOST_APPROVALS : mg "MOST_APPROVALS" = some (.int 3 t3))
    (c_is_path : C8.Cal P w K mg base 2 "is_path" (spPathG K) []) (c_digit_of : C8.Cal P w K mg base 1 "digit_of" (spDigit K) []) (c_is_word : C8.Cal P w K mg base 1 "is_word" (spWordG K) []) : FnOk P w K mg base CX0 3 f fd ["parts"] (spAppr K) := by
  refine F.ok sc_approval_of (fun vs H Q E h => ?_) (fun cdv A outer s H vs Q E hr h => ?_)
  · obtain ⟨pl, ps, rfl, _⟩ := h
    rfl
  · obtain ⟨pl, ps, rfl, hp, h0, hx, k⟩ := h
    refine ⟨_, (pss_cons (ps_set (i := 1) sc_approval_of.nd rfl (.inl rfl) (pe_slice sl_list (pv 0) (po_some pe_int) po_none))
      (C8.pss_cut (ps_if (PW.pt (pw_or (pt_cmpR op_ne (pe_ix ix_list (pv 0) pe_int (fun _ _ => rfl)) pe_str (nomark _)) (pw_or1 (pt_not (pt_chain op_le op_le pe_int (pe_callB call_len_seq (by rfl) T.len PySem.boot_len (pa_cons (pv 1) pa_nil)) (pe_glob (v := .int 6) (by rfl) m_MOST_OWNERS ⟨_, rfl⟩))))))
      (pss_one (ps_ret pe_non))
      pss_nil)
      (C8.pss_cut (ps_if (PW.pt (pw_and (pt_cmpR op_ne (pe_ix ix_list (pv 0) pe_int (fun _ _ => rfl)) pe_str (nomark _)) (pw_and1 (pt_not (pt_val (C8.pe_c c_is_path hr (by omega) (by rfl) (pa_cons (pe_ix ix_list (pv 0) pe_int (fun _ _ => rfl)) pa_nil)))))))
      (pss_one (ps_ret pe_non))
      pss_nil)
      (pss_cons (ps_set (i := 2) sc_approval_of.nd rfl (.inl rfl) (C8.pe_c c_digit_of hr (by omega) (by rfl) (pa_cons (pe_ix ix_list (pv 0) pe_int (fun _ _ => rfl)) pa_nil)))
      (C8.pss_cut (ps_if (pt_not (pt_chain op_le op_le pe_int (pv 2) (pe_glob (v := .int 3) (by rfl) m_MOST_APPROVALS ⟨_, rfl⟩)))
      (pss_one (ps_ret pe_non))
      pss_nil)
      (C8.pss_cut (ps_if (PW.pt (pw_or (pt_not (pt_val (pe_callB (cr_all rfl) (by rfl) T.all (by decide +kernel) (pa_cons (pe_lc (own := [("name", 3)]) (g := gName 3) (tt := tYes) rfl sc_approval_of.nd (pi_list (pv 1)) (blkOk_by (N := ["parts", "names", "count", "name"]) (sc := defScope s_approval_of) (by decide +kernel)) (fun _ _ _ _ _ => (pg_name (i := 3) sc_approval_of.nd rfl (.inl rfl))) (fun _ _ _ _ _ => pts_nil) (fun _ _ _ _ _ => (C8.pe_c c_is_word hr (by omega) (by rfl) (pa_cons (pv 3) pa_nil)))) pa_nil)))) (pw_or1 (pt_cmpR op_lt (pe_lenSetS (by rfl) T.len (by rfl) Se (pv 1)) (pe_callB call_len_seq (by rfl) T.len PySem.boot_len (pa_cons (pv 1) pa_nil)) (nomark _)))))
      (pss_one (ps_ret pe_non))
      pss_nil)
      (pss_one (ps_ret (pe_tup (pa_cons (pe_ix ix_list (pv 0) pe_int (fun _ _ => rfl)) (pa_cons (pv 2) (pa_cons (pe_callTy call_tuple_of (by rfl) T.tuple PyProof.Rows.boot_tuple (pa_cons (pv 1) pa_nil)) pa_nil)))))))))))), ?_⟩
    refine st_seq (st_asg ?_)
    refine ⟨_, rfl, _, rfl, pl, _, rfl, SqL.of hp, fun D hD => st_g ?_⟩
    dsimp only
    rw [show cutV (ps.map V.str) (some 3) none = (ps.drop 3).map V.str from cut_drop ps 3]
    have s1 : Same H (upd H D (.lst ((ps.drop 3).map V.str))) := Same.new hD
    have d1 : upd H D (.lst ((ps.drop 3).map V.str)) D = some (.lst ((ps.drop 3).map V.str)) := upd_same
    have p1 := s1 _ _ hp
    generalize upd H D (.lst ((ps.drop 3).map V.str)) = H1 at s1 d1 p1 ⊢
    have no : ∀ H2, Same H1 H2 → apprP ps = none → Q .non H2 := fun H2 s2 e => k _ _ (fun b o z => s2 b o (s1 b o z)) (by rw [e]; rfl)
    have dl : (ps.drop 3).length = ps.length - 3 := List.length_drop ..
    refine ⟨fun σ' H' => σ' = [some (.ref pl), some (.ref D), none, none] ∧ H' = H1 ∧ ps.getD 0 "" = "own" ∧ 4 ≤ ps.length ∧ ps.length ≤ 9, ?_, ?_⟩
    · refine ⟨_, rfl, pl, _, 0, _, rfl, rfl, SqL.of p1, at_str h0, rfl, _, rfl, ?_⟩
      by_cases c1 : ps.getD 0 "" = "own"
      · rw [decide_eq_true (show V.str (ps.getD 0 "") = V.str "own" by rw [c1])]
        refine iteF ⟨_, rfl, D, _, rfl, .inl (SqL.of d1), _, _, rfl, rfl, _, rfl, ite2 (fun z1 => ?_) (fun z1 => ?_)⟩
        · have z1 := of_decide_eq_true z1
          rw [List.length_map, dl] at z1
          refine ⟨_, _, rfl, rfl, _, rfl, ?_⟩
          rw [List.length_map, dl]
          by_cases h2 : ((ps.length - 3 : Nat) : Int) ≤ 6
          · rw [decide_eq_true h2]
            exact iteF ⟨rfl, rfl, c1, by omega, by omega⟩
          · rw [decide_eq_false h2]
            refine iteT (no H1 (Same.refl _) ?_)
            unfold apprP
            rw [if_neg fun h => h2 (by omega)]
        · refine ⟨_, rfl, iteT (no H1 (Same.refl _) ?_)⟩
          unfold apprP
          rw [if_neg fun h => z1 (decide_eq_true (by rw [List.length_map, dl]; omega))]
      · rw [decide_eq_false (show V.str (ps.getD 0 "") ≠ V.str "own" from fun e => c1 (V.str.inj e))]
        refine iteT (no H1 (Same.refl _) ?_)
        unfold apprP
        rw [if_neg fun h => c1 h.1]
    rintro σ' H' ⟨rfl, rfl, c1, c4, c9⟩
    have o1 : apprP ps = if ps.getD 1 "" = "all/" ∨ pathB (ps.getD 1 "") = true then
        if 0 ≤ digitP (ps.getD 2 "") ∧ digitP (ps.getD 2 "") ≤ 3 then
          if (ps.drop 3).all wordB = true ∧ (ps.drop 3).Nodup then some (ps.getD 1 "", digitP (ps.getD 2 ""), ps.drop 3) else none
        else none
      else none := by
      unfold apprP
      rw [if_pos ⟨c1, c4, c9⟩]
    have lx : ∀ i, i < ps.length → (ps.getD i "").length ≤ 1000 := fun i hi => by
      rw [List.getD_eq_getElem?_getD, List.getElem?_eq_getElem hi]
      exact hx _ (List.getElem_mem hi)
    refine ⟨fun σ' H2 => σ' = [some (.ref pl), some (.ref D), none, none] ∧ Same H' H2 ∧ (ps.getD 1 "" = "all/" ∨ pathB (ps.getD 1 "") = true), ?_, ?_⟩
    · refine ⟨_, rfl, pl, _, 1, _, rfl, rfl, SqL.of p1, at_str (i := 1) (by omega), rfl, _, rfl, ?_⟩
      by_cases c2 : ps.getD 1 "" = "all/"
      · rw [decide_eq_true (show V.str (ps.getD 1 "") = V.str "all/" by rw [c2])]
        exact iteF ⟨rfl, Same.refl _, .inl c2⟩
      · rw [decide_eq_false (show V.str (ps.getD 1 "") ≠ V.str "all/" from fun e => c2 (V.str.inj e))]
        refine iteT ⟨_, rfl, pl, _, 1, _, rfl, rfl, SqL.of p1, at_str (i := 1) (by omega), _, rfl, lx 1 (by omega), fun H2 s2 => ⟨_, rfl, ?_⟩⟩
        cases e : pathB (ps.getD 1 "") with
        | false =>
          refine iteT (no H2 s2 ?_)
          rw [o1, if_neg fun h => h.elim c2 fun z => by rw [e] at z; cases z]
        | true => exact iteF ⟨rfl, s2, .inr rfl⟩
    rintro σ' H2 ⟨rfl, s2, c2⟩
    rw [if_pos c2] at o1
    replace p1 := s2 _ _ p1
    replace d1 := s2 _ _ d1
    refine st_seq (st_asg ?_)
    refine ⟨_, rfl, pl, _, 2, _, rfl, rfl, SqL.of p1, at_str (i := 2) (by omega), _, rfl, by have := lx 2 (by omega); omega, st_g ?_⟩
    dsimp only
    refine ⟨fun σ' H3 => σ' = [some (.ref pl), some (.ref D), some (.int (digitP (ps.getD 2 ""))), none] ∧ H3 = H2 ∧ 0 ≤ digitP (ps.getD 2 "") ∧ digitP (ps.getD 2 "") ≤ 3, ?_, ?_⟩
    · refine ⟨_, rfl, _, _, rfl, rfl, _, rfl, ite2 (fun z1 => ?_) (fun z1 => ?_)⟩
      · have z1 := of_decide_eq_true z1
        refine ⟨_, _, rfl, rfl, _, rfl, ?_⟩
        by_cases h2 : digitP (ps.getD 2 "") ≤ 3
        · rw [decide_eq_true h2]
          exact iteF ⟨rfl, rfl, z1, h2⟩
        · rw [decide_eq_false h2]
          refine iteT (no H2 s2 ?_)
          rw [o1, if_neg fun h => h2 h.2]
      · refine ⟨_, rfl, iteT (no H2 s2 ?_)⟩
        rw [o1, if_neg fun h => z1 (decide_eq_true h.1)]
    rintro σ' H3 ⟨rfl, rfl, c3⟩
    rw [if_pos c3] at o1
    refine ⟨fun σ' H4 => σ' = [some (.ref pl), some (.ref D), some (.int (digitP (ps.getD 2 ""))), none] ∧ Same H3 H4 ∧ (ps.drop 3).all wordB = true ∧ (ps.drop 3).Nodup, ?_, ?_⟩
    · refine ⟨_, rfl, D, rfl, ⟨_, SqL.of d1⟩, fun B hB => lc_list (K := K) (xs := (ps.drop 3).map V.str) (fun i H2 => Same H3 H2 ∧ H2 B = some (.lst ((((ps.drop 3).take i).map wordB).map V.bl))) ⟨Same.new hB, upd_same⟩ (fun i H2 _ q => SqL.of (q.1 _ _ d1)) ?_ ?_⟩
      · rintro i y H4 hy ⟨s4, e4⟩
        rw [List.getElem?_map] at hy
        obtain ⟨w0, hw0, rfl⟩ := Option.map_eq_some_iff.mp hy
        have hil : i < (ps.drop 3).length := (List.getElem?_eq_some_iff.mp hw0).1
        refine ⟨rfl, _, rfl, w0, rfl, ?_, _, e4, ?_, Same.mut s4 hB, ?_⟩
        · have := hx w0 (List.mem_of_mem_drop (List.mem_of_getElem? hw0))
          omega
        · rw [List.length_map, List.length_map, List.length_take]
          exact small_lt (by omega)
        · rw [upd_same, List.take_add_one, hw0, List.map_append, List.map_append]
          rfl
      · rintro H4 ⟨s4, e4⟩
        rw [List.length_map, List.take_length] at e4
        refine ⟨B, _, rfl, SqL.of e4, _, rfl, ?_⟩
        have e : (((ps.drop 3).map wordB).all id) = (ps.drop 3).all wordB := by
          rw [List.all_map]
          rfl
        rw [e]
        replace d1 := s4 _ _ d1
        cases cw : (ps.drop 3).all wordB with
        | false =>
          refine iteT (no H4 (fun b o z => s4 b o (s2 b o z)) ?_)
          rw [o1, if_neg fun h => by rw [cw] at h; cases h.1]
        | true =>
          refine iteF ⟨_, rfl, D, _, rfl, SqL.of d1, by omega, _, rfl, D, _, rfl, .inl (SqL.of d1), _, _, rfl, rfl, _, rfl, ?_⟩
          have ul := unlike_lt (ps.drop 3) _ (Nat.le_refl _)
          have le := unlike_le (ps.drop 3) (ps.drop 3).length
          rw [List.take_length] at ul
          by_cases nd : (ps.drop 3).Nodup
          · rw [decide_eq_false (show ¬ ((unlike (ps.drop 3) (ps.drop 3).length : Nat) : Int) < (((ps.drop 3).map V.str).length : Nat) by rw [List.length_map, ul.mpr nd]; omega)]
            exact iteF ⟨rfl, s4, rfl, nd⟩
          · rw [decide_eq_true (show ((unlike (ps.drop 3) (ps.drop 3).length : Nat) : Int) < (((ps.drop 3).map V.str).length : Nat) by
              rw [List.length_map]
              have : unlike (ps.drop 3) (ps.drop 3).length ≠ (ps.drop 3).length := fun z => nd (ul.mp z)
              omega)]
            refine iteT (no H4 (fun b o z => s4 b o (s2 b o z)) ?_)
            rw [o1, if_neg fun h => nd h.2]
    rintro σ' H4 ⟨rfl, s4, c5⟩
    rw [if_pos c5] at o1
    replace p1 := s4 _ _ p1
    replace d1 := s4 _ _ d1
    refine ⟨_, rfl, pl, _, 1, _, rfl, rfl, SqL.of p1, at_str (i := 1) (by omega), _, rfl, _, rfl, D, _, rfl, .inl ⟨SqL.of d1, fun nt hnt => ⟨(by show 3 ≤ sizeLine; decide), fun t ht => ?_⟩⟩⟩
    refine k _ _ (fun b o z => ?_) ?_
    · have z4 := s4 _ _ (s2 _ _ (s1 _ _ z))
      rw [upd_ne (ne_of_none (by rw [upd_ne (ne_of_none z4 hnt)]; exact z4) ht), upd_ne (ne_of_none z4 hnt)]
      exact z4
    · rw [o1]
      have nn : nt ≠ t := fun z => by
        rw [← z, upd_same] at ht
        cases ht
      exact ⟨t, nt, rfl, upd_same, by rw [upd_ne nn]; exact upd_same⟩
end
end Kl

/-! own exception classes over Exception: made, stored into, told apart -/
namespace Kx
open PySem PySem.Spec PyProof.Rows L2
abbrev exMro : List Value := [.type "Exception", .type "BaseException", .type "object"]
/-- what the written part says of such a class -/
structure ExC (K : PySem.W.Frag) (C : Addr) : Prop where
  mkd : PySem.W.excInitIn K C exMro "Exception.__new__" = true
  ov : PySem.W.excOver K C exMro = true
  hd : PySem.W.hasDictIn K C = true
  sa : PySem.W.findIn K (.ref C) "__setattr__" = some (some (.builtin "object.__setattr__"))
  sb : PySem.W.subIn K (.ref C) (.type "BaseException") = some true
  ty : PySem.W.typeIn K (.ref C) = some (.type "type")
  kp : PySem.W.keepIn K (.ref C) = true
section
open PySem.W PySem.Calls PySem.HandSPX Builtin Builtin.ObjectAttr
variable {prog : Program} {w : World} {A : Around} {R : Result → Shared → Prop} {K : PySem.W.Frag} {C x : Addr} {hh : Heap} {gs : Array GenState} {dr : Drawn} {tt : Nat} {oo : OsState} {nm : Str} {tk : Tok} {v : Value} {flds : Array Value}
theorem own_store (T : ExC K C) (X : K.In hh) {od : Option Obj} {ox : Obj} (I : InstAt hh x ox C od) (hn : findIn K (.ref C) nm = some none)
    (k : ∀ b, wpAny (model prog w) A.in1 (storeInOwnDict (.ref x) (.ref C) (.str nm tk) nm v b) (fun fin s' => match fin with | .done f => R (.ok f) s' | .again c' => c'.quiet = true ∧ codeAny (model prog w) A c' R s') (fun e s' => R (.error e) s') ⟨hh, gs, dr, tt, oo⟩) :
    codeAny (model prog w) A (.call (.builtin "object.__setattr__") ⟨[.ref x, .str nm tk, v], []⟩) R ⟨hh, gs, dr, tt, oo⟩ := by
  have ht : takerIn K C nm = some none := by
    unfold takerIn
    rw [hn]
    rfl
  exact osa_openX (r := none) F.store_Exception X I T.ov ht k
/-- the first field -/
theorem first_store (T : ExC K C) (X : K.In hh) (ho : hh.get? x = some { cls := .ref C, data := .fields flds }) (hn : findIn K (.ref C) nm = some none)
    (k : ∀ h2 t2 dx, (∀ b o, b ≠ x → hh.get? b = some o → h2.get? b = some o) → hh.objs.size ≤ dx → dx ≠ x → h2.get? x = some { cls := .ref C, dict := some dx, data := .fields flds } →
      h2.Ns1 dx (fun y => if y = nm then some v else none) → R (.ok (.ret .none)) ⟨h2, gs, dr, t2, oo⟩) :
    codeAny (model prog w) A (.call (.builtin "object.__setattr__") ⟨[.ref x, .str nm tk, v], []⟩) R ⟨hh, gs, dr, tt, oo⟩ := by
  have I : InstAt hh x { cls := .ref C, data := .fields flds } C none := ⟨ho, rfl, rfl, trivial⟩
  refine own_store T X I hn fun b => ?_
  obtain ⟨cd, hc, hb⟩ := any_some T.hd
  have lc : Looks (model prog w) hh (classData C) cd := looks_clsIn X hc
  have ne : x ≠ hh.objs.size := Nat.ne_of_lt (Heap.lt_size ho)
  obtain ⟨c1, c2, c3, c4, c5, c6, c7, c8, c9, c10, c11⟩ := cd
  dsimp only at hb
  subst hb
  unfold storeInOwnDict ownDictForStores
  repeat (first | with_reducible refine store_in_new ?_ ?_ | with_reducible refine wpAny_loadPart_at ho ?_ | with_reducible refine lc.at ?_ | wp_step)
  · exact ⟨_, #[], _, (Heap.get?_update_ne _ _ _ _ ne.symm).trans (Heap.get?_push_at rfl rfl), rfl, fun e he => absurd he (by simp), fun _ => rfl⟩
  · intro h2 t2 hns hsb
    have ho1 : (hh.push { cls := .type "dict", data := .dict #[] }).get? x = some { cls := .ref C, data := .fields flds } := Heap.get?_push_of_some _ ho
    exact k h2 t2 hh.objs.size (fun b o hb e => (hsb.2 b (Nat.ne_of_lt (Heap.lt_size e))).trans ((Heap.get?_update_ne _ _ _ _ hb).trans (Heap.get?_push_of_some _ e))) (Nat.le_refl _) ne.symm
      ((hsb.2 x ne).trans (Heap.get?_update_self _ ho1 rfl)) hns
/-- a further field -/
theorem next_store {dx : Addr} {m0 : Str → Option Value} {nl : List Str} (T : ExC K C) (X : K.In hh) (ho : hh.get? x = some { cls := .ref C, dict := some dx, data := .fields flds }) (hm : hh.Ns1 dx m0) (hw : Within m0 nl) (hz : nl.length ≤ 1000) (hn : findIn K (.ref C) nm = some none)
    (k : ∀ h2 t2, (∀ b o, b ≠ dx → hh.get? b = some o → h2.get? b = some o) → h2.Ns1 dx (fun y => if y = nm then some v else m0 y) → R (.ok (.ret .none)) ⟨h2, gs, dr, t2, oo⟩) :
    codeAny (model prog w) A (.call (.builtin "object.__setattr__") ⟨[.ref x, .str nm tk, v], []⟩) R ⟨hh, gs, dr, tt, oo⟩ := by
  obtain ⟨oD, q1, q2, hoD, q3, q4⟩ := hm.count hw
  have I : InstAt hh x { cls := .ref C, dict := some dx, data := .fields flds } C (some oD) := ⟨ho, rfl, rfl, hoD⟩
  refine own_store T X I hn fun b => ?_
  obtain ⟨cd, hc, hb⟩ := any_some T.hd
  have lc : Looks (model prog w) hh (classData C) cd := looks_clsIn X hc
  obtain ⟨c1, c2, c3, c4, c5, c6, c7, c8, c9, c10, c11⟩ := cd
  dsimp only at hb
  subst hb
  unfold storeInOwnDict ownDictForStores
  repeat (first | with_reducible refine PySem.OEX.store_in_old hm hw hz ?_ | with_reducible refine wpAny_loadPart_at ho ?_ | with_reducible refine lc.at ?_ | wp_step)
  intro h2 t2 hns hsb
  exact k h2 t2 (fun b o hb e => (hsb.2 b hb).trans e) hns
end
section
variable {X : Cx} {pins : List (Addr × Obj)} {σ : L2.St} {H : Hp} {s : Shared} {a C dx : Addr} {f : Str} {y : V} {u : Value} {fs : List (Str × V)} {Q : Unit → Shared → Prop} {E : Value → Shared → Prop} {A : Around}
theorem put_first (T : ExC X.K C) (I : Inv X pins σ H s) (e : H a = some (exo a C none)) (hno : PySem.W.findIn X.K (.ref C) f = some none) (ry : RelV y u)
    (k : ∀ dx s2, H dx = none → dx ≠ a → Inv X pins σ (upd (upd H dx (exd dx [(f, y)])) a (exo a C (some dx))) s2 → Q () s2) : wpAny (model X.prog X.w) A (setAttr (.ref a) f u) Q E s := by
  obtain ⟨t1, ho⟩ := exo_at I.hok e
  obtain ⟨hh, gs, dr, tt, oo⟩ := s
  refine PySem.W.set_plain I.kIn (ox := { cls := .ref C, dict := none, data := .fields #[.ref t1, .none, .none, .none, .bool false, .none] }) (od := none) ⟨ho, rfl, rfl, trivial⟩ T.sa ?_
  refine first_store T I.kIn ho hno (fun h2 t2 dx kk dn dne hx hn => ?_)
  have fresh : H dx = none := I.hok.fresh dn
  have old : ∀ {b : Addr} {o : Obj}, hh.get? b = some o → b ≠ dx := fun {b o} q => Nat.ne_of_lt (Nat.lt_of_lt_of_le (Heap.lt_size q) dn)
  have na : ∀ {b : Addr}, H b = none → b ≠ a := fun {b} n z => by
    rw [z, e] at n
    exact nomatch n
  have through : ∀ {b : Addr} {o : HO}, H b = some o → exo a C none ≠ o → (upd (upd H dx (exd dx [(f, y)])) a (exo a C (some dx))) b = some o := fun {b o} q d => by
    rw [upd_ne (at_ne e q d), upd_ne (ne_of_none q fresh)]
    exact q
  refine k dx _ fresh dne (I.un (t' := t2) (h' := h2) ⟨fun b o q n _ _ => kk b o (na n) q, fun b o q n _ _ => ⟨o.slots, kk b o (na n) q⟩, fun b o q n _ => ?_, fun b o q _ => ?_, fun b xs q => through q exo_tup, fun b o v q => through q exo_frz, fun b ps q => ⟨#[], ?_⟩⟩ fun b o q => ?_)
  · rw [upd_ne (na n), upd_ne (old q)]
    exact n
  · by_cases hb : b = a
    · subst hb
      exact ⟨_, hx⟩
    · exact ⟨o, kk b o hb q⟩
  · rw [through q exo_tbl]
    simp
  · by_cases hb : b = a
    · subst hb
      rw [upd_same] at q
      obtain rfl := Option.some.inj q
      exact exo_ok hx
    · rw [upd_ne hb] at q
      by_cases hd : b = dx
      · subst hd
        rw [upd_same] at q
        obtain rfl := Option.some.inj q
        exact exd_ok hn (relO_put (fs := []) ry fun g => trivial)
      · rw [upd_ne hd] at q
        refine (I.hok b o q).stay (fun c v hc z => kk c v ?_ z) (fun c hc => through hc exo_own) (fun c xs hc => through hc exo_tup)
        rcases hc with hc | hc
        · rw [hc]
          exact hb
        · exact at_ne e hc exo_own
theorem put_next (T : ExC X.K C) (I : Inv X pins σ H s) (e : H a = some (exo a C (some dx))) (ed : H dx = some (exd dx fs)) (hl : fs.length ≤ 900) (hno : PySem.W.findIn X.K (.ref C) f = some none) (ry : RelV y u)
    (k : ∀ s2, Inv X pins σ (upd H dx (exd dx ((f, y) :: fs))) s2 → Q () s2) : wpAny (model X.prog X.w) A (setAttr (.ref a) f u) Q E s := by
  obtain ⟨t1, ho⟩ := exo_at I.hok e
  obtain ⟨m0, hm, rel⟩ := exd_at I.hok ed
  have hw := within_of rel
  obtain ⟨hh, gs, dr, tt, oo⟩ := s
  obtain ⟨oD, q1, q2, hoD, q3, q4⟩ := hm.count hw
  refine PySem.W.set_plain I.kIn (ox := { cls := .ref C, dict := some dx, data := .fields #[.ref t1, .none, .none, .none, .bool false, .none] }) (od := some oD) ⟨ho, rfl, rfl, hoD⟩ T.sa ?_
  refine next_store T I.kIn ho hm hw (by rw [List.length_map]; omega) hno (fun h2 t2 kk hn => ?_)
  have there : ∃ o, h2.get? dx = some o := by
    obtain ⟨o, z1, z2, e2, z3⟩ := hn
    exact ⟨o, e2⟩
  exact k _ (I.write (t' := t2) (x := dx) (e := dx) (o := exd dx ((f, y) :: fs)) (by rw [ed]; trivial) (.inl rfl) kk there (exd_ok hn (relO_put ry rel)))
end
/-- self.f = e, self an exception that is being made -/
def tPut (K : PySem.W.Frag) (f : Str) (to te : TE) : TS := fun D σ H => te σ H fun y H1 => to σ H1 fun x H2 => ∃ a C : Addr, x = .ref a ∧ ExC K C ∧ PySem.W.findIn K (.ref C) f = some none ∧
  ((H2 a = some (exo a C none) ∧ ∀ dx, H2 dx = none → dx ≠ a → D.nx σ (upd (upd H2 dx (exd dx [(f, y)])) a (exo a C (some dx)))) ∨
    ∃ (dx : Addr) (fs : List (Str × V)), H2 a = some (exo a C (some dx)) ∧ H2 dx = some (exd dx fs) ∧ fs.length ≤ 900 ∧ D.nx σ (upd H2 dx (exd dx ((f, y) :: fs))))
section
variable {X : Cx} {o e : Expr} {es : List Expr} {to te : TE} {ta : TA} {f : Str} {p p' p1 p2 pos : Pos}
theorem ps_put (ho : PE X o to) (he : PE X e te) (hs : swapsWith e (some (.Attribute o f p')) pos.line X.env = pure false := by rfl) : PS X (.Assign [.Attribute o f p'] e pos) (tPut X.K f to te) := by
  refine ⟨fun pins s σ H D I h => plainObj_wpAny_Assign_Attribute (thn (he.run pins s σ H _ I h) fun v s1 ⟨y, H1, I1, r1, q1⟩ => thn (ho.run pins s1 σ H1 _ I1 q1) fun u s2 ⟨x, H2, I2, r2, a, C, ex, T, hno, q⟩ => ?_) hs⟩
  subst ex
  obtain rfl : u = Value.ref a := r2
  rcases q with ⟨ea, q⟩ | ⟨dx, fs, ea, ed, hl, q⟩
  · exact put_first T I2 ea hno r1 fun dx s2 n ne J => ⟨σ, _, J, q dx n ne⟩
  · exact put_next T I2 ea ed hl hno r1 fun s2 J => ⟨σ, _, J, q⟩
/-- C(e, ..) by its own __init__ -/
theorem nmk_ex {CX : CXT} {x : Str} {C fI : Addr} {k : Nat} {fd : FuncData} {ps : List Str} {sp : Sp} (T : ExC X.K C) (iC : PySem.W.findIn X.K (.ref C) "__init__" = some (some (.ref fI))) (tI : PySem.W.typeIn X.K (.ref fI) = some (.type "function"))
    (G : FnOk X.prog X.w X.K X.mg X.base CX k fI fd ps sp) (hr : Room (k + 1) X.A) (hb : Binds X.K fd ps []) (hx : Passes CX X (fun _ _ _ => False)) (hg : Gl X x) (hm : X.mg x = some (.ref C)) (ha : PA X (e :: es) ta)
    (hdb : (x == ("__debug__" : Str)) = false := by decide) (he : starEach (e :: es) X.env = (false, eval e X.env) :: starEach es X.env := by rfl) (hpl : (backTo pos (starEach es X.env)).any (·.1) = false := by rfl) :
    L2N.PMk X (.Call (.Name x p) (e :: es) [] pos) (tMkO C sp [] ta) := by
  intro pins s σ H Q I h
  refine wpAny_Call_Name_kw (ld_glob I hg hm ?_ hdb)
  refine PySem.W.callWith_K (h₀ := X.base) I.ok.mod.kin T.kp (thn (ha.run pos pins s σ H _ I h) fun us s1 ⟨vs, H1, I1, r1, hz, q1⟩ => ⟨I1.kIn, ?_⟩) he hpl
  obtain ⟨hh, gs, dr, tt, oo⟩ := s1
  obtain ⟨c1, c2, c3, c4, c5, c6, c7, c8, c9, c10, c11, c12, c13, c14, c15, c16, hC, hT⟩ := PySem.W.excInit_of I1.kIn T.mkd
  have up : hh.objs.size ≤ hh.objs.size + 1 := Nat.le_succ _
  have now := q1 (hh.objs.size + 1) (I1.hok.fresh up)
  rw [List.append_nil] at now
  have keeps : ∀ b o, hh.get? b = some o → ((hh.push (PySem.W.kdv_tup us)).push (PySem.HandSPX.excO C hh.objs.size)).get? b = some o := fun b o z => Heap.get?_push_of_some _ (Heap.get?_push_of_some _ z)
  have made : ((hh.push (PySem.W.kdv_tup us)).push (PySem.HandSPX.excO C hh.objs.size)).get? (hh.objs.size + 1) = some (PySem.HandSPX.excO C hh.objs.size) := by heap_get
  have J : Inv X pins σ (upd H1 (hh.objs.size + 1) (exo (hh.objs.size + 1) C none)) ⟨(hh.push (PySem.W.kdv_tup us)).push (PySem.HandSPX.excO C hh.objs.size), gs, dr, tt, oo⟩ :=
    I1.laid (t' := tt) (a := hh.objs.size + 1) (o := exo (hh.objs.size + 1) C none) (h' := (hh.push (PySem.W.kdv_tup us)).push (PySem.HandSPX.excO C hh.objs.size)) keeps up (exo_ok made)
  have rr : Vals (V.ref (hh.objs.size + 1) :: vs) (Value.ref (hh.objs.size + 1) :: us) := .cons rfl r1
  have ll : (Value.ref (hh.objs.size + 1) :: us).length = ps.length := by
    have z := rr.length
    rw [G.len _ _ _ _ now] at z
    exact z.symm
  have small : us.length ≤ sizeLine := by
    rw [← Paired.length r1, sizeLine_eq]
    omega
  have run := G.run _ X.stack _ _ ⟨Value.ref (hh.objs.size + 1) :: us, []⟩ (Value.ref (hh.objs.size + 1) :: us) _ _ (fun _ _ _ => False) (hr.make C us []) (J.env0.make C us []) (by
    have z := hb _ (Value.ref (hh.objs.size + 1) :: us) J.kIn (by simpa using ll)
    rwa [List.append_nil] at z) rr now
  refine wpAny_call (PySem.HandSPX.call_own F.excBase_Exception hT hC (PySem.W.looks_findIn I1.kIn iC) (fun self => PySem.W.bind_fn I1.kIn self tI) small (codeAny_mono run fun r s2 z => ?_))
  match r, z with
  | .error er, z => exact hx pins σ _ _ er s2 J z
  | .ok (.ret u), z =>
    obtain ⟨v, H2, o2, b2, un2, ok2, rv, ev, d, fs, ea, ed, hd1, q2⟩ := z
    subst ev
    obtain ⟨h2, g2, d2, t2, oo2⟩ := s2
    obtain ⟨t0, G0, J2, kG, ge, hoe, na⟩ := mk_end0 (d2 := d2) (t2 := t2) I1 up keeps un2 ok2 o2 b2 ea ed hd1
    exact ⟨rv, hh.objs.size + 1, _, _, ⟨G0, g2, d2, t2, oo2⟩, _, .ref C, some d, rfl, J2, kG, ge, hoe, ⟨rfl, rfl, fun vs hv => by cases hv; rfl⟩, rfl, rfl, na, rfl, b2, raises_own T.sb T.ty, q2⟩
  | .ok .next, z => exact False.elim z
  | .ok .brk, z => exact False.elim z
  | .ok .cont, z => exact False.elim z
end
/-- what isinstance asks of the class of an error that a suite holds -/
structure IsC (K : PySem.W.Frag) (D : Addr) : Prop where
  c0 : (PySem.W.clsIn K D).isSome = true
  ga : PySem.W.findIn K (.ref D) "__getattribute__" = some (some (.builtin "BaseException.__getattribute__"))
  gg : PySem.W.findIn K (.ref D) "__getattr__" = some none
  sb : PySem.W.subIn K (.ref D) (.type "BaseException") = some true
  cl : PySem.W.findIn K (.ref D) "__class__" = some (some (.builtin "object.__class__"))
  gt : PySem.W.specialIn K (.builtin "object.__class__") "__get__" = some (some (.builtin "getset_descriptor.__get__"))
  tk : PySem.W.takesIn K (.builtin "object.__class__") = some true
  ob : PySem.W.mroIn K D (.type "object") = some true
/-- isinstance(e, c), e the error that the suite holds, at a: its class cls, its dict d -/
def rIsX (K : PySem.W.Frag) (cls : Value) (a : Addr) (d : Option Addr) : List V → Hp → VK → Prop := fun xs H Q => ∃ (D : Addr) (c : V) (cv : Value) (b : Bool), cls = .ref D ∧ IsC K D ∧ xs = [.ref a, c] ∧ ClsV c cv ∧ PySem.W.kitOne K (.ref D) cv = some b ∧ (∃ dd fs, d = some dd ∧ H dd = some (.xd fs)) ∧ Q (.bl b) H
theorem call_isX {X : Cx} {a : Addr} {cls : Value} {oe : Obj} {d : Option Addr} {pn : List (Addr × Obj)} (hz : Zc cls d oe) (hf : ∃ vs, oe.data = .fields vs) : CallR (X.suite a ((a, oe) :: pn)) (.builtin "isinstance") (rIsX X.K cls a d) := by
  intro pins s σ H xs us Q I r h
  obtain ⟨D, c, cv, b, rfl, T, rfl, hcv, e, ⟨dd, fs, rfl, hdd⟩, q⟩ := h
  obtain ⟨vs, hv⟩ := hf
  match r with
  | .cons rx (.cons rt .nil) =>
    cases rx
    have ec := hcv.eq rt
    subst ec
    obtain ⟨hget, _⟩ := I.pin (a, oe) (List.mem_append.mpr (.inl List.mem_cons_self))
    have hxd : ObjOk X.prog X.w H s.heap dd (.xd fs) := I.hok dd _ hdd
    obtain ⟨mA, hns, _⟩ := hxd
    obtain ⟨od, ho, _⟩ := lookIn_ns hns
    have J : PySem.W.InstAt s.heap a oe D (some od) := ⟨hget, hz.1, by unfold PySem.W.notCls; rw [hv] <;> rfl, by rw [hz.2]; exact ho⟩
    exact PySem.W.kia_one (PySem.W.kitx_exc T.c0 T.ga T.gg T.sb T.cl T.gt T.tk T.ob) I.kIn J e (fun z => by cases hcv <;> cases z) fun tk => ⟨.bl b, H, I.kept (t' := tk) fun _ _ z => z, rfl, q⟩
/-- e.f, e the error that the suite holds -/
def tGet (K : PySem.W.Frag) (a : Addr) (cls : Value) (d : Option Addr) (f : Str) (te : TE) : TE := fun σ H Q => te σ H fun x H1 => x = .ref a ∧ ∃ (C dd : Addr) (fs : List (Str × V)) (v : V), cls = .ref C ∧ XfC K C ∧ PySem.W.findIn K (.ref C) f = some none ∧ d = some dd ∧ H1 dd = some (.xd fs) ∧ fs.lookup f = some v ∧ Q v H1
theorem pe_get {X : Cx} {a : Addr} {oe : Obj} {cls : Value} {d : Option Addr} {pn : List (Addr × Obj)} {e : Expr} {te : TE} {pos : Pos} {n : Str} (hz : Zc cls d oe) (hf : ∃ vs, oe.data = .fields vs) (he : PE (X.suite a ((a, oe) :: pn)) e te)
    (hb : attributeBase e n X.env (eval e X.env) = eval e X.env := by rfl) : PE (X.suite a ((a, oe) :: pn)) (.Attribute e n pos) (tGet X.K a cls d n te) := by
  refine ⟨fun pins s σ H Q I h => attr_of hb (thn (he.run pins s σ H _ I h) fun u s1 hh => ?_)⟩
  obtain ⟨x, H1, I1, rx, rfl, C, dd, fs, v, rfl, T, hno, rfl, ea, l, q⟩ := hh
  obtain rfl : u = Value.ref a := rx
  obtain ⟨hget, _⟩ := I1.pin (a, oe) (List.mem_append_left _ List.mem_cons_self)
  obtain ⟨vs, hd⟩ := hf
  have hxd : ObjOk X.prog X.w H1 s1.heap dd (.xd fs) := I1.hok dd _ ea
  obtain ⟨mA, hns, hr⟩ := hxd
  obtain ⟨od, ho, hl⟩ := lookIn_ns hns
  obtain ⟨u, hu, ru⟩ := RelO.some_of (v := v) (o := mA n) (by rw [← l]; exact hr n)
  have J : PySem.W.InstAt s1.heap a oe C (some od) := ⟨hget, hz.1, by unfold PySem.W.notCls; rw [hd] <;> rfl, by rw [hz.2]; exact ho⟩
  exact HandSPX.exc_get I1.kIn J T.ga T.gg T.exC (PySem.W.findObj_own T.hdC hno rfl (by rw [hl, hu])) (handed_of ru) ⟨v, H1, I1.tok _, ru, q⟩
/-- a def that may raise, what it raises having no context -/
theorem okN {P : Program} {w : World} {K : PySem.W.Frag} {mg : Str → Option Value} {base : Heap} {x qual : Str} {st : Stmt} {f : Addr} {fd : FuncData} {N ps : List Str} {k : Nat} {sp : Sp} (F : Fun K x qual st f fd) (S : FnScope N ps (defScope st)) (len : ∀ vs H Q E, sp vs H Q E → vs.length = ps.length)
    (body : ∀ (cdv : Value) (A : Around) (outer : List Env) (s : Shared) (H : Hp) (vs : List V) (Q : VK) (E : XK), Room k (A.deeper (envOfC qual (defScope st) s.heap.objs.size f cdv)) → sp vs H Q E →
      ∃ t, PSs (cxOf (L2N.CX P w) P w K mg base N qual (defScope st) f cdv A outer s H E) (defBody st) t ∧ t { nx := fun _ H' => Q .non H', rt := Q } (start N vs) H) : FnOk P w K mg base (L2N.CX P w) (k + 1) f fd ps sp := by
  obtain ⟨e1, e2, e3, e4, e5, e6, e7, e8, e9, rfl, lk, hcd⟩ := F.ex
  exact fn_of lk hcd S len fun A outer s H vs Q E hr hs => body e7 A outer s H vs Q E hr hs
/-- a def called in an except suite -/
theorem okH {P : Program} {w : World} {K : PySem.W.Frag} {mg : Str → Option Value} {base : Heap} {x qual : Str} {st : Stmt} {f : Addr} {fd : FuncData} {N ps : List Str} {k : Nat} {sp : Sp} (F : Fun K x qual st f fd) (S : FnScope N ps (defScope st)) (len : ∀ vs H Q E, sp vs H Q E → vs.length = ps.length)
    (body : ∀ (cdv : Value) (A : Around) (outer : List Env) (s : Shared) (H : Hp) (vs : List V) (Q : VK) (E : XK) (p : Addr × Obj), L2H.Hot1 A p → L2H.RoomH k (A.deeper (envOfC qual (defScope st) s.heap.objs.size f cdv)) → sp vs H Q E →
      ∃ t, PSs (L2H.cxH CX0 P w K mg base N qual (defScope st) f cdv A outer s H E p).nox (defBody st) t ∧ t { nx := fun _ H' => Q .non H', rt := Q } (start N vs) H) : L2H.FnH P w K mg base CX0 (k + 1) f fd ps sp := by
  obtain ⟨e1, e2, e3, e4, e5, e6, e7, e8, e9, rfl, lk, hcd⟩ := F.ex
  refine L2H.fn_ofH lk hcd S len fun A outer s H vs Q E p hot hr hs => ?_
  obtain ⟨t, h, q⟩ := body e7 A outer s H vs Q E p hot hr hs
  exact ⟨t, h.nox, q⟩
/-- for the bodies of defs called in a suite -/
theorem hot_of {CXx : CXT} {P : Program} {w : World} {K : PySem.W.Frag} {mg : Str → Option Value} {base : Heap} {N : List Str} {qual : Str} {scope : Scope} {f : Addr} {cd : Value} {A : Around} {outer : List Env} {s : Shared} {H : Hp} {E : XK} {p : Addr × Obj}
    (h : L2H.Hot1 A p) : L2H.HotC (L2H.cxH CXx P w K mg base N qual scope f cd A outer s H E p).nox := ⟨p, h, List.mem_cons_self⟩
theorem pass_at {X : Cx} {E : L2.St → XK} : ∀ σ, PassesAt CX0 X σ (E σ) := fun _ _ _ _ _ _ _ h => h.elim
theorem hot_suite {X : Cx} {a : Addr} {cls : Value} {d : Option Addr} {oe : Obj} {pn : List (Addr × Obj)} (hz : L2N.Zn cls d oe) (hf : ∃ vs, oe.data = .fields vs) : L2H.HotC (X.suite a ((a, oe) :: pn)) := by
  obtain ⟨vs, hv⟩ := hf
  exact ⟨(a, oe), ⟨rfl, vs, hv, hz.2.2 vs hv⟩, List.mem_cons_self⟩
end Kx

namespace Kl
open PySem L2 Kd Kx
/-! BadFile: made and raised -/
/-- an own error class: the class at C, its __init__ at fI -/
structure Err (K : PySem.W.Frag) (mg : Str → Option Value) (x : Str) (C fI : Addr) : Prop where
  ex : ExC K C
  ini : PySem.W.findIn K (.ref C) "__init__" = some (some (.ref fI))
  tI : PySem.W.typeIn K (.ref fI) = some (.type "function")
  mc : mg x = some (.ref C)
  xf : XfC K C
  is : IsC K C
abbrev iBF : Stmt := inClass (topS 17) 0
def spAt2 (K : PySem.W.Frag) (C : Addr) : Sp := fun vs H Q _ => ∃ (a : Addr) (u v : V), vs = [.ref a, u, v] ∧ H a = some (exo a C none) ∧ ∀ d : Addr, H d = none → d ≠ a → Q .non (upd (upd (upd H d (exd d [("path", u)])) a (exo a C (some d))) d (exd d [("at", v), ("path", u)]))
/-- what is told of an error that comes out -/
structure Out (H H' : Hp) (d : Addr) (fs : List (Str × V)) : Prop where
  sm : Same H H'
  nw : H d = none
  xd : H' d = some (.xd fs)
theorem out_of {H H1 : Hp} {a d : Addr} {fs : List (Str × V)} (s : Same H H1) (ha : H a = none) (hd : H d = none) (hda : d ≠ a) : Out H (upd (del H1 a) d (.xd fs)) d fs :=
  ⟨fun b o e => by rw [upd_ne (ne_of_none e hd), del_ne (ne_of_none e ha)]; exact s b o e, hd, upd_same⟩
section
variable {P : Program} {w : World} {K : PySem.W.Frag} {mg : Str → Option Value} {base : Heap}
theorem scBF : FnScope ["self", "path", "at"] ["self", "path", "at"] (defScope iBF) := ⟨rfl, rfl, rfl, by decide +kernel, rfl, by decide +kernel, by decide +kernel⟩
theorem ok_iBF {f C : Addr} {fd : FuncData} (F : Fun K "__init__" "BadFile.__init__" iBF f fd) (T : ExC K C) (n1 : PySem.W.findIn K (.ref C) "at" = some none) (n2 : PySem.W.findIn K (.ref C) "path" = some none) : FnOk P w K mg base CX0 1 f fd ["self", "path", "at"] (spAt2 K C) := by
  refine F.ok scBF (fun vs H Q E h => ?_) (fun cdv A outer s H vs Q E hr h => ?_)
  · obtain ⟨a, u, v, rfl, _⟩ := h
    rfl
  · obtain ⟨a, u, v, rfl, ha, k⟩ := h
    exact ⟨_, pss_cons (ps_put (pv 0) (pv 1)) (pss_one (ps_put (pv 0) (pv 2))), _, rfl, _, rfl, a, C, rfl, T, n2, .inl ⟨ha, fun d hd nd =>
      ⟨_, rfl, _, rfl, a, C, rfl, T, n1, .inr ⟨d, _, upd_same, by rw [upd_ne nd, upd_same], (by show 1 ≤ 900; decide), k d hd nd⟩⟩⟩⟩
end
end Kl

namespace Kl
open PySem L2 Kd Kx
/-! the approvals of a tree read -/
abbrev Appr := Nat × Str × Int × List Str
def apprOf (r : Row) : Option Appr := (apprP r.2.2).map fun a => (r.2.1, a.1, a.2.1, a.2.2)
def apprD (a : Appr) : D := .tup [.int a.1, .str a.2.1, .int a.2.2.1, .tup (a.2.2.2.map D.str)]
/-- the first wrong one -/
def WrongAt (rows : List Row) (r : Row) : Prop := ∃ i : Nat, rows[i]? = some r ∧ apprP r.2.2 = none ∧ ∀ r' ∈ rows.take i, apprP r'.2.2 ≠ none
def spRead (C : Addr) : Sp := fun vs H Q E => ∃ (ft : Addr) (fs : Fs), vs = [.ref ft] ∧ Rep H (filesD fs) (.ref ft) ∧ (∀ q ∈ fs, q.2.length ≤ 1000) ∧ fs.length ≤ 60 ∧
  (∀ r, WrongAt (toldP "own/rules" fs) r → ∀ (d : Addr) (H' : Hp), Out H H' d [("at", .int (r.2.1 : Int)), ("path", .str r.1)] → E (.ref C) (some d) H') ∧
  ((∀ r ∈ toldP "own/rules" fs, apprP r.2.2 ≠ none) → ∀ (v : V) (H' : Hp), Same H H' → Rep H' (.tup (((toldP "own/rules" fs).filterMap apprOf).map apprD)) v → Q v H')
theorem strs_rep (H : Hp) : ∀ xs : List Str, Reps H (xs.map D.str) (xs.map V.str)
  | [] => rfl
  | x :: xs => ⟨_, _, rfl, rfl, strs_rep H xs⟩
theorem apprP_len {ps : List Str} {a : Str × Int × List Str} (h : apprP ps = some a) : a.2.2.length ≤ 6 := by
  unfold apprP at h
  split at h
  · rename_i c
    repeat' (split at h)
    all_goals first
      | cases h
        show (ps.drop 3).length ≤ 6
        rw [List.length_drop]
        omega
      | cases h
  · cases h
theorem rowsFrom_mem {path : Str} {m : Nat} {r : Row} : ∀ (ls : List Str) (k : Nat), (∀ l ∈ ls, l.length ≤ m) → r ∈ rowsFrom path ls k → 1 ≤ r.2.2.length ∧ ∀ x ∈ r.2.2, x.length ≤ m
  | [], _, _, h => by cases h
  | l :: ls, k, hl, h => by
    rcases List.mem_append.mp h with h | h
    · unfold rowOf at h
      split at h
      · cases h
      · obtain rfl := List.mem_singleton.mp h
        refine ⟨?_, fun x hx => Nat.le_trans (PyProof.Rows.part_short hx) (hl l (List.mem_cons_self ..))⟩
        exact List.length_pos_iff.mpr (split_ne l " ")
    · exact rowsFrom_mem ls (k + 1) (fun l' h' => hl l' (List.mem_cons_of_mem _ h')) h
theorem toldP_mem {start : Str} {m : Nat} {r : Row} : ∀ (fs : Fs), (∀ q ∈ fs, q.2.length ≤ m) → r ∈ toldP start fs → 1 ≤ r.2.2.length ∧ ∀ x ∈ r.2.2, x.length ≤ m
  | [], _, h => by cases h
  | q :: fs, hq, h => by
    rcases List.mem_append.mp h with h | h
    · split at h
      · exact rowsFrom_mem _ _ (fun l hl => Nat.le_trans (PyProof.Rows.part_short hl) (hq q (List.mem_cons_self ..))) h
      · cases h
    · exact toldP_mem fs (fun z hz => hq z (List.mem_cons_of_mem _ hz)) h
theorem Paired.all {α : Type} {R S : V → α → Prop} : ∀ {vs : List V} {rs : List α}, Paired R vs rs → (∀ v r, r ∈ rs → R v r → S v r) → Paired S vs rs
  | _, _, .nil, _ => .nil
  | _, _, .cons h t, k => .cons (k _ _ (List.mem_cons_self ..) h) (Paired.all t fun v r hr => k v r (List.mem_cons_of_mem _ hr))
theorem pair_at {α : Type} {R : V → α → Prop} : ∀ {vs : List V} {rs : List α} {i : Nat} {v : V} {r : α}, Paired R vs rs → vs[i]? = some v → rs[i]? = some r → R v r
  | _, _, i, _, _, .nil, h, _ => by simp at h
  | _, _, 0, v, r, .cons h t, hv, hr => by
    cases Option.some.inj hv
    cases Option.some.inj hr
    exact h
  | _, _, i + 1, v, r, .cons h t, hv, hr => pair_at t (i := i) hv hr
section
variable {P : Program} {w : World} {K : PySem.W.Frag} {mg : Str → Option Value} {base : Heap}
abbrev s_read_approvals : Stmt := topS 24
theorem sc_read_approvals : FnScope ["files", "found", "path", "number", "parts", "approval", "prefix", "count", "names"] ["files"] (defScope s_read_approvals) := ⟨rfl, rfl, rfl, by decide +kernel, rfl, by decide +kernel, by decide +kernel⟩
theorem ok_read {f C fI : Addr} {fd fdI : FuncData} (F : Fun K "read_approvals" "read_approvals" s_read_approvals f fd) (T : Glo mg) (e1 : Err K mg "BadFile" C fI) (g1 : FnOk P w K mg base CX0 1 fI fdI ["self", "path", "at"] (spAt2 K C)) (b1 : Binds K fdI ["self", "path", "at"] [])
    (c_told_lines : C8.Cal P w K mg base 1 "told_lines" (spTold K) []) (c_approval_of : C8.Cal P w K mg base 3 "approval_of" (spAppr K) []) : FnOk P w K mg base (L2N.CX P w) 4 f fd ["files"] (spRead C) := by
  refine okN F sc_read_approvals (fun vs H Q E h => ?_) (fun cdv A outer s H vs Q E hr h => ?_)
  · obtain ⟨ft, fs, rfl, _⟩ := h
    rfl
  · obtain ⟨ft, fs, rfl, hf, hc, hl, kx, kk⟩ := h
    have r2 : Room 2 _ := hr.mono (by decide)
    have tk := L2N.takes_of (X := cxOf (L2N.CX P w) P w K mg base ["files", "found", "path", "number", "parts", "approval", "prefix", "count", "names"] "read_approvals" (defScope s_read_approvals) f cdv A outer s H E) rfl rfl rfl rfl
    refine ⟨_, (pss_cons (ps_set (i := 1) sc_read_approvals.nd rfl (.inl rfl) (pe_lst pa_nil))
      (pss_cons (ps_for (L2.passes_of rfl) rfl (pi_list (C8.pe_c c_told_lines hr (by omega) (by rfl) (pa_cons (pv 0) (pa_cons pe_str pa_nil)))) (pg_tup rfl (pgs_cons (pg_name (i := 2) sc_read_approvals.nd rfl (.inl rfl)) (pgs_cons (pg_name (i := 3) sc_read_approvals.nd rfl (.inl rfl)) (pgs_cons (pg_name (i := 4) sc_read_approvals.nd rfl (.inl rfl)) pgs_nil))))
      (pss_cons (ps_set (i := 5) sc_read_approvals.nd rfl (.inl rfl) (C8.pe_c c_approval_of hr (by omega) (by rfl) (pa_cons (pv 4) pa_nil)))
        (pss_cons (ps_if (pt_cmp (pc_isN (pv 5)))
        (pss_one (L2N.ps_raise rfl tk (nmk_ex e1.ex e1.ini e1.tI g1 r2 b1 pass0 (by rfl) e1.mc (pa_cons (pv 2) (pa_cons (pv 3) pa_nil)))))
        pss_nil)
        (pss_cons (ps_asg (pv 5) (pg_tup rfl (pgs_cons (pg_name (i := 6) sc_read_approvals.nd rfl (.inl rfl)) (pgs_cons (pg_name (i := 7) sc_read_approvals.nd rfl (.inl rfl)) (pgs_cons (pg_name (i := 8) sc_read_approvals.nd rfl (.inl rfl)) pgs_nil)))))
        (pss_one (ps_expr (pe_bm PySem.F.plainAttrs_list PySem.F.slot_list_append PySem.F.type_list_append mt_append (pv 1) (pa_cons (pe_tup (pa_cons (pv 3) (pa_cons (pv 6) (pa_cons (pv 7) (pa_cons (pv 8) pa_nil))))) pa_nil))))))))
      (pss_one (ps_ret (pe_callTy call_tuple_of (by rfl) T.tuple PyProof.Rows.boot_tuple (pa_cons (pv 1) pa_nil)))))), ?_⟩
    refine st_seq (st_asg ?_)
    refine ⟨(by show 0 ≤ sizeLine; decide), fun D hD => st_g ?_⟩
    dsimp only
    have s1 : Same H (upd H D (.lst [])) := Same.new hD
    have d1 : upd H D (.lst []) D = some (.lst []) := upd_same
    generalize upd H D (.lst []) = H1 at s1 d1 ⊢
    refine st_seq ?_
    refine ⟨_, rfl, ft, "own/rules", fs, rfl, hf.keep (Tk.same s1), hc, hl, fun L H2 vs s2 hL e2 pr => ?_⟩
    have nD : D ≠ L := fun z => by
      rw [← z, d1] at hL
      cases hL
    have d2 := s2 _ _ d1
    have tm : ∀ r ∈ toldP "own/rules" fs, 1 ≤ r.2.2.length ∧ ∀ x ∈ r.2.2, x.length ≤ 1000 := fun r hr => toldP_mem fs hc hr
    have tl : (toldP "own/rules" fs).length ≤ 60 * 1002 := Nat.le_trans (toldP_len "own/rules" fs hc) (Nat.mul_le_mul_right _ hl)
    replace pr : Paired (RowV D H2) vs (toldP "own/rules" fs) := Paired.all pr fun v r hr ⟨t, pl, a1, a2, a3, _⟩ => ⟨t, pl, a1, a2, a3, fun z => by
      rw [z, d2] at a3
      have := (tm r hr).1
      rw [← List.map_nil (f := V.str)] at a3
      have e := congrArg List.length (HO.lst.inj (Option.some.inj a3))
      rw [List.length_map, List.length_map] at e
      rw [← e] at this
      exact absurd this (by decide)⟩
    have s02 : Same H H2 := fun b o z => s2 b o (s1 b o z)
    generalize toldP "own/rules" fs = rows at pr tm tl kx kk ⊢
    have vl := pr.length
    refine ⟨L, rfl, ⟨_, SqL.of e2⟩, for_list (K := K) (a := L) (xs := vs) (fun i σ H3 => ∃ (k2 k3 k4 k5 k6 k7 k8 : Option V) (acc : List V), σ = [some (.ref ft), some (.ref D), k2, k3, k4, k5, k6, k7, k8] ∧ Same H H3 ∧ H3 L = some (.lst vs) ∧ H3 D = some (.lst acc) ∧ Paired (RowV D H3) vs rows ∧ Reps H3 (((rows.take i).filterMap apprOf).map apprD) acc ∧ ∀ r ∈ rows.take i, apprP r.2.2 ≠ none)
      ⟨_, _, _, _, _, _, _, [], rfl, s02, e2, d2, pr, rfl, by simp⟩ (fun i σ H3 _ ⟨_, _, _, _, _, _, _, _, _, _, z, _⟩ => SqL.of z) ?_ ?_⟩
    · rintro i x σ H3 hx ⟨k2, k3, k4, k5, k6, k7, k8, acc, rfl, s3, e3, d3, pr3, rp3, all3⟩
      have hil : i < rows.length := by
        have := (List.getElem?_eq_some_iff.mp hx).1
        omega
      have hr' : rows[i]? = some rows[i] := List.getElem?_eq_getElem hil
      obtain ⟨t, pl, rfl, ht, hpl, npl⟩ := pair_at pr3 hx hr'
      have tr := tm _ (List.getElem_mem hil)
      generalize rows[i] = r at hr' ht hpl tr
      refine ⟨t, _, rfl, .inl (.inl ht), rfl, _, _, rfl, _, _, rfl, _, _, rfl, rfl, ?_⟩
      dsimp only
      refine st_seq (st_asg ?_)
      refine ⟨_, rfl, pl, r.2.2, rfl, hpl, tr.1, tr.2, fun v H4 s4 hv => st_g ?_⟩
      dsimp only
      have s04 : Same H H4 := fun b o z => s4 b o (s3 b o z)
      refine st_seq (st_if ?_)
      refine ⟨_, rfl, _, rfl, ?_⟩
      cases ea : apprP r.2.2 with
      | none =>
        rw [ea] at hv
        obtain rfl : v = .non := hv
        have free : ∀ {H1 : Hp} {a d : Addr} {o : HO}, (upd H1 a o) d = none → d ≠ a → H1 d = none := fun h n => by
          rw [upd_ne n] at h
          exact h
        refine iteT ?_
        refine ⟨_, rfl, _, rfl, (by show 2 ≤ 1000; decide), fun a ha => ⟨a, _, _, rfl, upd_same, fun d hd nd => ⟨rfl, d, _, by rw [upd_ne nd.symm]; exact upd_same, upd_same, free hd nd, kx r ⟨i, hr', ea, all3⟩ d _ (out_of (fun b o q => ?_) (s04.free ha) (s04.free (free hd nd)) nd)⟩⟩⟩
        have q4 := s04 _ _ q
        rw [upd_ne (ne_of_none q4 (free hd nd)), upd_ne (ne_of_none q4 ha), upd_ne (ne_of_none q4 (free hd nd)), upd_ne (ne_of_none q4 ha)]
        exact q4
      | some a =>
        rw [ea] at hv
        obtain ⟨t', nt, rfl, ht', hnt⟩ := hv
        refine iteF (st_next ?_)
        dsimp only
        refine st_seq (st_asg ?_)
        refine ⟨_, rfl, t', _, rfl, .inl (.inl ht'), rfl, _, _, rfl, _, _, rfl, _, _, rfl, rfl, ?_⟩
        dsimp only
        have e4 := s4 _ _ e3
        have d4 := s4 _ _ d3
        have pr4 := Paired.mono (fun v r h => RowV.same s4 h) pr3
        have rp4 := rp3.keep (Tk.same s4)
        have al := rp3.len
        have ll : acc.length ≤ 60 * 1002 := by
          rw [al, List.length_map]
          exact Nat.le_trans (List.length_filterMap_le ..) (Nat.le_trans (by rw [List.length_take]; omega) tl)
        refine ⟨_, rfl, .inl ⟨rfl, _, SqL.of d4⟩, _, rfl, _, rfl, _, rfl, _, rfl, (by show 4 ≤ sizeLine; decide), fun t5 ht5 => ?_⟩
        have s5 : Same H4 (upd H4 t5 (.tup [.int (r.2.1 : Int), .str a.1, .int a.2.1, .ref nt])) := Same.new ht5
        have t55 : upd H4 t5 (.tup [.int (r.2.1 : Int), .str a.1, .int a.2.1, .ref nt]) t5 = some (.tup [.int (r.2.1 : Int), .str a.1, .int a.2.1, .ref nt]) := upd_same
        generalize upd H4 t5 (.tup [.int (r.2.1 : Int), .str a.1, .int a.2.1, .ref nt]) = H5 at s5 t55 ⊢
        have d5 := s5 _ _ d4
        have rep5 : Rep H5 (apprD (r.2.1, a.1, a.2.1, a.2.2)) (.ref t5) := by
          refine ⟨t5, _, rfl, .inl t55, (by show 4 ≤ sizeLine; decide), _, _, rfl, rfl, _, _, rfl, rfl, _, _, rfl, rfl, _, _, rfl, ⟨nt, _, rfl, .inl (s5 _ _ hnt), ?_, strs_rep _ _⟩, rfl⟩
          rw [List.length_map]
          have := apprP_len ea
          rw [sizeLine_eq]
          omega
        refine ⟨D, _, _, rfl, rfl, d5, small_lt (by omega), _, _, _, _, _, _, _, _, rfl, Same.mut (fun b o z => s5 b o (s04 b o z)) hD, ?_, upd_same, Paired.mono (fun v r h => RowV.upd d5 (RowV.same s5 h)) pr4, ?_, ?_⟩
        · rw [upd_ne (Ne.symm nD)]
          exact s5 _ _ e4
        · have ef : ((rows.take (i + 1)).filterMap apprOf).map apprD = ((rows.take i).filterMap apprOf).map apprD ++ [apprD (r.2.1, a.1, a.2.1, a.2.2)] := by
            rw [List.take_add_one, hr', List.filterMap_append, List.map_append]
            have : apprOf r = some (r.2.1, a.1, a.2.1, a.2.2) := by
              unfold apprOf
              rw [ea]
              rfl
            simp [this]
          rw [ef]
          exact ((rp4.keep (Tk.same s5)).snoc rep5).keep (Tk.lst d5)
        · intro r2 h2
          rw [List.take_add_one, hr'] at h2
          rcases List.mem_append.mp h2 with h2 | h2
          · exact all3 r2 h2
          · obtain rfl : r2 = r := by simpa using h2
            rw [ea]
            exact fun z => nomatch z
    · rintro σ H3 ⟨k2, k3, k4, k5, k6, k7, k8, acc, rfl, s3, e3, d3, pr3, rp3, all3⟩
      rw [vl, List.take_length] at rp3 all3
      have al := rp3.len
      rw [List.length_map] at al
      have fl := List.length_filterMap_le apprOf rows
      refine ⟨_, rfl, D, _, rfl, .inl ⟨SqL.of d3, fun q hq => ?_⟩⟩
      refine kk all3 _ _ (fun b o z => by rw [upd_ne (ne_of_none (s3 b o z) hq)]; exact s3 b o z) ⟨q, acc, rfl, .inl upd_same, ?_, rp3.keep (Tk.new hq)⟩
      exact Nat.le_of_lt (small_lt (by omega))
end
end Kl

namespace Kl
open PySem L2 Kd
/-! a prefix and a path -/
def touchB (p x : Str) : Bool := decide (p = "all/") || (decide (x = p) || Txt.startswith x (p ++ "/"))
theorem starts_cut (x y : Str) : decide (cutS x none (some (y.length : Int)) = y) = Txt.startswith x y := by
  unfold Txt.startswith
  rw [PySem.StrLaws.subAt_eq]
  have e : cutS x none (some (y.length : Int)) = ⟨(x.cps.toList.take (min y.length x.length)).toArray⟩ := by
    unfold cutS
    rw [HT.sIx_nat, HT.sIx_none]
    rfl
  rw [e]
  rw [Bool.eq_iff_iff, decide_eq_true_eq, Bool.and_eq_true, decide_eq_true_eq, List.drop_zero]
  constructor
  · intro h
    have h2 : x.cps.toList.take (min y.length x.length) = y.cps.toList := congrArg (fun z : Str => z.cps.toList) h
    have hl := congrArg List.length h2
    rw [List.length_take] at hl
    have a1 : x.cps.toList.length = x.length := rfl
    have a2 : y.cps.toList.length = y.length := rfl
    have le : y.length ≤ x.length := by omega
    refine ⟨by omega, ?_⟩
    rw [Nat.min_eq_left le] at h2
    rw [h2]
    exact beq_self_eq_true _
  · rintro ⟨h1, h2⟩
    rw [Nat.min_eq_left (by omega : y.length ≤ x.length)]
    exact TL.ext_tl (eq_of_beq h2)
def spTouch (_ : PySem.W.Frag) : Sp := fun vs H Q _ => ∃ p x : Str, vs = [.str p, .str x] ∧ p.length ≤ 1000 ∧ x.length ≤ 1000 ∧ Q (.bl (touchB p x)) H
section
variable {P : Program} {w : World} {K : PySem.W.Frag} {mg : Str → Option Value} {base : Heap}
abbrev s_touches : Stmt := topS 37
theorem sc_touches : FnScope ["prefix", "path"] ["prefix", "path"] (defScope s_touches) := ⟨rfl, rfl, rfl, by decide +kernel, rfl, by decide +kernel, by decide +kernel⟩
theorem ok_touches {f : Addr} {fd : FuncData} (F : Fun K "touches" "touches" s_touches f fd) : FnOk P w K mg base CX0 1 f fd ["prefix", "path"] (spTouch K) := by
  refine F.ok sc_touches (fun vs H Q E h => ?_) (fun cdv A outer s H vs Q E hr h => ?_)
  · obtain ⟨p, x, rfl, _⟩ := h
    rfl
  · obtain ⟨p, x, rfl, hp, hx, k⟩ := h
    refine ⟨_, (pss_one (ps_ret (pe_or (pe_cmpR op_eq (pv 0) pe_str (nomark _)) (pe_or (pe_cmpR op_eq (pv 1) (pv 0) (nomark _)) (pe_one (pe_m1 PySem.F.slot_str_startswith PySem.F.type_str_startswith mt_startswith (pv 1) (pe_op op_add_str (pv 0) pe_str))))))), ?_⟩
    have len : (p ++ ("/" : Str)).length = p.length + 1 := Str.length_append ..
    unfold touchB at k
    refine ⟨_, rfl, rfl, _, rfl, ?_⟩
    by_cases c1 : p = "all/"
    · rw [decide_eq_true c1] at k
      rw [decide_eq_true (show V.str p = V.str "all/" by rw [c1])]
      exact iteT k
    · rw [decide_eq_false c1] at k
      rw [decide_eq_false (show V.str p ≠ V.str "all/" from fun e => c1 (V.str.inj e))]
      refine iteF ⟨_, rfl, _, rfl, rfl, _, rfl, ?_⟩
      by_cases c2 : x = p
      · rw [decide_eq_true c2] at k
        rw [decide_eq_true (show V.str x = V.str p by rw [c2])]
        exact iteT k
      · rw [decide_eq_false c2] at k
        rw [decide_eq_false (show V.str x ≠ V.str p from fun e => c2 (V.str.inj e))]
        refine iteF ?_
        exact ⟨_, rfl, ⟨_, rfl⟩, _, rfl, _, _, rfl, rfl, by rw [sizeLine_eq]; show p.length + 1 ≤ _; omega, _, _, rfl, rfl, k⟩
abbrev s_l_touches : Stmt := topS 72
theorem sc_l_touches : FnScope ["prefix", "path"] ["prefix", "path"] (defScope s_l_touches) := ⟨rfl, rfl, rfl, by decide +kernel, rfl, by decide +kernel, by decide +kernel⟩
theorem ok_l_touches {f : Addr} {fd : FuncData} (F : Fun K "_law_touches" "_law_touches" s_l_touches f fd) (T : Glo mg) : FnOk P w K mg base CX0 1 f fd ["prefix", "path"] (spTouch K) := by
  refine F.ok sc_l_touches (fun vs H Q E h => ?_) (fun cdv A outer s H vs Q E hr h => ?_)
  · obtain ⟨p, x, rfl, _⟩ := h
    rfl
  · obtain ⟨p, x, rfl, hp, hx, k⟩ := h
    refine ⟨_, (pss_one (ps_ret (pe_or (pe_cmpR op_eq (pv 0) pe_str (nomark _)) (pe_or (pe_cmpR op_eq (pv 1) (pv 0) (nomark _)) (pe_one (pe_cmpR op_eq (pe_slice sl_str (pv 1) po_none (po_some (pe_op op_add (pe_callB call_len_str (by rfl) T.len PySem.boot_len (pa_cons (pv 0) pa_nil)) pe_int))) (pe_op op_add_str (pv 0) pe_str) (nomark _))))))), ?_⟩
    have len : (p ++ ("/" : Str)).length = p.length + 1 := Str.length_append ..
    unfold touchB at k
    refine ⟨_, rfl, rfl, _, rfl, ?_⟩
    by_cases c1 : p = "all/"
    · rw [decide_eq_true c1] at k
      rw [decide_eq_true (show V.str p = V.str "all/" by rw [c1])]
      exact iteT k
    · rw [decide_eq_false c1] at k
      rw [decide_eq_false (show V.str p ≠ V.str "all/" from fun e => c1 (V.str.inj e))]
      refine iteF ⟨_, rfl, _, rfl, rfl, _, rfl, ?_⟩
      by_cases c2 : x = p
      · rw [decide_eq_true c2] at k
        rw [decide_eq_true (show V.str x = V.str p by rw [c2])]
        exact iteT k
      · rw [decide_eq_false c2] at k
        rw [decide_eq_false (show V.str x ≠ V.str p from fun e => c2 (V.str.inj e))]
        refine iteF ?_
        refine ⟨_, rfl, _, rfl, _, rfl, small_of (by omega), _, _, rfl, rfl, _, rfl, _, rfl, by rw [sizeLine_eq]; omega, _, rfl, _, _, rfl, rfl, by rw [sizeLine_eq]; show p.length + 1 ≤ _; omega, rfl, ?_⟩
        have e : decide (V.str (cutS x none (some ((p.length : Int) + 1))) = V.str (p ++ "/")) = Txt.startswith x (p ++ "/") := by
          rw [← starts_cut, len]
          rw [Bool.eq_iff_iff, decide_eq_true_eq, decide_eq_true_eq]
          exact ⟨fun h => V.str.inj h, fun h => by rw [← h]; rfl⟩
        rw [e]
        exact k
end
end Kl

namespace Kl
open PySem L2 Kd
/-! ascending, a list or a tuple -/
theorem walk_zipT {K : PySem.W.Frag} {a b : Addr} {xs ys : List V} {n : Nat} (hn : n = min xs.length ys.length) : Walk (RZ.ItzT K a b) n (fun H => SqT K H a xs ∧ SqT K H b ys) (YPair (fun i => xs[i]?) (fun i => ys[i]?)) := by
  subst hn
  refine ⟨fun i _ hi q => ?_, fun _ q => ⟨xs, ys, q.1, q.2, by omega⟩, fun i H v H' _ q y => ?_⟩
  · have h1 : i < xs.length := by omega
    have h2 : i < ys.length := by omega
    exact ⟨xs, ys, xs[i], ys[i], q.1, q.2, by simp [h1], by simp [h2]⟩
  · obtain ⟨T, x, z, h1, h2, h3, h4, h5⟩ := y
    exact ⟨T, x, z, h1, h2, h3, h4 xs q.1, h5 ys q.2⟩
theorem asc_pair {ks : List Str} {i : Nat} {x y : V} (asc : Asc ks) (hx : (ks.map V.str)[i]? = some x) (hy : ((ks.drop 1).map V.str)[i]? = some y) : ∃ k1 k2 : Str, x = .str k1 ∧ y = .str k2 ∧ k1.cps.toList < k2.cps.toList := by
  rw [List.getElem?_map] at hx hy
  obtain ⟨k1, hk1, rfl⟩ := Option.map_eq_some_iff.mp hx
  obtain ⟨k2, hk2, rfl⟩ := Option.map_eq_some_iff.mp hy
  rw [List.getElem?_drop] at hk2
  refine ⟨k1, k2, rfl, rfl, ?_⟩
  obtain ⟨i1, e1⟩ := List.getElem?_eq_some_iff.mp hk1
  obtain ⟨i2, e2⟩ := List.getElem?_eq_some_iff.mp hk2
  have := (List.pairwise_iff_getElem.mp asc) i (1 + i) i1 i2 (by omega)
  rw [e1, e2] at this
  exact this
def spAscG (_ : PySem.W.Frag) : Sp := fun vs H Q _ => ∃ (p : Addr) (ks : List Str), vs = [.ref p] ∧ SeqAt H p (ks.map V.str) ∧ Asc ks ∧ ks.length ≤ 1000 ∧ ∀ H' : Hp, Same H H' → Q (.bl true) H'
section
variable {P : Program} {w : World} {K : PySem.W.Frag} {mg : Str → Option Value} {base : Heap}
theorem ok_ascG {f : Addr} {fd : FuncData} (F : Fun K "is_ascending" "is_ascending" s_is_ascending f fd) (T : Glo mg) : FnOk P w K mg base CX0 1 f fd ["keys"] (spAscG K) := by
  refine F.ok sc_is_ascending (fun vs H Q E h => ?_) (fun cdv A outer s H vs Q E hr h => ?_)
  · obtain ⟨p, ks, rfl, _⟩ := h
    rfl
  · obtain ⟨p, ks, rfl, hp, asc, hl, k⟩ := h
    refine ⟨_, (pss_one (ps_ret (pe_callB (cr_all rfl) (by rfl) T.all (by decide +kernel) (pa_cons (pe_lc (own := [("key", 1), ("later", 2)]) (g := gTup K 2 (gCons (gName 1) (gCons (gName 2) gNil))) (tt := tYes) rfl sc_is_ascending.nd (RZ.pi_zipA (by rfl) T.zip (pa_cons (pv 0) (pa_cons (pe_slice (sl_list.or sl_tupA) (pv 0) (po_some pe_int) po_none) pa_nil))) (blkOk_by (N := ["keys", "key", "later"]) (sc := defScope s_is_ascending) (by decide +kernel)) (fun _ _ _ _ _ => (pg_tup rfl (pgs_cons (pg_name (i := 1) sc_is_ascending.nd rfl (.inl rfl)) (pgs_cons (pg_name (i := 2) sc_is_ascending.nd rfl (.inl rfl)) pgs_nil)))) (fun _ _ _ _ _ => pts_nil) (fun _ _ _ _ _ => (pe_cmpR op_lt_str (pv 1) (pv 2) (nomark _)))) pa_nil)))), ?_⟩
    have cd : cutV (ks.map V.str) (some (1 : Int)) none = (ks.drop 1).map V.str := cut_drop ks 1
    rcases hp with hp | hp
    · refine ⟨_, rfl, _, rfl, _, rfl, .inr ⟨p, _, rfl, .inl hp, fun hw => ?_, fun _ q hq => ?_⟩⟩
      · have e : ks.length = 0 := by
          have h1 := hw.1
          rw [show (1 : Int) = ((1 : Nat) : Int) from rfl, HT.sIx_nat, List.length_map] at h1
          omega
        obtain rfl := List.length_eq_zero_iff.mp e
        have s1 : Same H H := Same.refl _
        obtain ⟨H1, eH⟩ : ∃ H1, H1 = H := ⟨H, rfl⟩
        refine ⟨p, p, _, _, rfl, .inr ⟨.inl hp, .inl hp, fun D hD => lc_it (walk_zipT (xs := []) (ys := []) (n := 0) rfl) (fun i H2 => i = 0 ∧ Same H H2 ∧ H2 D = some (.lst [])) ⟨rfl, Same.new hD, upd_same⟩ (fun i H2 _ z => ⟨.inl (Rd.same z.2.1 hp), .inl (Rd.same z.2.1 hp)⟩) ?_ ?_⟩⟩
        · rintro i v H2 H3 hi
          exact absurd hi (Nat.not_lt_zero _)
        · rintro H2 ⟨_, s2, e2⟩
          refine ⟨D, [], rfl, SqL.of e2, ?_⟩
          exact k H2 s2
      rw [cd]
      have s1 : Same H (upd H q (.tup ((ks.drop 1).map V.str))) := Same.new hq
      have q1 : upd H q (.tup ((ks.drop 1).map V.str)) q = some (.tup ((ks.drop 1).map V.str)) := upd_same
      replace hp := Rd.same s1 hp
      generalize upd H q (.tup ((ks.drop 1).map V.str)) = H1 at s1 q1 hp ⊢
      refine ⟨p, q, _, _, rfl, .inr ⟨.inl hp, SqT.of q1, fun D hD => lc_it (walk_zipT (xs := ks.map V.str) (ys := (ks.drop 1).map V.str) (n := ks.length - 1) (by rw [List.length_map, List.length_map, List.length_drop]; omega)) (fun i H2 => Same H1 H2 ∧ H2 D = some (.lst ((List.replicate i true).map V.bl))) ⟨Same.new hD, upd_same⟩ (fun i H2 _ z => ⟨.inl (Rd.same z.1 hp), SqT.of (z.1 _ _ q1)⟩) ?_ ?_⟩⟩
      · rintro i v H2 H3 hi ⟨s2, e2⟩ ⟨t, x, y, rfl, ht, rfl, hx, hy⟩
        replace hx : (ks.map V.str)[i]? = some x := hx
        replace hy : ((ks.drop 1).map V.str)[i]? = some y := hy
        obtain ⟨k1, k2, rfl, rfl, lt⟩ := asc_pair asc hx hy
        have tD : D ≠ t := fun z => by
          rw [← z, e2] at ht
          cases ht
        have s3 : Same H1 (upd H2 t (.tup [.str k1, .str k2])) := fun b o e => by
          rw [upd_ne (ne_of_none (s2 b o e) ht)]
          exact s2 b o e
        refine ⟨t, _, rfl, SqT.of upd_same, rfl, _, _, rfl, _, _, rfl, rfl, rfl, _, rfl, _, rfl, _, _, rfl, rfl, ?_⟩
        rw [decide_eq_true lt]
        refine ⟨_, by rw [upd_ne tD]; exact e2, ?_, Same.mut s3 hD, ?_⟩
        · rw [List.length_map, List.length_replicate]
          exact small_lt (by omega)
        · rw [upd_same, List.replicate_succ', List.map_append]
          rfl
      · rintro H2 ⟨s2, e2⟩
        refine ⟨D, _, rfl, SqL.of e2, ?_⟩
        have : (List.replicate (ks.length - 1) true).all id = true := List.all_eq_true.mpr fun b hb => (List.mem_replicate.mp hb).2
        rw [this]
        exact k H2 fun b o e => s2 b o (s1 b o e)
    · refine ⟨_, rfl, _, rfl, _, rfl, .inl ⟨p, _, rfl, SqL.of hp, fun q hq => ?_⟩⟩
      rw [cd]
      have s1 : Same H (upd H q (.lst ((ks.drop 1).map V.str))) := Same.new hq
      have q1 : upd H q (.lst ((ks.drop 1).map V.str)) q = some (.lst ((ks.drop 1).map V.str)) := upd_same
      have p1 := s1 _ _ hp
      generalize upd H q (.lst ((ks.drop 1).map V.str)) = H1 at s1 q1 p1 ⊢
      refine ⟨p, q, _, _, rfl, .inl ⟨SqL.of p1, SqL.of q1, fun D hD => lc_it (walk_zip (xs := ks.map V.str) (ys := (ks.drop 1).map V.str) (n := ks.length - 1) (by rw [List.length_map, List.length_map, List.length_drop]; omega)) (fun i H2 => Same H1 H2 ∧ H2 D = some (.lst ((List.replicate i true).map V.bl))) ⟨Same.new hD, upd_same⟩ (fun i H2 _ z => ⟨SqL.of (z.1 _ _ p1), SqL.of (z.1 _ _ q1)⟩) ?_ ?_⟩⟩
      · rintro i v H2 H3 hi ⟨s2, e2⟩ ⟨t, x, y, rfl, ht, rfl, hx, hy⟩
        replace hx : (ks.map V.str)[i]? = some x := hx
        replace hy : ((ks.drop 1).map V.str)[i]? = some y := hy
        obtain ⟨k1, k2, rfl, rfl, lt⟩ := asc_pair asc hx hy
        have tD : D ≠ t := fun z => by
          rw [← z, e2] at ht
          cases ht
        have s3 : Same H1 (upd H2 t (.tup [.str k1, .str k2])) := fun b o e => by
          rw [upd_ne (ne_of_none (s2 b o e) ht)]
          exact s2 b o e
        refine ⟨t, _, rfl, SqT.of upd_same, rfl, _, _, rfl, _, _, rfl, rfl, rfl, _, rfl, _, rfl, _, _, rfl, rfl, ?_⟩
        rw [decide_eq_true lt]
        refine ⟨_, by rw [upd_ne tD]; exact e2, ?_, Same.mut s3 hD, ?_⟩
        · rw [List.length_map, List.length_replicate]
          exact small_lt (by omega)
        · rw [upd_same, List.replicate_succ', List.map_append]
          rfl
      · rintro H2 ⟨s2, e2⟩
        refine ⟨D, _, rfl, SqL.of e2, ?_⟩
        have : (List.replicate (ks.length - 1) true).all id = true := List.all_eq_true.mpr fun b hb => (List.mem_replicate.mp hb).2
        rw [this]
        exact k H2 fun b o e => s2 b o (s1 b o e)
end
end Kl

namespace Kl
open PySem L2 Kd
theorem te_orv {ta tb : TE} {σ : L2.St} {H : Hp} {Q : VK} (h : ta σ H fun x H1 => ∃ c, x = .bl c ∧ if c = true then Q (.bl true) H1 else tb σ H1 Q) : tOrV ta tb σ H Q := h
theorem te_andv {ta tb : TE} {σ : L2.St} {H : Hp} {Q : VK} (h : ta σ H fun x H1 => ∃ c, x = .bl c ∧ if c = true then tb σ H1 Q else Q (.bl false) H1) : tAndV ta tb σ H Q := h
end Kl

namespace Kl
open PySem L2 Kd
/-! the names given -/
structure GivOk (ns : List Str) : Prop where
  word : ∀ n ∈ ns, wordB n = true
  asc : Asc ns
  few : ns.length ≤ 8
theorem wordB_len {x : Str} (h : wordB x = true) : x.length ≤ 12 := by
  rw [wordB_L] at h
  unfold wordL at h
  simp only [Bool.and_eq_true, decide_eq_true_eq] at h
  exact h.2.1
def spGiven (_ : PySem.W.Frag) : Sp := fun vs H Q _ => ∃ (a : Addr) (ns : List Str), vs = [.ref a] ∧ SeqAt H a (ns.map V.str) ∧ GivOk ns ∧ ∀ H' : Hp, Same H H' → Q (.bl true) H'
section
variable {P : Program} {w : World} {K : PySem.W.Frag} {mg : Str → Option Value} {base : Heap}
abbrev s_is_given : Stmt := topS 38
theorem sc_is_given : FnScope ["value", "name"] ["value"] (defScope s_is_given) := ⟨rfl, rfl, rfl, by decide +kernel, rfl, by decide +kernel, by decide +kernel⟩
theorem ok_given {f : Addr} {fd : FuncData} (F : Fun K "is_given" "is_given" s_is_given f fd) (T : Glo mg) {t8 : Tok} (m_MOST_GIVEN : mg "MOST_GIVEN" = some (.int 8 t8)) (c_is_sequence : C8.Cal P w K mg base 1 "is_sequence" (spSeq K) []) (c_is_word : C8.Cal P w K mg base 1 "is_word" (spWordG K) []) (c_is_ascending : C8.Cal P w K mg base 1 "is_ascending" (spAscG K) []) : FnOk P w K mg base CX0 2 f fd ["value"] (spGiven K) := by
  refine F.ok sc_is_given (fun vs H Q E h => ?_) (fun cdv A outer s H vs Q E hr h => ?_)
  · obtain ⟨a, ns, rfl, _⟩ := h
    rfl
  · obtain ⟨a, ns, rfl, ha, ok, k⟩ := h
    refine ⟨_, (C8.pss_cut (ps_if (PW.pt (pw_or (pt_not (pt_val (C8.pe_c c_is_sequence hr (by omega) (by rfl) (pa_cons (pv 0) pa_nil)))) (pw_or1 (pt_cmpR op_gt (pe_callB call_len_seq (by rfl) T.len PySem.boot_len (pa_cons (pv 0) pa_nil)) (pe_glob (v := .int 8) (by rfl) m_MOST_GIVEN ⟨_, rfl⟩) (nomark _)))))
      (pss_one ps_never)
      pss_nil)
      (pss_one (ps_ret (pe_and (pe_callB (cr_all rfl) (by rfl) T.all (by decide +kernel) (pa_cons (pe_lc (own := [("name", 1)]) (g := gName 1) (tt := tYes) rfl sc_is_given.nd (pi_seq (pv 0)) (blkOk_by (N := ["value", "name"]) (sc := defScope s_is_given) (by decide +kernel)) (fun _ _ _ _ _ => (pg_name (i := 1) sc_is_given.nd rfl (.inl rfl))) (fun _ _ _ _ _ => pts_nil) (fun _ _ _ _ _ => (C8.pe_c c_is_word hr (by omega) (by rfl) (pa_cons (pv 1) pa_nil)))) pa_nil)) (pe_one (C8.pe_c c_is_ascending hr (by omega) (by rfl) (pa_cons (pv 0) pa_nil))))))), ?_⟩
    have few := ok.few
    refine ⟨fun σ' H' => σ' = [some (.ref a), none] ∧ Same H H', ?_, ?_⟩
    · refine ⟨_, rfl, a, _, rfl, ha, fun H1 s1 => ⟨_, rfl, iteF ?_⟩⟩
      refine ⟨_, rfl, a, _, rfl, SeqAt.sq (SeqAt.same s1 ha), _, _, rfl, rfl, _, rfl, ite2 (fun z => ?_) (fun _ => ⟨rfl, s1⟩)⟩
      have := of_decide_eq_true z
      rw [List.length_map] at this
      omega
    rintro σ' H' ⟨rfl, s1⟩
    refine st_ret (te_andv (te_cb (ta_cons (te_lc ?_))))
    refine seq_walk (SeqAt.same s1 ha) (fun Q q => ⟨_, rfl, q⟩) fun J G w hG D hD => ?_
    refine lc_it w (fun i H2 => Same H' H2 ∧ H2 D = some (.lst ((List.replicate i true).map V.bl))) ⟨Same.new hD, upd_same⟩ (fun i H2 _ q => hG H2 q.1) ?_ ?_
    · rintro i y Hx H2 hi ⟨s2, e2⟩ ⟨rfl, hy⟩
      rw [List.getElem?_map] at hy
      obtain ⟨n, hn, rfl⟩ := Option.map_eq_some_iff.mp hy
      have hm := List.mem_of_getElem? hn
      have wn := ok.word n hm
      refine ⟨rfl, _, rfl, n, rfl, by have := wordB_len wn; omega, ?_⟩
      rw [wn]
      refine ⟨_, e2, ?_, Same.mut s2 hD, ?_⟩
      · rw [List.length_map, List.length_replicate]
        rw [List.length_map] at hi
        exact small_lt (by omega)
      · rw [upd_same, List.replicate_succ', List.map_append]
        rfl
    · rintro H2 ⟨s2, e2⟩
      have : (List.replicate (ns.map V.str).length true).all id = true := List.all_eq_true.mpr fun b hb => (List.mem_replicate.mp hb).2
      refine ta_nil ⟨D, _, rfl, SqL.of e2, ?_⟩
      rw [this]
      refine ⟨_, rfl, iteT ?_⟩
      have s12 : Same H H2 := fun b o e => s2 b o (s1 b o e)
      exact ⟨_, rfl, a, ns, rfl, SeqAt.same s12 ha, ok.asc, by omega, fun H3 s3 => k H3 fun b o e => s3 b o (s12 b o e)⟩
end
end Kl

namespace Kl
open PySem PySem.Spec PyProof.Rows L2
/-! enumerate(t), t a tuple -/
set_option maxHeartbeats 1000000 in
theorem meets_enum1 {v : Value} {o : Obj} {H : Heap → Prop} (B : Begins v o H) :
    Meets (Builtin.«enumerate.__new__» ⟨[.type "enumerate", v], []⟩) (fun _ R s => H s.heap ∧
      R (.ok (.ret (.ref (s.heap.push o).objs.size))) { s with heap := (s.heap.push o).push { cls := .type "enumerate", data := .fields #[.none, .bool false, .ref s.heap.objs.size, rawInt 0, .none, .none] } }) :=
  .of_wp fun prog w A R s h => by
    obtain ⟨hp, g, d, tk, os⟩ := s
    obtain ⟨h1, h⟩ := h
    have hsub := sub_enumerate
    have q1 : ∀ {A' : Around} {E : Value → Shared → Prop} {Q : Value → Shared → Prop}, Q (.ref hp.objs.size) ⟨hp.push o, g, d, tk, os⟩ → wpAny (model prog w) A' (pyIter v) Q E ⟨hp, g, d, tk, os⟩ :=
      fun q => B.iter prog w _ _ ⟨hp, g, d, tk, os⟩ _ h1 q
    wp_walk using q1
    refine wpAny_stack_any fun st => wpAny_pure ?_
    split
    · rename_i c _ _ _ _ _
      cases (c == Value.type "enumerate")
      · wp_walk using q1
        exact ⟨_, rfl, h⟩
      · wp_walk using q1
        exact ⟨_, rfl, h⟩
    · wp_walk using q1
      exact ⟨_, rfl, h⟩
theorem call_enum1 {prog : Program} {w : World} {A : Around} {E : Value → Shared → Prop} {s : Shared} {v : Value} {o : Obj} {H : Heap → Prop} {Q : Value → Shared → Prop} (B : Begins v o H) (h1 : H s.heap)
    (h : ∀ h', IsEnum h' (s.heap.objs.size + 1) s.heap.objs.size 0 .none → h'.get? s.heap.objs.size = some o → (∀ b o, s.heap.get? b = some o → h'.get? b = some o) → Q (.ref (s.heap.objs.size + 1)) { s with heap := h' }) :
    wpAny (model prog w) A (call (.type "enumerate") [v]) Q E s := by
  refine callType_new F.called_enumerate (by decide) (F.typeCall_enumerate_1 _) (F.newCall_enumerate_1 _) (fun obj => F.args_object_init_2 obj _) F.entry_enumerate_new (meets_enum1 B) ⟨h1, ?_⟩
  have hz : (s.heap.push o).objs.size = s.heap.objs.size + 1 := Heap.size_push ..
  show _ ∧ _
  rw [hz]
  have he := Heap.get?_push_size (s.heap.push o) (o := { cls := .type "enumerate", data := .fields #[.none, .bool false, .ref s.heap.objs.size, rawInt 0, .none, .none] }) rfl
  rw [hz] at he
  exact ⟨⟨_, he, rfl⟩, h _ he (Heap.get?_push_of_some _ (Heap.get?_push_size _ B.free)) fun b o x => Heap.get?_push_of_some _ (Heap.get?_push_of_some _ x)⟩
/-- the tuple at a, each item in a new pair -/
def IteT (K : PySem.W.Frag) (a : Addr) : It :=
  ⟨fun i H => ∃ (xs : List V) (x : V), SqT K H a xs ∧ xs[i]? = some x, fun i H v H' => ∃ T x, v = .ref T ∧ H T = none ∧ H' = upd H T (.tup [.int (i : Nat), x]) ∧ ∀ xs, SqT K H a xs → xs[i]? = some x, fun i H => ∃ xs : List V, SqT K H a xs ∧ xs.length = i⟩
theorem apart_tup {h : Heap} {a it : Addr} {i : Nat} {its : Array Value} (p : h.IsTuple a its) (q : h.IsTupleIter it a i) : a ≠ it := fun z => by
  obtain ⟨o, h1, c1, _⟩ := p
  obtain ⟨o2, h2, c2, _⟩ := q
  rw [z, h2] at h1
  obtain rfl := Option.some.inj h1
  rw [c1] at c2
  exact absurd c2 (by decide)
theorem apart_enum {h : Heap} {a e it : Addr} {i : Int} {old : Value} {its : Array Value} (p : h.IsTuple a its) (q : IsEnum h e it i old) : e ≠ a := fun z => by
  obtain ⟨o, h1, c1, _⟩ := p
  unfold IsEnum at q
  rw [z, h1] at q
  have e1 := congrArg Obj.cls (Option.some.inj q)
  rw [c1] at e1
  exact absurd (show Value.type "tuple" = Value.type "enumerate" from e1) (by decide)
theorem turn_enumT {P : Program} {w : World} {K : PySem.W.Frag} {elts : List Expr} {kk : Nat} {tpos : Pos} (a e it : Addr) :
    Turn P w K (.Tuple elts kk tpos) (IteT K a) [e, it] e (fun i h => (∃ old, IsEnum h e it ((i : Nat) : Int) old) ∧ h.IsTupleIter it a i ∧ e ≠ it) where
  mem := by simp
  obj := fun i h st b hb => by
    obtain ⟨⟨old, he⟩, ⟨o, ho, hc, hd⟩, _⟩ := st
    rcases List.mem_cons.mp hb with z | hb
    · rw [z]
      exact ⟨_, he, fun v q => nomatch q⟩
    · rw [List.mem_singleton.mp hb]
      exact ⟨o, ho, fun v q => by rw [hd] at q; cases q⟩
  keep := fun i h h' st k => let ⟨⟨old, he⟩, hi, hne⟩ := st; ⟨⟨old, k e (by simp) _ he⟩, hi.at fun o q => k it (by simp) o q, hne⟩
  item := by
    intro X hP hw hK hc i pins s σ H E I hf st hg
    subst hP hw hK
    obtain ⟨⟨old, he⟩, hit, hne⟩ := st
    obtain ⟨xs, x, hq, hx⟩ := hg
    obtain ⟨its, rv, p, hz⟩ := I.tuple hq
    obtain ⟨u, hu, ru⟩ := rv.get hx
    have hel : e < s.heap.objs.size := Heap.lt_size he
    have hil : it < s.heap.objs.size := by
      obtain ⟨_, q, _⟩ := hit
      exact Heap.lt_size q
    have D := Draws.tuple (prog := X.prog) (w := X.w) (A := X.A.in1) (by simp [I.ok.hd hc]) it a (apart_tup p hit) its.toArray
    have lt : i < its.toArray.size := by
      rw [List.size_toArray]
      exact (List.getElem?_eq_some_iff.mp hu).1
    refine wpAny_pyNext_enum_itemD D he ⟨hit, p⟩ lt hne (fun z => ?_) fun x' h' tk hP ho st' hT hsz hk => ?_
    · rcases List.mem_cons.mp z with z | z
      · exact hne z
      · exact apart_enum p he (List.mem_singleton.mp z)
    obtain rfl : u = x' := by
      have hP : its.toArray[i]? = some x' := hP
      rw [List.getElem?_toArray, hu] at hP
      exact Option.some.inj hP
    refine ⟨_, rfl, wpAny_letOwnedTupleGo_enum (s := { s with heap := h', toks := tk + 1 }) ho fun h'' he' sb => ?_⟩
    have hT2 : h''.get? s.heap.objs.size = some { cls := .type "tuple", data := .seq #[.int i tk, u] } := (sb.2 _ (Nat.ne_of_gt hel)).trans hT
    have new : ObjOk X.prog X.w (upd H s.heap.objs.size (.tup [.int (i : Nat), x])) h'' s.heap.objs.size (.tup [.int (i : Nat), x]) :=
      ⟨by show 2 ≤ sizeLine; decide, [.int i tk, u], .cons ⟨_, rfl⟩ (.cons ru .nil), ⟨_, hT2, rfl, _, rfl⟩⟩
    have I1 : Inv X pins σ (upd H s.heap.objs.size (.tup [.int (i : Nat), x])) { s with heap := h'', toks := tk + 1 } :=
      I.turnedNew (ch := [e, it]) (fun b ob hb q => (sb.2 b (fun z => hb (by simp [z]))).trans (hk b ob (fun z => hb (by simp [z])) (fun z => hb (by simp [z])) q)) hf (Nat.le_refl _) new
    refine ⟨.ref s.heap.objs.size, _, I1, rfl, ⟨_, x, rfl, I.hok.fresh (Nat.le_refl _), rfl, fun ys hy => ?_⟩, ⟨⟨u, ?_⟩, st'.1.at fun o q => (sb.2 it (Ne.symm hne)).trans q, hne⟩, fun b hb => ?_⟩
    · rw [I.tuple_inj hy hq]
      exact hx
    · have e1 : ((i + 1 : Nat) : Int) = (i : Int) + 1 := by omega
      rw [e1]
      exact he'
    · have hb' : b < s.heap.objs.size := by
        rcases List.mem_cons.mp hb with z | z
        · rw [z]
          exact hel
        · rw [List.mem_singleton.mp z]
          exact hil
      rw [upd_ne (Nat.ne_of_lt hb')]
      exact (hf b hb).1
  done := by
    intro X hP hw hK hc i pins s σ H E I hf st hg
    subst hP hw hK
    obtain ⟨⟨old, he⟩, hit, hne⟩ := st
    obtain ⟨xs, hq, hx⟩ := hg
    obtain ⟨its, rv, p, hz⟩ := I.tuple hq
    obtain ⟨f0, f1, f2, f3, f4, f5⟩ := hf it (by simp)
    have hl := rv.length
    have D := Draws.tuple (prog := X.prog) (w := X.w) (A := X.A.in1) (by simp [I.ok.hd hc]) it a (apart_tup p hit) its.toArray
    have hi : its.toArray.size = i := by
      rw [List.size_toArray]
      omega
    refine wpAny_pyNext_enum_endD D he ?_ fun h' eb => ⟨rfl, I.turned (t' := s.toks) (fun b o hb q => eb b o hb q) f0 f1 f3 f4 f5⟩
    rw [hi]
    exact ⟨hit, p⟩
  self := fun A i s Q E st h => let ⟨⟨_, he⟩, _⟩ := st; wpAny_pyIter_enum he h
def iEnumT (K : PySem.W.Frag) (ta : TA) : TI := fun σ H R => ta σ H fun vs H1 => ∃ a xs, vs = [.ref a] ∧ SqT K H1 a xs ∧ R (IteT K a) H1
theorem pi_enumT {X : Cx} {e : Expr} {ta : TA} {p pos tpos : Pos} {elts : List Expr} {kk : Nat} (hg : Gl X "enumerate") (hm : X.mg "enumerate" = none) (ha : PA X [e] ta) (hs : starEach [e] X.env = [(false, eval e X.env)] := by rfl) :
    PI X (.Tuple elts kk tpos) (.Call (.Name "enumerate" p) [e] [] pos) (iEnumT X.K ta) := by
  refine ⟨fun pins s σ H R I h => ?_⟩
  refine Call_ (ld_blt I hg hm boot_enumerate (callWith_type1 (thn (ha.run pos pins s σ H _ I h) fun us s1 ⟨vs, H1, I1, r1, q1⟩ => ?_) hs rfl))
  obtain ⟨a, xs, rfl, hq, q⟩ := q1
  match r1 with
  | .cons r .nil =>
    cases r
    obtain ⟨its, rv, p', hz⟩ := I1.tuple hq
    refine call_enum1 (begins_tuple a its.toArray) p' fun h' he ho hk => wpAny_pyIter_enum he ?_
    have I2 : Inv X pins σ H1 { s1 with heap := h' } := I1.kept (t' := s1.toks) hk
    refine ⟨s1.heap.objs.size + 1, [s1.heap.objs.size + 1, s1.heap.objs.size], _, _, H1, rfl, I2, turn_enumT a (s1.heap.objs.size + 1) s1.heap.objs.size, ⟨⟨.none, he⟩, ⟨_, ho, rfl, rfl⟩, Nat.succ_ne_self _⟩, fun b hb => ?_, q⟩
    have hle : s1.heap.objs.size ≤ b := by
      rcases List.mem_cons.mp hb with z | z
      · rw [z]
        exact Nat.le_add_right _ _
      · rw [List.mem_singleton.mp z]
        exact Nat.le_refl _
    exact I1.fpOk hle (I1.hok.fresh hle)
theorem walk_enumT {K : PySem.W.Frag} {a : Addr} {xs : List V} : Walk (IteT K a) xs.length (fun H => SqT K H a xs) (YPair (fun i => some (.int (i : Nat))) (fun i => xs[i]?)) := by
  refine ⟨fun i _ hi q => ⟨xs, xs[i], q, by simp [hi]⟩, fun _ q => ⟨xs, q, rfl⟩, fun i H v H' _ q y => ?_⟩
  obtain ⟨T, x, h1, h2, h3, h4⟩ := y
  exact ⟨T, .int (i : Nat), x, h1, h2, h3, rfl, h4 xs q⟩
end Kl

namespace Kl
open PySem L2 Kd
/-! the approvals asked and given -/
def sdD (p : Nat × Nat) : D := .tup [.int p.1, .int p.2]
def touchedB (ps : List Str) (a : Appr) : Bool := ps.any (touchB a.2.1)
def givenBy (O : List Str) (a : Appr) : Nat := (a.2.2.2.filter fun n => decide (n ∈ O)).length
def byP (O ps : List Str) : List (Nat × Appr) → List (Nat × Nat) → D
  | [], acc => .tup [.str "yes", .tup (acc.map sdD)]
  | q :: r, acc => if touchedB ps q.2 = true then (if (givenBy O q.2 : Int) < q.2.2.2.1 then .tup [.str "no", sdD (q.1, q.2.1)] else byP O ps r (acc ++ [(q.1, q.2.1)])) else byP O ps r acc
def restS (l0 l1 : List Appr) : Nat → List (Nat × Appr)
  | 0 => l0.map (fun a => (0, a)) ++ l1.map (fun a => (1, a))
  | 1 => l1.map (fun a => (1, a))
  | _ => []
structure ApprOk (a : Appr) : Prop where
  pre : a.2.1.length ≤ 1000
  nms : a.2.2.2.length ≤ 1000
def spBy (_ : PySem.W.Frag) : Sp := fun vs H Q _ => ∃ (S pa g : Addr) (author : Str) (l0 l1 : List Appr) (ps ns : List Str), vs = [.ref S, .ref pa, .str author, .ref g] ∧ Rep H (.tup [.tup (l0.map apprD), .tup (l1.map apprD)]) (.ref S) ∧ Rep H (.tup (ps.map D.str)) (.ref pa) ∧ SeqAt H g (ns.map V.str) ∧
  ns.length ≤ 8 ∧ ps.length ≤ 1000 ∧ (∀ p ∈ ps, p.length ≤ 1000) ∧ (∀ a ∈ l0 ++ l1, ApprOk a) ∧ l0.length + l1.length ≤ 200000 ∧
  ∀ (v : V) (H' : Hp), Same H H' → Rep H' (byP (ns.filter fun n => decide (n ≠ author)) ps (restS l0 l1 0) []) v → Q v H'
theorem reps_strs {H : Hp} : ∀ {xs : List Str} {vs : List V}, Reps H (xs.map D.str) vs → vs = xs.map V.str
  | [], _, h => h
  | x :: xs, _, ⟨v, r, e, h, q⟩ => by
    obtain rfl : v = .str x := h
    rw [e, reps_strs (xs := xs) q]
    rfl
theorem appr_of {H : Hp} {a : Appr} {v : V} (h : Rep H (apprD a) v) : ∃ t nt : Addr, v = .ref t ∧ Rd H t (.tup [.int (a.1 : Int), .str a.2.1, .int a.2.2.1, .ref nt]) ∧ Rd H nt (.tup (a.2.2.2.map V.str)) := by
  obtain ⟨t, vs, rfl, ht, _, v1, r1, rfl, h1, v2, r2, rfl, h2, v3, r3, rfl, h3, v4, r4, rfl, ⟨nt, ns, rfl, hn, _, hs⟩, h5⟩ := h
  obtain rfl : v1 = .int (a.1 : Int) := h1
  obtain rfl : v2 = .str a.2.1 := h2
  obtain rfl : v3 = .int a.2.2.1 := h3
  obtain rfl : r4 = [] := h5
  rw [reps_strs hs] at hn
  exact ⟨t, nt, rfl, ht, hn⟩
theorem take_filter {α : Type} {p : α → Bool} {xs : List α} {i : Nat} {x : α} (h : xs[i]? = some x) : (xs.take (i + 1)).filter p = (xs.take i).filter p ++ if p x = true then [x] else [] := by
  rw [List.take_add_one, h, List.filter_append]
  congr 1
  simp [List.filter_cons]
theorem sd_rep {H : Hp} {t : Addr} {i j : Nat} (h : H t = some (.tup [.int (i : Int), .int (j : Int)])) : Rep H (sdD (i, j)) (.ref t) := ⟨t, _, rfl, .inl h, (by show 2 ≤ sizeLine; decide), _, _, rfl, rfl, _, _, rfl, rfl, rfl⟩
section
variable {P : Program} {w : World} {K : PySem.W.Frag} {mg : Str → Option Value} {base : Heap}
abbrev s_approved_by : Stmt := topS 36
theorem sc_approved_by : FnScope ["sides", "paths", "author", "given", "others", "asked", "side", "rows", "line", "prefix", "count", "names", "name", "path"] ["sides", "paths", "author", "given"] (defScope s_approved_by) := ⟨rfl, rfl, rfl, by decide +kernel, rfl, by decide +kernel, by decide +kernel⟩
theorem ok_by {f : Addr} {fd : FuncData} (F : Fun K "approved_by" "approved_by" s_approved_by f fd) (T : Glo mg) (Te : mg "enumerate" = none) (Ta : mg "any" = none) (c_touches : C8.Cal P w K mg base 1 "touches" (spTouch K) []) : FnOk P w K mg base CX0 2 f fd ["sides", "paths", "author", "given"] (spBy K) := by
  refine F.ok sc_approved_by (fun vs H Q E h => ?_) (fun cdv A outer s H vs Q E hr h => ?_)
  · obtain ⟨S, pa, g, author, l0, l1, ps, ns, rfl, _⟩ := h
    rfl
  · obtain ⟨S, pa, g, author, l0, l1, ps, ns, rfl, hS, hP, hg, nl, pl, px, ao, ll, k⟩ := h
    refine ⟨_, (pss_cons (ps_set (i := 4) sc_approved_by.nd rfl (.inr rfl) (pe_lc (own := [("name", 12)]) (g := gName 12) (tt := _) rfl sc_approved_by.nd (pi_seq (pv 3)) (blkOk_by (N := ["sides", "paths", "author", "given", "others", "asked", "side", "rows", "line", "prefix", "count", "names", "name", "path"]) (sc := defScope s_approved_by) (by decide +kernel)) (fun _ _ _ _ _ => (pg_name (i := 12) sc_approved_by.nd rfl (.inl rfl))) (fun _ _ _ _ _ => (pts_one (pt_cmpR op_ne (pv 12) (pv 2) (nomark _)))) (fun _ _ _ _ _ => (pv 12))))
      (pss_cons (ps_set (i := 5) sc_approved_by.nd rfl (.inl rfl) (pe_lst pa_nil))
      (pss_cons (ps_for PassesOwn.never rfl (pi_enumT (by rfl) Te (pa_cons (pv 0) pa_nil)) (pg_tup rfl (pgs_cons (pg_name (i := 6) sc_approved_by.nd rfl (.inl rfl)) (pgs_cons (pg_name (i := 7) sc_approved_by.nd rfl (.inl rfl)) pgs_nil)))
      (pss_one (ps_for PassesOwn.never rfl (pi_tup (pv 7)) (pg_tup rfl (pgs_cons (pg_name (i := 8) sc_approved_by.nd rfl (.inl rfl)) (pgs_cons (pg_name (i := 9) sc_approved_by.nd rfl (.inr rfl)) (pgs_cons (pg_name (i := 10) sc_approved_by.nd rfl (.inl rfl)) (pgs_cons (pg_name (i := 11) sc_approved_by.nd rfl (.inl rfl)) pgs_nil)))))
        (pss_one (ps_if (pt_val (pe_callB (cr_any rfl) (by rfl) Ta (by decide +kernel) (pa_cons (pe_lc (own := [("path", 13)]) (g := gName 13) (tt := tYes) rfl sc_approved_by.nd (pi_tup (pv 1)) (blkOk_by (N := ["sides", "paths", "author", "given", "others", "asked", "side", "rows", "line", "prefix", "count", "names", "name", "path"]) (sc := defScope s_approved_by) (by decide +kernel)) (fun _ _ _ _ _ => (pg_name (i := 13) sc_approved_by.nd rfl (.inl rfl))) (fun _ _ _ _ _ => pts_nil) (fun _ _ _ _ _ => (C8.pe_c c_touches hr (by omega) (by rfl) (pa_cons (pv 9) (pa_cons (pv 13) pa_nil))))) pa_nil)))
          (pss_cons (ps_if (pt_cmpR op_lt (pe_callB call_len_seq (by rfl) T.len PySem.boot_len (pa_cons (pe_lc (own := [("name", 12)]) (g := gName 12) (tt := _) rfl sc_approved_by.nd (pi_tup (pv 11)) (blkOk_by (N := ["sides", "paths", "author", "given", "others", "asked", "side", "rows", "line", "prefix", "count", "names", "name", "path"]) (sc := defScope s_approved_by) (by decide +kernel)) (fun _ _ _ _ _ => (pg_name (i := 12) sc_approved_by.nd rfl (.inl rfl))) (fun _ _ _ _ _ => (pts_one (pt_cmpR (r := rIn K false) op_in_seq (pv 12) (pv 4) (by rfl)))) (fun _ _ _ _ _ => (pv 12))) pa_nil)) (pv 10) (nomark _))
            (pss_one (ps_ret (pe_tup (pa_cons pe_str (pa_cons (pe_tup (pa_cons (pv 6) (pa_cons (pv 8) pa_nil))) pa_nil)))))
            pss_nil)
            (pss_one (ps_expr (pe_bm PySem.F.plainAttrs_list PySem.F.slot_list_append PySem.F.type_list_append mt_append (pv 5) (pa_cons (pe_tup (pa_cons (pv 6) (pa_cons (pv 8) pa_nil))) pa_nil)))))
          pss_nil)))))
      (pss_one (ps_ret (pe_tup (pa_cons pe_str (pa_cons (pe_callTy call_tuple_of (by rfl) T.tuple PyProof.Rows.boot_tuple (pa_cons (pv 5) pa_nil)) pa_nil)))))))), ?_⟩
    generalize eO : (ns.filter fun n => decide (n ≠ author)) = O at k
    refine st_seq (st_asg (te_lc ?_))
    refine seq_walk hg (fun Q q => ⟨_, rfl, q⟩) fun J G w hG D hD => ?_
    refine lc_it w (fun i H2 => Same H H2 ∧ H2 D = some (.lst (((ns.take i).filter fun n => decide (n ≠ author)).map V.str))) ⟨Same.new hD, upd_same⟩ (fun i H2 _ q => hG H2 q.1) ?_ ?_
    · rintro i y Hx H2 hi ⟨s2, e2⟩ ⟨rfl, hy⟩
      rw [List.getElem?_map] at hy
      obtain ⟨n, hn, rfl⟩ := Option.map_eq_some_iff.mp hy
      refine ⟨rfl, _, rfl, _, rfl, rfl, _, rfl, ?_⟩
      rw [take_filter hn]
      by_cases c : n = author
      · rw [decide_eq_true (show V.str n = V.str author by rw [c])]
        refine iteF ⟨s2, ?_⟩
        rw [decide_eq_false (fun z => z c)]
        simpa using e2
      · rw [decide_eq_false (show V.str n ≠ V.str author from fun e => c (V.str.inj e))]
        refine iteT ⟨_, rfl, _, e2, ?_, Same.mut s2 hD, ?_⟩
        · rw [List.length_map]
          have := List.length_filter_le (fun n => decide (n ≠ author)) (ns.take i)
          rw [List.length_take] at this
          exact small_lt (by omega)
        · rw [upd_same, decide_eq_true c, List.map_append]
          rfl
    rintro H1 ⟨s1, d1⟩
    rw [List.length_map, List.take_length, eO] at d1
    refine st_g ?_
    dsimp only
    refine st_seq (st_asg ?_)
    refine ⟨(by show 0 ≤ sizeLine; decide), fun D2 hD2 => st_g ?_⟩
    dsimp only
    have hDD : D2 ≠ D := fun z => by
      rw [z, d1] at hD2
      cases hD2
    have s02 : Same H (upd H1 D2 (.lst [])) := fun b o e => by
      rw [upd_ne (ne_of_none (s1 b o e) hD2)]
      exact s1 b o e
    have d2 : upd H1 D2 (.lst []) D = some (.lst (O.map V.str)) := by
      rw [upd_ne (Ne.symm hDD)]
      exact d1
    have e2 : upd H1 D2 (.lst []) D2 = some (.lst []) := upd_same
    have hD20 : H D2 = none := s1.free hD2
    have hD0 : H D = none := hD
    generalize upd H1 D2 (.lst []) = H2 at s02 d2 e2 ⊢
    obtain ⟨_, sv, eS, hS0, _, v0, r0, rfl, hv0, v1, r1, rfl, hv1, hr1⟩ := hS
    cases eS
    obtain rfl : r1 = [] := hr1
    obtain ⟨_, pvs, eP, hpa, _, hps⟩ := hP
    cases eP
    obtain rfl := reps_strs hps
    have Ol : O.length ≤ 8 := by
      rw [← eO]
      exact Nat.le_trans (List.length_filter_le ..) nl
    refine st_seq ?_
    refine ⟨_, rfl, S, _, rfl, .inl (Rd.same s02 hS0), ?_⟩
    refine for_it walk_enumT (fun i σ H3 => ∃ (k6 k7 k8 k9 k10 k11 : Option V) (acc : List (Nat × Nat)) (av : List V), σ = [some (.ref S), some (.ref pa), some (.str author), some (.ref g), some (.ref D), some (.ref D2), k6, k7, k8, k9, k10, k11, none, none] ∧ Same H H3 ∧ H3 D = some (.lst (O.map V.str)) ∧ H3 D2 = some (.lst av) ∧ Reps H3 (acc.map sdD) av ∧ byP O ps (restS l0 l1 0) [] = byP O ps (restS l0 l1 i) acc ∧ acc.length + (restS l0 l1 i).length ≤ l0.length + l1.length)
      ⟨none, none, none, none, none, none, [], [], rfl, s02, d2, e2, rfl, rfl, by simp [restS]⟩ (fun i σ H3 _ ⟨_, _, _, _, _, _, _, _, _, z, _⟩ => .inl (Rd.same z hS0)) ?_ ?_
    · rintro i y σ H3 H4 hi ⟨k6, k7, k8, k9, k10, k11, acc, av, rfl, s3, d3, e3, rp3, eq3, le3⟩ ⟨t, x, vi, rfl, ht, rfl, hx, hvi⟩
      obtain rfl := Option.some.inj hx
      replace hvi : [v0, v1][i]? = some vi := hvi
      obtain ⟨li, rpi, ei, mi⟩ : ∃ li : List Appr, Rep H (.tup (li.map apprD)) vi ∧ restS l0 l1 i = li.map (fun a => (i, a)) ++ restS l0 l1 (i + 1) ∧ ∀ a ∈ li, ApprOk a := by
        match i, hvi with
        | 0, h =>
          obtain rfl := Option.some.inj h
          exact ⟨l0, hv0, rfl, fun a ha => ao a (List.mem_append_left _ ha)⟩
        | 1, h =>
          obtain rfl := Option.some.inj h
          exact ⟨l1, hv1, by simp [restS], fun a ha => ao a (List.mem_append_right _ ha)⟩
        | i + 2, h => simp at h
      have s4 : Same H3 (upd H3 t (.tup [.int (i : Nat), vi])) := Same.new ht
      have tt : upd H3 t (.tup [.int (i : Nat), vi]) t = some (.tup [.int (i : Nat), vi]) := upd_same
      have s04 : Same H (upd H3 t (.tup [.int (i : Nat), vi])) := fun b o e => s4 b o (s3 b o e)
      have d4 := s4 _ _ d3
      have e4 := s4 _ _ e3
      have rp4 := rp3.keep (Tk.same s4)
      generalize upd H3 t (.tup [.int (i : Nat), vi]) = H4 at s4 tt s04 d4 e4 rp4 ⊢
      refine ⟨t, _, rfl, SqT.of tt, rfl, _, _, rfl, _, _, rfl, rfl, ?_⟩
      dsimp only
      obtain ⟨ra, rv, rfl, hra, _, hrv⟩ := rpi
      have rl := hrv.len
      rw [List.length_map] at rl
      refine ⟨_, rfl, ra, rfl, ⟨_, .inl (Rd.same s04 hra)⟩, for_tup (K := K) (a := ra) (xs := rv) (fun j σ H5 => ∃ (k8 k9 k10 k11 : Option V) (acc : List (Nat × Nat)) (av : List V), σ = [some (.ref S), some (.ref pa), some (.str author), some (.ref g), some (.ref D), some (.ref D2), some (.int (i : Nat)), some (.ref ra), k8, k9, k10, k11, none, none] ∧ Same H H5 ∧ H5 D = some (.lst (O.map V.str)) ∧ H5 D2 = some (.lst av) ∧ Reps H5 (acc.map sdD) av ∧ byP O ps (restS l0 l1 0) [] = byP O ps ((li.drop j).map (fun a => (i, a)) ++ restS l0 l1 (i + 1)) acc ∧ acc.length + ((li.drop j).length + (restS l0 l1 (i + 1)).length) ≤ l0.length + l1.length)
        ⟨_, _, _, _, acc, av, rfl, s04, d4, e4, rp4, by rw [eq3, ei]; rfl, by rw [ei, List.length_append, List.length_map] at le3; exact le3⟩ (fun j σ H5 _ ⟨_, _, _, _, _, _, _, z, _⟩ => .inl (Rd.same z hra)) ?_ ?_⟩
      · rintro j x σ H5 hx ⟨k8, k9, k10, k11, acc, av, rfl, s5, d5, e5, rp5, eq5, le5⟩
        have hj : j < li.length := by
          have := (List.getElem?_eq_some_iff.mp hx).1
          omega
        have hjj : li[j]? = some li[j] := List.getElem?_eq_getElem hj
        obtain ⟨v, hv, hrep⟩ := hrv.get (i := j) (d := apprD li[j]) (by rw [List.getElem?_map, hjj]; rfl)
        obtain rfl : v = x := Option.some.inj (hv.symm.trans hx)
        obtain ⟨t2, nt, rfl, ht2, hnt⟩ := appr_of (hrep.keep (Tk.same s5))
        have ok := mi _ (List.getElem_mem hj)
        rw [List.drop_eq_getElem_cons hj] at eq5 le5
        rw [List.map_cons, List.cons_append] at eq5
        rw [List.length_cons] at le5
        generalize li[j] = a at hjj ht2 hnt ok eq5
        refine ⟨t2, _, rfl, .inl ht2, rfl, _, _, rfl, _, _, rfl, _, _, rfl, _, _, rfl, rfl, ?_⟩
        dsimp only
        have al := rp5.len
        rw [List.length_map] at al
        refine st_if (tt_b (te_cb (ta_cons (te_lc ?_))))
        refine ⟨_, rfl, pa, rfl, ⟨_, .inl (Rd.same s5 hpa)⟩, fun B hB => lc_it walk_tup (fun m H6 => Same H5 H6 ∧ H6 B = some (.lst (((ps.take m).map (touchB a.2.1)).map V.bl))) ⟨Same.new hB, upd_same⟩ (fun m H6 _ q => .inl (Rd.same q.1 (Rd.same s5 hpa))) ?_ ?_⟩
        · rintro m y Hx H6 hm ⟨s6, e6⟩ ⟨rfl, hy⟩
          rw [List.getElem?_map] at hy
          obtain ⟨p, hp, rfl⟩ := Option.map_eq_some_iff.mp hy
          rw [List.length_map] at hm
          refine ⟨rfl, _, rfl, _, rfl, a.2.1, p, rfl, ok.pre, px p (List.mem_of_getElem? hp), _, e6, ?_, Same.mut s6 hB, ?_⟩
          · rw [List.length_map, List.length_map, List.length_take]
            exact small_lt (by omega)
          · rw [upd_same, List.take_add_one, hp, List.map_append, List.map_append]
            rfl
        rintro H6 ⟨s6, e6⟩
        rw [List.length_map, List.take_length] at e6
        refine ta_nil ⟨B, _, rfl, SqL.of e6, _, rfl, ?_⟩
        have et : ((ps.map (touchB a.2.1)).any id) = touchedB ps a := by
          rw [List.any_map]
          rfl
        rw [et]
        have s06 : Same H H6 := fun b o e => s6 b o (s5 b o e)
        have d6 := s6 _ _ d5
        have e6' := s6 _ _ e5
        have rp6 := rp5.keep (Tk.same s6)
        have hnt6 := Rd.same s6 hnt
        cases tb : touchedB ps a with
        | false =>
          refine iteF ⟨_, _, _, _, acc, av, rfl, s06, d6, e6', rp6, ?_, by omega⟩
          rw [eq5]
          simp only [byP, tb]
          rfl
        | true =>
          refine iteT ?_
          refine st_seq ?_
          refine ⟨_, rfl, nt, rfl, ⟨_, .inl hnt6⟩, fun C hC => lc_it walk_tup (fun m H7 => Same H6 H7 ∧ H7 C = some (.lst (((a.2.2.2.take m).filter fun n => decide (n ∈ O)).map V.str))) ⟨Same.new hC, upd_same⟩ (fun m H7 _ q => .inl (Rd.same q.1 hnt6)) ?_ ?_⟩
          · rintro m y Hx H7 hm ⟨s7, e7⟩ ⟨rfl, hy⟩
            rw [List.getElem?_map] at hy
            obtain ⟨n, hn, rfl⟩ := Option.map_eq_some_iff.mp hy
            refine ⟨rfl, _, rfl, _, rfl, D, _, rfl, .inl (SqL.of (s7 _ _ d6)), rfl, flat_strs _, _, rfl, ?_⟩
            show if inV (.str n) (O.map V.str) = true then _ else _
            rw [inV_strs, take_filter hn]
            by_cases c : n ∈ O
            · rw [decide_eq_true c]
              refine iteT ⟨_, rfl, _, e7, ?_, Same.mut s7 hC, ?_⟩
              · rw [List.length_map]
                have := List.length_filter_le (fun n => decide (n ∈ O)) (a.2.2.2.take m)
                rw [List.length_take] at this
                have := ok.nms
                exact small_lt (by omega)
              · rw [upd_same, List.map_append]
                rfl
            · rw [decide_eq_false c]
              refine iteF ⟨s7, ?_⟩
              simpa using e7
          rintro H7 ⟨s7, e7⟩
          rw [List.length_map, List.take_length] at e7
          refine ⟨C, _, rfl, .inl (SqL.of e7), _, rfl, _, _, rfl, rfl, _, rfl, ?_⟩
          rw [List.length_map]
          have s07 : Same H H7 := fun b o e => s7 b o (s06 b o e)
          by_cases cl : (givenBy O a : Int) < a.2.2.1
          · rw [decide_eq_true (show (((a.2.2.2.filter fun n => decide (n ∈ O)).length : Nat) : Int) < a.2.2.1 from cl)]
            refine iteT ⟨_, rfl, _, rfl, (by show 2 ≤ sizeLine; decide), fun t3 h3 => ⟨(by show 2 ≤ sizeLine; decide), fun t4 h4 => ?_⟩⟩
            refine k _ _ (fun b o e => ?_) ?_
            · have e7 := s07 b o e
              rw [upd_ne (ne_of_none (by rw [upd_ne (ne_of_none e7 h3)]; exact e7) h4), upd_ne (ne_of_none e7 h3)]
              exact e7
            · rw [eq5]
              simp only [byP, tb, if_pos cl]
              have n34 : t3 ≠ t4 := fun z => by
                rw [← z, upd_same] at h4
                cases h4
              exact ⟨t4, _, rfl, .inl upd_same, (by show 2 ≤ sizeLine; decide), _, _, rfl, rfl, _, _, rfl, sd_rep (by rw [upd_ne n34]; exact upd_same), rfl⟩
          · rw [decide_eq_false (show ¬ (((a.2.2.2.filter fun n => decide (n ∈ O)).length : Nat) : Int) < a.2.2.1 from cl)]
            refine iteF (st_next ?_)
            dsimp only
            have e7' := s7 _ _ e6'
            refine ⟨_, rfl, .inl ⟨rfl, _, SqL.of e7'⟩, _, rfl, _, rfl, (by show 2 ≤ sizeLine; decide), fun t5 ht5 => ?_⟩
            have n5 : D2 ≠ t5 := ne_of_none e7' ht5
            have s8 : Same H7 (upd H7 t5 (.tup [.int (i : Nat), .int (a.1 : Nat)])) := Same.new ht5
            have e8 : upd H7 t5 (.tup [.int (i : Nat), .int (a.1 : Nat)]) D2 = some (.lst av) := s8 _ _ e7'
            have rt : Rep (upd H7 t5 (.tup [.int (i : Nat), .int (a.1 : Nat)])) (sdD (i, a.1)) (.ref t5) := sd_rep upd_same
            have rp8 := (rp6.keep (Tk.same s7)).keep (Tk.same s8)
            have d8 := s8 _ _ (s7 _ _ d6)
            have s08 : Same H (upd H7 t5 (.tup [.int (i : Nat), .int (a.1 : Nat)])) := fun b o e => s8 b o (s07 b o e)
            generalize upd H7 t5 (.tup [.int (i : Nat), .int (a.1 : Nat)]) = H8 at e8 rt rp8 d8 s08 ⊢
            refine ⟨D2, _, _, rfl, rfl, e8, by rw [sizeLine_eq]; omega, _, _, _, _, acc ++ [(i, a.1)], av ++ [.ref t5], rfl, Same.mut s08 hD20, by rw [upd_ne (Ne.symm hDD)]; exact d8, upd_same, ?_, ?_, ?_⟩
            · rw [List.map_append]
              exact (rp8.snoc rt).keep (Tk.lst e8)
            · rw [eq5]
              simp only [byP, tb, if_neg cl, if_pos]
            · rw [List.length_append, List.length_singleton]
              omega
      · rintro σ H5 ⟨k8, k9, k10, k11, acc, av, rfl, s5, d5, e5, rp5, eq5, le5⟩
        rw [List.drop_of_length_le (by omega)] at eq5 le5
        exact ⟨_, _, _, _, _, _, acc, av, rfl, s5, d5, e5, rp5, eq5, by simpa using le5⟩
    · rintro σ H3 ⟨k6, k7, k8, k9, k10, k11, acc, av, rfl, s3, d3, e3, rp3, eq3, le3⟩
      have al := rp3.len
      rw [List.length_map] at al
      refine ⟨_, rfl, D2, _, rfl, .inl ⟨SqL.of e3, fun q hq => ⟨(by show 2 ≤ sizeLine; decide), fun t ht => ?_⟩⟩⟩
      have nq : q ≠ t := fun z => by
        rw [← z, upd_same] at ht
        cases ht
      refine k _ _ (fun b o e => ?_) ?_
      · have e7 := s3 b o e
        rw [upd_ne (ne_of_none (by rw [upd_ne (ne_of_none e7 hq)]; exact e7) ht), upd_ne (ne_of_none e7 hq)]
        exact e7
      · rw [eq3]
        exact ⟨t, _, rfl, .inl upd_same, (by show 2 ≤ sizeLine; decide), _, _, rfl, rfl, _, _, rfl, ⟨q, av, rfl, .inl (by rw [upd_ne nq]; exact upd_same), by rw [sizeLine_eq]; omega, (rp3.keep (Tk.new hq)).keep (Tk.new ht)⟩, rfl⟩
end
end Kl

namespace Kl
open PySem L2 Kd
theorem mergeF_len {α : Type} : ∀ (l a : List (Str × α)), (mergeF a l).length ≤ a.length + l.length
  | [], a => by simp [mergeF]
  | q :: r, a => by
    have ih := mergeF_len r (putF a q.1 q.2)
    have h1 : (putF a q.1 q.2).length ≤ a.length + 1 := by
      unfold putF
      split
      · rw [List.length_map]
        omega
      · rw [List.length_append]
        simp
    show (mergeF (putF a q.1 q.2) r).length ≤ _
    rw [List.length_cons]
    omega
/-- {**a, **b} of two dicts of files -/
theorem te_star2 {i j : Nat} {lo hi : Addr} {fs gs : Fs} {σ : L2.St} {H : Hp} {Q : VK} (h1 : σ[i]? = some (some (.ref lo))) (h2 : σ[j]? = some (some (.ref hi))) (hlo : H lo = some (.dK (kvF fs))) (hhi : H hi = some (.dK (kvF gs))) (l1 : fs.length ≤ 1000) (l2 : gs.length ≤ 1000)
    (k : ∀ (du : Addr) (H' : Hp), Same H H' → H du = none → H' du = some (.dK (kvF (mergeF (mergeF [] fs) gs))) → Q (.ref du) H') : Ks.tStar2 (tVar i) (tVar j) σ H Q := by
  intro du hdu
  have nlo : du ≠ lo := fun z => by
    rw [z, hlo] at hdu
    cases hdu
  have nhi : du ≠ hi := fun z => by
    rw [z, hhi] at hdu
    cases hdu
  have m0 : (kvF fs).length = fs.length := by
    unfold kvF kvG
    rw [List.length_map]
  have m1 : (kvF gs).length = gs.length := by
    unfold kvF kvG
    rw [List.length_map]
  have e1 : mergeK [] (kvF fs) = kvF (mergeF [] fs) := mergeK_F V.str fs []
  have e2 : mergeK (kvF (mergeF [] fs)) (kvF gs) = kvF (mergeF (mergeF [] fs) gs) := mergeK_F V.str gs _
  have z1 : (kvF (mergeF [] fs)).length ≤ fs.length := by
    unfold kvF kvG
    rw [List.length_map]
    have := mergeF_len fs ([] : Fs)
    simpa using this
  refine ⟨_, h1, lo, kvF fs, rfl, upd_same, by rw [upd_ne (Ne.symm nlo)]; exact hlo, nlo, small_of (by rw [m0]; simp; omega), _, h2, hi, kvF gs, rfl, upd_same, by rw [upd_ne (Ne.symm nhi), upd_ne (Ne.symm nhi)]; exact hhi, nhi, small_of (by rw [e1, m1]; omega), ?_⟩
  refine k du _ (fun b o e => ?_) hdu (by rw [upd_same, e1, e2])
  have nb : b ≠ du := ne_of_none e hdu
  rw [upd_ne nb, upd_ne nb, upd_ne nb]
  exact e
theorem mergeF2_mem (fs gs : Fs) (p : Str) : p ∈ (mergeF (mergeF [] fs) gs).map (·.1) ↔ p ∈ fs.map (·.1) ∨ p ∈ gs.map (·.1) := by
  rw [mergeF_mem, mergeF_mem]
  simp
/-- two trees whose paths are few -/
structure Two (fs gs : Fs) : Prop where
  nd1 : (fs.map (·.1)).Nodup
  nd2 : (gs.map (·.1)).Nodup
  few : ∃ L : List Str, L.length ≤ 60 ∧ (∀ p ∈ fs.map (·.1), p ∈ L) ∧ ∀ p ∈ gs.map (·.1), p ∈ L
theorem Two.of {fs gs : Fs} (h : FOk fs) (h' : FOk gs) : Two fs gs := ⟨h.nd, h'.nd, allPaths, by decide, fun p hp => by
  obtain ⟨q, hq, e⟩ := List.mem_map.mp hp
  rw [← e]
  exact h.path q hq, fun p hp => by
  obtain ⟨q, hq, e⟩ := List.mem_map.mp hp
  rw [← e]
  exact h'.path q hq⟩
theorem Two.len1 {fs gs : Fs} (h : Two fs gs) : fs.length ≤ 60 := by
  obtain ⟨L, l, h1, _⟩ := h.few
  have := nodup_le (ys := L) h.nd1 h1
  rw [List.length_map] at this
  omega
theorem Two.len2 {fs gs : Fs} (h : Two fs gs) : gs.length ≤ 60 := by
  obtain ⟨L, l, _, h1⟩ := h.few
  have := nodup_le (ys := L) h.nd2 h1
  rw [List.length_map] at this
  omega
/-- what changes between two trees -/
def spPBetween (_ : PySem.W.Frag) (C : Addr) : Sp := fun vs H Q _ => ∃ (a b : Addr) (fs gs : Fs), vs = [.ref a, .ref b] ∧ TreeAt C H a fs ∧ TreeAt C H b gs ∧ Two fs gs ∧
  ∀ (x : V) (ks : List Str) (H' : Hp), Same H H' → Rep H' (editD (betweenL fs gs ks)) x → Asc ks → (∀ p, p ∈ ks ↔ p ∈ fs.map (·.1) ∨ p ∈ gs.map (·.1)) → Q x H'
section
variable {P : Program} {w : World} {K : PySem.W.Frag} {mg : Str → Option Value} {base : Heap} {C : Addr}
abbrev s_between : Stmt := topS 30
theorem sc_between : FnScope ["old", "new", "was", "now", "edit", "path"] ["old", "new"] (defScope s_between) := ⟨rfl, rfl, rfl, by decide +kernel, rfl, by decide +kernel, by decide +kernel⟩
theorem ok_pbetween {f : Addr} {fd : FuncData} (F : Fun K "between" "between" s_between f fd) (T : Glo mg) (tp : TreeP P w K mg base C) (c_check_tree : C8.Cal P w K mg base 1 "check_tree" (spCheck K C) []) :
    FnOk P w K mg base CX0 3 f fd ["old", "new"] (spPBetween K C) := by
  refine F.ok sc_between (fun vs H Q E h => ?_) (fun cdv A outer s H vs Q E hr h => ?_)
  · obtain ⟨a, b, fs, gs, rfl, _⟩ := h
    rfl
  · obtain ⟨up, vp, fs, gs, rfl, ha, hb, tw, kk⟩ := h
    have hu := hu_of hr
    refine ⟨_, (pss_cons (ps_expr (C8.pe_c c_check_tree hr (by omega) (by rfl) (pa_cons (pv 0) (pa_cons pe_int pa_nil))))
      (pss_cons (ps_expr (C8.pe_c c_check_tree hr (by omega) (by rfl) (pa_cons (pv 1) (pa_cons pe_int pa_nil))))
      (pss_cons (ps_set (i := 2) sc_between.nd rfl (.inl rfl) (pe_callTy (r := rDictTup K) (Ks.call_dict_tup rfl) (by rfl) T.dict (by decide +kernel) (pa_cons (pe_files tp hr (by omega) (pv 0)) pa_nil)))
      (pss_cons (ps_set (i := 3) sc_between.nd rfl (.inl rfl) (pe_callTy (r := rDictTup K) (Ks.call_dict_tup rfl) (by rfl) T.dict (by decide +kernel) (pa_cons (pe_files tp hr (by omega) (pv 1)) pa_nil)))
      (pss_cons (ps_set (i := 4) sc_between.nd rfl (.inl rfl) (pe_lst pa_nil))
      (pss_cons (ps_for PassesOwn.never rfl (pi_list (pe_callB (call_sortedD rfl) (by rfl) T.sorted (by decide +kernel) (pa_cons (Ks.pe_star2 (pv 2) (pv 3)) pa_nil))) (pg_name (i := 5) sc_between.nd rfl (.inl rfl))
      (pss_one (ps_if (pt_cmp (pc_dnotin hu (pv 5) (pv 3)))
        (pss_one (ps_expr (pe_bm PySem.F.plainAttrs_list PySem.F.slot_list_append PySem.F.type_list_append mt_append (pv 4) (pa_cons (pe_tup (pa_cons pe_str (pa_cons (pv 5) pa_nil))) pa_nil))))
        (pss_one (ps_if (pt_cmpR op_ne (pe_dget1 hu (pv 2) (pv 5) ⟨rfl, rfl, rfl, rfl⟩) (pe_dget hu (pv 3) (pv 5) (fun _ _ => rfl)) (nomark _))
          (pss_one (ps_expr (pe_bm PySem.F.plainAttrs_list PySem.F.slot_list_append PySem.F.type_list_append mt_append (pv 4) (pa_cons (pe_tup (pa_cons pe_str (pa_cons (pv 5) (pa_cons (pe_dget hu (pv 3) (pv 5) (fun _ _ => rfl)) pa_nil)))) pa_nil))))
          pss_nil)))))
      (pss_one (ps_ret (pe_callTy call_tuple_of (by rfl) T.tuple PyProof.Rows.boot_tuple (pa_cons (pv 4) pa_nil)))))))))), ?_⟩
    have fl := tw.len1
    have gl := tw.len2
    refine st_seq (st_expr (te_call (ta_cons (te_v rfl (ta_cons (te_c (ta_nil ⟨up, 1, fs, rfl, ha, ?_⟩)))))))
    dsimp only
    refine st_seq (st_expr (te_call (ta_cons (te_v rfl (ta_cons (te_c (ta_nil ⟨vp, 2, gs, rfl, hb, ?_⟩)))))))
    dsimp only
    refine st_seq (st_asg (te_dict rfl ha tw.nd1 fun lo hlo => st_g ?_))
    dsimp only
    have s1 : Same H (upd H lo (.dK (kvF fs))) := Same.new hlo
    have lo1 : upd H lo (.dK (kvF fs)) lo = some (.dK (kvF fs)) := upd_same
    generalize upd H lo (.dK (kvF fs)) = H1 at s1 lo1 ⊢
    refine st_seq (st_asg (te_dict rfl (hb.same s1) tw.nd2 fun hi hhi => st_g ?_))
    dsimp only
    have s2' : Same H1 (upd H1 hi (.dK (kvF gs))) := Same.new hhi
    have lo2 := s2' _ _ lo1
    have hi2 : upd H1 hi (.dK (kvF gs)) hi = some (.dK (kvF gs)) := upd_same
    have s2 : Same H (upd H1 hi (.dK (kvF gs))) := fun b o e => s2' b o (s1 b o e)
    generalize upd H1 hi (.dK (kvF gs)) = H2 at s2 lo2 hi2 ⊢
    refine st_seq (st_asg ?_)
    refine ⟨(by show 0 ≤ sizeLine; decide), fun md hmd => st_g ?_⟩
    dsimp only
    have md0 : H md = none := none_of s2 hmd
    have s5 : Same H2 (upd H2 md (.lst [])) := Same.new hmd
    have s5' : Same H (upd H2 md (.lst [])) := fun b o e => s5 b o (s2 b o e)
    have lo5 := s5 _ _ lo2
    have hi5 := s5 _ _ hi2
    have md5 : upd H2 md (.lst []) md = some (.lst []) := upd_same
    generalize upd H2 md (.lst []) = H5 at s5' lo5 hi5 md5 ⊢
    refine st_seq ?_
    unfold tFor iList
    refine te_cb (ta_cons (te_star2 rfl rfl lo5 hi5 (by omega) (by omega) fun du H8 s8 hdu du8 => ta_nil ?_))
    have mem := mergeF2_mem fs gs
    have mnd : ((mergeF (mergeF [] fs) gs).map (·.1)).Nodup := mergeF_nodup _ _ (mergeF_nodup _ _ List.nodup_nil)
    have mlen : ((mergeF (mergeF [] fs) gs).map (·.1)).length ≤ 60 := by
      obtain ⟨L, l, i1, i2⟩ := tw.few
      refine Nat.le_trans (nodup_le (ys := L) mnd fun p hp => ?_) l
      rcases (mem p).mp hp with h | h
      · exact i1 p h
      · exact i2 p h
    generalize mergeF (mergeF [] fs) gs = m at mem mnd mlen du8
    refine ⟨du, kvF m, m.map (·.1), rfl, .inl du8, kvF_keys' m, by omega, fun ks p perm srt hp => ?_⟩
    have asc : Asc ks := asc_of srt (perm.nodup_iff.mpr mnd)
    have hks : ks.length ≤ 60 := by
      rw [perm.length_eq]
      exact mlen
    have memk : ∀ p, p ∈ ks ↔ p ∈ fs.map (·.1) ∨ p ∈ gs.map (·.1) := fun p => perm.mem_iff.trans (mem p)
    have md8 := s8 _ _ md5
    have hpm : p ≠ md := fun z => by
      rw [z, md8] at hp
      cases hp
    have s9 : Same H5 (upd H8 p (.lst (ks.map V.str))) := fun b o e => by
      have := s8 b o e
      rw [upd_ne (ne_of_none this hp)]
      exact this
    have p9 : upd H8 p (.lst (ks.map V.str)) p = some (.lst (ks.map V.str)) := upd_same
    generalize upd H8 p (.lst (ks.map V.str)) = H9 at s9 p9 ⊢
    refine ⟨p, rfl, ⟨_, SqL.of p9⟩, for_list (K := K) (a := p) (xs := ks.map V.str) (fun i σ Hi => ∃ (k5 : Option V) (ws : List V), σ = [some (.ref up), some (.ref vp), some (.ref lo), some (.ref hi), some (.ref md), k5] ∧ Same H Hi ∧ Hi lo = some (.dK (kvF fs)) ∧ Hi hi = some (.dK (kvF gs)) ∧ Hi p = some (.lst (ks.map V.str)) ∧ Hi md = some (.lst ws) ∧ ws.length ≤ i ∧ Reps Hi ((betweenL fs gs (ks.take i)).map changeD) ws)
      ⟨_, [], rfl, fun b o e => s9 b o (s5' b o e), s9 _ _ lo5, s9 _ _ hi5, p9, s9 _ _ md5, Nat.le_refl _, rfl⟩ (fun i σ Hi _ ⟨_, _, _, _, _, _, z, _⟩ => SqL.of z) ?_ ?_⟩
    · rintro i x σ Hi hx ⟨k5, ws, rfl, sH, lo_, hi_, p_, md_, wl, wr⟩
      rw [List.getElem?_map] at hx
      obtain ⟨k, hk, rfl⟩ := Option.map_eq_some_iff.mp hx
      have hil : i < ks.length := (List.getElem?_eq_some_iff.mp hk).1
      have snoc := betweenL_snoc fs gs hk
      have dl : DGet Hi lo (.str k) ((valF fs k).map V.str) := by
        have := DGet.k (k := Sum.inr k) lo_
        rw [kvF_val'] at this
        exact this
      have dh : DGet Hi hi (.str k) ((valF gs k).map V.str) := by
        have := DGet.k (k := Sum.inr k) hi_
        rw [kvF_val'] at this
        exact this
      have push : ∀ {t : Addr} {xs : List V} {o : Option Str} {k5 : Option V}, betw (valF fs k) (valF gs k) = some o → Hi t = none → Rep (upd Hi t (.tup xs)) (changeD (k, o)) (.ref t) → (∃ (k5' : Option V) (ws' : List V), [some (V.ref up), some (V.ref vp), some (V.ref lo), some (V.ref hi), some (V.ref md), k5] = [some (V.ref up), some (V.ref vp), some (V.ref lo), some (V.ref hi), some (V.ref md), k5'] ∧ Same H (upd (upd Hi t (.tup xs)) md (.lst (ws ++ [.ref t]))) ∧ upd (upd Hi t (.tup xs)) md (.lst (ws ++ [.ref t])) lo = some (.dK (kvF fs)) ∧ upd (upd Hi t (.tup xs)) md (.lst (ws ++ [.ref t])) hi = some (.dK (kvF gs)) ∧ upd (upd Hi t (.tup xs)) md (.lst (ws ++ [.ref t])) p = some (.lst (ks.map V.str)) ∧ upd (upd Hi t (.tup xs)) md (.lst (ws ++ [.ref t])) md = some (.lst ws') ∧ ws'.length ≤ i + 1 ∧ Reps (upd (upd Hi t (.tup xs)) md (.lst (ws ++ [.ref t]))) ((betweenL fs gs (ks.take (i + 1))).map changeD) ws') ∧ upd Hi t (.tup xs) md = some (.lst ws) := by
        intro t xs o k5 hb ht hrep
        have tm : md ≠ t := fun z => by
          rw [← z, md_] at ht
          cases ht
        have md1 : upd Hi t (.tup xs) md = some (.lst ws) := by rw [upd_ne tm]; exact md_
        refine ⟨⟨_, ws ++ [.ref t], rfl, Same.mut (fun b o e => by rw [upd_ne (ne_of_none (sH b o e) ht)]; exact sH b o e) md0, ?_, ?_, ?_, upd_same, by rw [List.length_append]; simp only [List.length_cons, List.length_nil]; omega, ?_⟩, md1⟩
        · rw [upd_ne (ne_of lo_ md_ (fun z => nomatch z)), upd_ne (ne_of_none lo_ ht)]
          exact lo_
        · rw [upd_ne (ne_of hi_ md_ (fun z => nomatch z)), upd_ne (ne_of_none hi_ ht)]
          exact hi_
        · rw [upd_ne hpm, upd_ne (ne_of_none p_ ht)]
          exact p_
        · rw [snoc, hb, List.map_append]
          have tk : Tk (upd Hi t (.tup xs)) (upd (upd Hi t (.tup xs)) md (.lst (ws ++ [.ref t]))) := Tk.lst md1
          exact Reps.snoc (Reps.keep tk (Reps.keep (Tk.new ht) wr)) (Rep.keep tk hrep)
      have skip : ∀ {k5 : Option V}, betw (valF fs k) (valF gs k) = none → ∃ (k5' : Option V) (ws' : List V), [some (V.ref up), some (V.ref vp), some (V.ref lo), some (V.ref hi), some (V.ref md), k5] = [some (V.ref up), some (V.ref vp), some (V.ref lo), some (V.ref hi), some (V.ref md), k5'] ∧ Same H Hi ∧ Hi lo = some (.dK (kvF fs)) ∧ Hi hi = some (.dK (kvF gs)) ∧ Hi p = some (.lst (ks.map V.str)) ∧ Hi md = some (.lst ws') ∧ ws'.length ≤ i + 1 ∧ Reps Hi ((betweenL fs gs (ks.take (i + 1))).map changeD) ws' := by
        intro k5 hb
        refine ⟨_, ws, rfl, sH, lo_, hi_, p_, md_, by omega, ?_⟩
        rw [snoc, hb, Option.map_none, Option.toList_none, List.append_nil]
        exact wr
      have wroom : ws.length < sizeLine := small_lt (by omega)
      have hin := (memk k).mp (List.mem_of_getElem? hk)
      refine ⟨_, rfl, _, rfl, hi, _, rfl, dh, _, rfl, ite2 (fun z => ?_) (fun z => ?_)⟩
      · have hg : valF gs k = none := by
          cases e : valF gs k with
          | none => rfl
          | some c => rw [e] at z; cases z
        have hf : (valF fs k).isSome = true := by
          rcases hin with h | h
          · exact valF_isSome.mpr h
          · rw [← valF_isSome, hg] at h
            cases h
        have hb : betw (valF fs k) (valF gs k) = some none := by
          rw [hg]
          show (if (valF fs k).isSome = true then some none else none) = _
          rw [if_pos hf]
        refine ⟨_, rfl, .inl ⟨rfl, _, SqL.of md_⟩, _, rfl, (by show 2 ≤ sizeLine; decide), fun t ht => ?_⟩
        have pu := push (k5 := some (.str k)) hb ht (drop_rep upd_same)
        exact ⟨md, _, _, rfl, rfl, pu.2, wroom, pu.1⟩
      · obtain ⟨c, hc⟩ : ∃ c, valF gs k = some c := by
          cases e : valF gs k with
          | none => rw [e] at z; exact absurd rfl z
          | some c => exact ⟨c, rfl⟩
        rw [hc] at dh
        have eo : ((valF fs k).map V.str).getD .non = encO (valF fs k) := by
          cases valF fs k <;> rfl
        refine ⟨_, rfl, lo, rfl, .inl ⟨_, .inl lo_⟩, _, rfl, _, dl, _, rfl, _, rfl, hi, _, rfl, dh, ?_⟩
        rw [eo]
        refine ⟨encO_scal _ (some c), _, rfl, ite2 (fun z => ?_) (fun z => ?_)⟩
        · have hn : valF fs k ≠ some c := fun e => by
            rw [e] at z
            simp [encO] at z
          have hb : betw (valF fs k) (valF gs k) = some (some c) := by
            rw [hc]
            show (if valF fs k = some c then none else some (some c)) = _
            rw [if_neg hn]
          refine ⟨_, rfl, .inl ⟨rfl, _, SqL.of md_⟩, _, rfl, _, rfl, _, rfl, hi, _, rfl, dh, (by show 3 ≤ sizeLine; decide), fun t ht => ?_⟩
          have pu := push (k5 := some (.str k)) hb ht (put_rep upd_same)
          exact ⟨md, _, _, rfl, rfl, pu.2, wroom, pu.1⟩
        · have hn : valF fs k = some c := by
            have e : encO (valF fs k) = V.str c := by
              simpa using z
            exact encO_inj (b := some c) e
          refine skip ?_
          rw [hc, hn]
          show (if some c = some c then none else some (some c)) = _
          rw [if_pos rfl]
    · rintro σ Hi ⟨k5, ws, rfl, sH, lo_, hi_, p_, md_, wl, wr⟩
      rw [List.length_map] at wl wr
      rw [List.take_length] at wr
      refine ⟨_, rfl, md, _, rfl, .inl ⟨SqL.of md_, fun l hl => ?_⟩⟩
      exact kk (.ref l) ks _ (fun b o e => by rw [upd_ne (ne_of_none (sH b o e) hl)]; exact sH b o e) ⟨l, ws, rfl, .inl upd_same, small_of (by omega), Reps.keep (Tk.new hl) wr⟩ asc memk
/-- the paths that change -/
def spTouched (_ : PySem.W.Frag) (C : Addr) : Sp := fun vs H Q _ => ∃ (a b : Addr) (fs gs : Fs), vs = [.ref a, .ref b] ∧ TreeAt C H a fs ∧ TreeAt C H b gs ∧ Two fs gs ∧
  ∀ (x : V) (ks : List Str) (H' : Hp), Same H H' → Rep H' (.tup ((betweenL fs gs ks).map fun q => .str q.1)) x → Asc ks → (∀ p, p ∈ ks ↔ p ∈ fs.map (·.1) ∨ p ∈ gs.map (·.1)) → Q x H'
theorem betweenL_len (fs gs : Fs) (ks : List Str) : (betweenL fs gs ks).length ≤ ks.length := List.length_filterMap_le _ _
theorem change_at1 {H : Hp} {q : Str × Option Str} {v : V} (h : Rep H (changeD q) v) : ∃ (c : Addr) (ws : List V), v = .ref c ∧ Rd H c (.tup ws) ∧ atI ws 1 = some (.str q.1) := by
  obtain ⟨p, o⟩ := q
  obtain ⟨c, e, hc⟩ := change_of h
  cases o with
  | none => exact ⟨c, _, e, hc, rfl⟩
  | some d => exact ⟨c, _, e, hc, rfl⟩
abbrev s_touched : Stmt := topS 31
theorem sc_touched : FnScope ["old", "new", "change"] ["old", "new"] (defScope s_touched) := ⟨rfl, rfl, rfl, by decide +kernel, rfl, by decide +kernel, by decide +kernel⟩
theorem ok_touched {f : Addr} {fd : FuncData} (F : Fun K "touched" "touched" s_touched f fd) (T : Glo mg) (c_between : C8.Cal P w K mg base 3 "between" (spPBetween K C) []) :
    FnOk P w K mg base CX0 4 f fd ["old", "new"] (spTouched K C) := by
  refine F.ok sc_touched (fun vs H Q E h => ?_) (fun cdv A outer s H vs Q E hr h => ?_)
  · obtain ⟨a, b, fs, gs, rfl, _⟩ := h
    rfl
  · obtain ⟨up, vp, fs, gs, rfl, ha, hb, tw, kk⟩ := h
    refine ⟨_, (pss_one (ps_ret (pe_callTy call_tuple_of (by rfl) T.tuple PyProof.Rows.boot_tuple (pa_cons (pe_lc (own := [("change", 2)]) (g := gName 2) (tt := tYes) rfl sc_touched.nd (pi_tup (C8.pe_c c_between hr (by omega) (by rfl) (pa_cons (pv 0) (pa_cons (pv 1) pa_nil)))) (blkOk_by (N := ["old", "new", "change"]) (sc := defScope s_touched) (by decide +kernel)) (fun _ _ _ _ _ => (pg_name (i := 2) sc_touched.nd rfl (.inl rfl))) (fun _ _ _ _ _ => pts_nil) (fun _ _ _ _ _ => (pe_ix (r := rIxT K) ix_tup (pv 2) pe_int (fun _ _ => rfl)))) pa_nil)))), ?_⟩
    refine ⟨_, rfl, _, rfl, up, vp, fs, gs, rfl, ha, hb, tw, fun x ks H1 s1 hx asc mem => ?_⟩
    obtain ⟨t, vs, rfl, ht, hz, hvs⟩ := hx
    have vl := hvs.len
    rw [List.length_map] at vl
    generalize he : betweenL fs gs ks = es at hvs vl
    refine ⟨t, rfl, ⟨_, .inl ht⟩, fun D hD => lc_tup (K := K) (a := t) (xs := vs) (fun i H2 => Same H1 H2 ∧ H2 D = some (.lst ((es.take i).map fun q => V.str q.1))) ⟨Same.new hD, upd_same⟩ (fun i H2 _ q => .inl (Rd.same q.1 ht)) ?_ ?_⟩
    · rintro i x H2 hx ⟨s2, e2⟩
      have hil : i < es.length := by
        have := (List.getElem?_eq_some_iff.mp hx).1
        omega
      have hq : es[i]? = some es[i] := List.getElem?_eq_getElem hil
      obtain ⟨v, hv, hrep⟩ := hvs.get (i := i) (d := changeD es[i]) (by rw [List.getElem?_map, hq]; rfl)
      obtain rfl : v = x := Option.some.inj (hv.symm.trans hx)
      obtain ⟨c, ws, rfl, hc1, a1⟩ := change_at1 (hrep.keep (Same.tk s2))
      refine ⟨rfl, _, rfl, c, ws, 1, _, rfl, rfl, .inl hc1, a1, _, e2, ?_, Same.mut s2 hD, ?_⟩
      · rw [List.length_map, List.length_take]
        rw [sizeLine_eq] at hz ⊢
        omega
      · rw [upd_same, List.take_add_one, hq, List.map_append]
        rfl
    · rintro H2 ⟨s2, e2⟩
      rw [vl, List.take_length] at e2
      refine ⟨D, _, rfl, .inl ⟨SqL.of e2, fun l hl => ?_⟩⟩
      refine kk (.ref l) ks _ (fun b o e => by rw [upd_ne (ne_of_none (s2 b o (s1 b o e)) hl)]; exact s2 b o (s1 b o e)) ?_ asc mem
      rw [he]
      refine ⟨l, _, rfl, .inl upd_same, by rw [List.length_map]; omega, ?_⟩
      have sr : ∀ (H : Hp) (xs : List (Str × Option Str)), Reps H (xs.map fun q => Kd.D.str q.1) (xs.map fun q => V.str q.1) := fun H xs => by
        induction xs with
        | nil => rfl
        | cons q r ih => exact ⟨_, _, rfl, rfl, ih⟩
      exact sr _ es
end
end Kl

namespace Kl
open PySem L2 Kd Kx
/-! approved, approvals -/
theorem Out.pre {H H1 H' : Hp} {d : Addr} {xs : List (Str × V)} (s : Same H H1) (o : Out H1 H' d xs) : Out H H' d xs := ⟨fun b u e => o.sm b u (s b u e), s.free o.nw, o.xd⟩
theorem te_callS {sp : Sp} {E : L2.St → XK} {t : TA} {σ : L2.St} {H : Hp} {Q : VK} (h : t σ H fun vs H1 => sp vs H1 Q (E σ)) : tCallS sp E t σ H Q := h
abbrev rowsOf (fs : Fs) : List Row := toldP "own/rules" fs
abbrev readOf (fs : Fs) : List Appr := (rowsOf fs).filterMap apprOf
def AllR (fs : Fs) : Prop := ∀ r ∈ rowsOf fs, apprP r.2.2 ≠ none
structure Short (fs : Fs) : Prop where
  pth : ∀ q ∈ fs, q.1.length ≤ 1000
  ct : ∀ q ∈ fs, q.2.length ≤ 1000
  few : fs.length ≤ 60
theorem apprP_pre {ps : List Str} {a : Str × Int × List Str} (h : apprP ps = some a) : a.1 = ps.getD 1 "" ∧ 4 ≤ ps.length := by
  unfold apprP at h
  split at h
  · rename_i c
    repeat' (split at h)
    all_goals first
      | cases h
        exact ⟨rfl, c.2.1⟩
      | cases h
  · cases h
theorem readOf_ok {fs : Fs} (h : Short fs) : ∀ a ∈ readOf fs, ApprOk a := fun a ha => by
  obtain ⟨r, hr, e⟩ := List.mem_filterMap.mp ha
  obtain ⟨b, hb, rfl⟩ := Option.map_eq_some_iff.mp e
  have m := toldP_mem fs h.ct hr
  have p := apprP_pre hb
  have l := apprP_len hb
  refine ⟨?_, ?_⟩
  · show b.1.length ≤ 1000
    rw [p.1, List.getD_eq_getElem?_getD, List.getElem?_eq_getElem (by omega : 1 < r.2.2.length)]
    exact m.2 _ (List.getElem_mem _)
  · show b.2.2.length ≤ 1000
    omega
theorem readOf_len {fs : Fs} (h : Short fs) : (readOf fs).length ≤ 60120 := by
  have h1 := toldP_len "own/rules" fs h.ct
  have h2 := List.length_filterMap_le apprOf (rowsOf fs)
  have h3 : fs.length * (1000 + 2) ≤ 60 * 1002 := Nat.mul_le_mul_right _ h.few
  exact Nat.le_trans h2 (Nat.le_trans h1 h3)
theorem betweenL_sub {fs gs : Fs} {ks : List Str} {p : Str} (h : p ∈ (betweenL fs gs ks).map (·.1)) : p ∈ ks := by
  obtain ⟨q, hq, rfl⟩ := List.mem_map.mp h
  obtain ⟨k, hk, e⟩ := List.mem_filterMap.mp hq
  obtain ⟨o, _, rfl⟩ := Option.map_eq_some_iff.mp e
  exact hk
def spApproved (_ : PySem.W.Frag) (C CB : Addr) : Sp := fun vs H Q E => ∃ (a b g : Addr) (author : Str) (fs gs : Fs) (ns : List Str), vs = [.ref a, .ref b, .str author, .ref g] ∧ TreeAt C H a fs ∧ TreeAt C H b gs ∧ Two fs gs ∧ Short fs ∧ Short gs ∧ wordB author = true ∧ SeqAt H g (ns.map V.str) ∧ GivOk ns ∧
  (∀ r, WrongAt (rowsOf fs) r → ∀ (d : Addr) (H' : Hp), Out H H' d [("at", .int (r.2.1 : Int)), ("path", .str r.1)] → E (.ref CB) (some d) H') ∧
  (AllR fs → ∀ r, WrongAt (rowsOf gs) r → ∀ (d : Addr) (H' : Hp), Out H H' d [("at", .int (r.2.1 : Int)), ("path", .str r.1)] → E (.ref CB) (some d) H') ∧
  (AllR fs → AllR gs → ∀ (v : V) (ks : List Str) (H' : Hp), Same H H' → Asc ks → (∀ p, p ∈ ks ↔ p ∈ fs.map (·.1) ∨ p ∈ gs.map (·.1)) →
    Rep H' (byP (ns.filter fun n => decide (n ≠ author)) ((betweenL fs gs ks).map (·.1)) (restS (readOf fs) (readOf gs) 0) []) v → Q v H')
section
variable {P : Program} {w : World} {K : PySem.W.Frag} {mg : Str → Option Value} {base : Heap} {C CB : Addr}
abbrev s_approved : Stmt := topS 35
theorem sc_approved : FnScope ["old", "new", "author", "given", "sides"] ["old", "new", "author", "given"] (defScope s_approved) := ⟨rfl, rfl, rfl, by decide +kernel, rfl, by decide +kernel, by decide +kernel⟩
theorem ok_approved {f fR : Addr} {fd fdR : FuncData} (F : Fun K "approved" "approved" s_approved f fd) (tp : TreeP P w K mg base C) (RA : At K mg "read_approvals" s_read_approvals ["files"] fR fdR) (GR : FnOk P w K mg base (L2N.CX P w) 4 fR fdR ["files"] (spRead CB))
    (c_check_tree : C8.Cal P w K mg base 1 "check_tree" (spCheck K C) []) (c_is_word : C8.Cal P w K mg base 1 "is_word" (spWordG K) []) (c_is_given : C8.Cal P w K mg base 2 "is_given" (spGiven K) []) (c_touched : C8.Cal P w K mg base 4 "touched" (spTouched K C) []) (c_approved_by : C8.Cal P w K mg base 2 "approved_by" (spBy K) []) :
    FnOk P w K mg base (L2N.CX P w) 5 f fd ["old", "new", "author", "given"] (spApproved K C CB) := by
  refine okN F sc_approved (fun vs H Q E h => ?_) (fun cdv A outer s H vs Q E hr h => ?_)
  · obtain ⟨a, b, g, author, fs, gs, ns, rfl, _⟩ := h
    rfl
  · obtain ⟨a, b, g, author, fs, gs, ns, rfl, ha, hb, tw, sf, sg, wa, hg, go, kx1, kx2, kk⟩ := h
    have tk := L2N.takes_of (X := cxOf (L2N.CX P w) P w K mg base ["old", "new", "author", "given", "sides"] "approved" (defScope s_approved) f cdv A outer s H E) rfl rfl rfl rfl
    refine ⟨_, (pss_cons (ps_expr (C8.pe_c c_check_tree hr (by omega) (by rfl) (pa_cons (pv 0) (pa_cons pe_int pa_nil))))
      (pss_cons (ps_expr (C8.pe_c c_check_tree hr (by omega) (by rfl) (pa_cons (pv 1) (pa_cons pe_int pa_nil))))
      (pss_cons (ps_if (pt_not (pt_val (C8.pe_c c_is_word hr (by omega) (by rfl) (pa_cons (pv 2) pa_nil))))
      (pss_one ps_never)
      pss_nil)
      (pss_cons (ps_if (pt_not (pt_val (C8.pe_c c_is_given hr (by omega) (by rfl) (pa_cons (pv 3) pa_nil))))
      (pss_one ps_never)
      pss_nil)
      (pss_cons (ps_set (i := 4) sc_approved.nd rfl (.inl rfl) (pe_tup (pa_cons (pe_callS GR hr (by rfl) RA.mf RA.fn.kp RA.bd (fun σ => L2N.passAt tk σ) (pa_cons (pe_files tp hr (by omega) (pv 0)) pa_nil)) (pa_cons (pe_callS GR hr (by rfl) RA.mf RA.fn.kp RA.bd (fun σ => L2N.passAt tk σ) (pa_cons (pe_files tp hr (by omega) (pv 1)) pa_nil)) pa_nil))))
      (pss_one (ps_ret (C8.pe_c c_approved_by hr (by omega) (by rfl) (pa_cons (pv 4) (pa_cons (C8.pe_c c_touched hr (by omega) (by rfl) (pa_cons (pv 0) (pa_cons (pv 1) pa_nil))) (pa_cons (pv 2) (pa_cons (pv 3) pa_nil)))))))))))), ?_⟩
    refine st_seq (st_expr (te_call (ta_cons (te_v rfl (ta_cons (te_c (ta_nil ⟨a, 1, fs, rfl, ha, ?_⟩)))))))
    dsimp only
    refine st_seq (st_expr (te_call (ta_cons (te_v rfl (ta_cons (te_c (ta_nil ⟨b, 2, gs, rfl, hb, ?_⟩)))))))
    dsimp only
    refine st_seq ?_
    refine ⟨_, rfl, author, rfl, by have := wordB_len wa; omega, _, rfl, ?_⟩
    rw [wa]
    refine iteF (st_next ?_)
    dsimp only
    refine st_seq ?_
    refine ⟨_, rfl, g, ns, rfl, hg, go, fun H1 s1 => ⟨_, rfl, iteF (st_next ?_)⟩⟩
    dsimp only
    refine st_seq (st_asg (te_tup (ta_cons (te_callS (ta_cons (te_filesV rfl (ha.same s1) fun t o vs h1 h2 h3 h4 => ta_nil ?_))))))
    refine ⟨t, fs, rfl, ⟨t, vs, rfl, .inr ⟨o, h1⟩, h3, h4⟩, sf.ct, sf.few, fun r wr d H' out => kx1 r wr d H' (out.pre s1), fun all0 v0 H2 s2 rep0 => ?_⟩
    have s02 : Same H H2 := fun b o e => s2 b o (s1 b o e)
    refine ta_cons (te_callS (ta_cons (te_filesV rfl (hb.same s02) fun t o vs h1 h2 h3 h4 => ta_nil ?_)))
    refine ⟨t, gs, rfl, ⟨t, vs, rfl, .inr ⟨o, h1⟩, h3, h4⟩, sg.ct, sg.few, fun r wr d H' out => kx2 all0 r wr d H' (out.pre s02), fun all1 v1 H3 s3 rep1 => ta_nil ⟨(by show 2 ≤ sizeLine; decide), fun S hS => st_g ?_⟩⟩
    dsimp only
    have s34 : Same H3 (upd H3 S (.tup [v0, v1])) := Same.new hS
    have repS : Rep (upd H3 S (.tup [v0, v1])) (.tup [.tup ((readOf fs).map apprD), .tup ((readOf gs).map apprD)]) (.ref S) := ⟨S, _, rfl, .inl upd_same, (by show 2 ≤ sizeLine; decide), _, _, rfl, rep0.keep ((Same.tk s3).trans (Same.tk s34)), _, _, rfl, rep1.keep (Same.tk s34), rfl⟩
    have s04 : Same H (upd H3 S (.tup [v0, v1])) := fun b o e => s34 b o (s3 b o (s02 b o e))
    generalize upd H3 S (.tup [v0, v1]) = H4 at repS s04 ⊢
    refine st_ret (te_call (ta_cons (te_v rfl (ta_cons (te_call (ta_cons (te_v rfl (ta_cons (te_v rfl (ta_nil ?_))))))))))
    refine ⟨a, b, fs, gs, rfl, ha.same s04, hb.same s04, tw, fun x ks H5 s5 rx asc mem => ?_⟩
    obtain ⟨pa, pvs, rfl, hpa, hpl, hps⟩ := rx
    refine ta_cons (te_v rfl (ta_cons (te_v rfl (ta_nil ?_))))
    have s05 : Same H H5 := fun b o e => s5 b o (s04 b o e)
    have kl : ks.length ≤ 120 := by
      have := nodup_le (ys := fs.map (·.1) ++ gs.map (·.1)) asc.nodup fun p hp => List.mem_append.mpr ((mem p).mp hp)
      have e1 := sf.few
      have e2 := sg.few
      rw [List.length_append, List.length_map, List.length_map] at this
      omega
    have e0 := readOf_len sf
    have e1 := readOf_len sg
    refine ⟨S, pa, g, author, readOf fs, readOf gs, (betweenL fs gs ks).map (·.1), ns, rfl, repS.keep (Same.tk s5), ⟨pa, pvs, rfl, hpa, hpl, by rw [List.map_map]; exact hps⟩, hg.same s05, go.few, ?_, ?_, ?_, by omega, fun v H6 s6 rv => kk all0 all1 v ks H6 (fun b o e => s6 b o (s05 b o e)) asc mem rv⟩
    · rw [List.length_map]
      have := betweenL_len fs gs ks
      omega
    · intro p hp
      rcases (mem p).mp (betweenL_sub hp) with h | h
      · obtain ⟨q, hq, rfl⟩ := List.mem_map.mp h
        exact sf.pth q hq
      · obtain ⟨q, hq, rfl⟩ := List.mem_map.mp h
        exact sg.pth q hq
    · intro a ha
      rcases List.mem_append.mp ha with h | h
      · exact readOf_ok sf a h
      · exact readOf_ok sg a h
end
end Kl

namespace Kl
open PySem L2 Kd Kx
def lineD (a : Appr) : D := .tup [.int a.1, .int a.2.2.1, .tup (a.2.2.2.map D.str)]
def spApprovals (_ : PySem.W.Frag) (C : Addr) : Sp := fun vs H Q _ => ∃ (a : Addr) (path : Str) (fs : Fs), vs = [.ref a, .str path] ∧ TreeAt C H a fs ∧ Short fs ∧ pathB path = true ∧ path.length ≤ 1000 ∧ AllR fs ∧
  ∀ (v : V) (H' : Hp), Same H H' → Rep H' (.tup (((readOf fs).filter fun r => touchB r.2.1 path).map lineD)) v → Q v H'
section
variable {P : Program} {w : World} {K : PySem.W.Frag} {mg : Str → Option Value} {base : Heap} {C CB : Addr}
abbrev s_approvals : Stmt := topS 34
theorem sc_approvals : FnScope ["tree", "path", "rows", "line", "prefix", "count", "names"] ["tree", "path"] (defScope s_approvals) := ⟨rfl, rfl, rfl, by decide +kernel, rfl, by decide +kernel, by decide +kernel⟩
theorem ok_approvals {f fR : Addr} {fd fdR : FuncData} (F : Fun K "approvals" "approvals" s_approvals f fd) (T : Glo mg) (tp : TreeP P w K mg base C) (RA : At K mg "read_approvals" s_read_approvals ["files"] fR fdR) (GR : FnOk P w K mg base (L2N.CX P w) 4 fR fdR ["files"] (spRead CB))
    (c_check_tree : C8.Cal P w K mg base 1 "check_tree" (spCheck K C) []) (c_is_path : C8.Cal P w K mg base 2 "is_path" (spPathG K) []) (c_touches : C8.Cal P w K mg base 1 "touches" (spTouch K) []) : FnOk P w K mg base (L2N.CX P w) 5 f fd ["tree", "path"] (spApprovals K C) := by
  refine okN F sc_approvals (fun vs H Q E h => ?_) (fun cdv A outer s H vs Q E hr h => ?_)
  · obtain ⟨a, path, fs, rfl, _⟩ := h
    rfl
  · obtain ⟨a, path, fs, rfl, ha, sf, hp, pl, all, kk⟩ := h
    have tk := L2N.takes_of (X := cxOf (L2N.CX P w) P w K mg base ["tree", "path", "rows", "line", "prefix", "count", "names"] "approvals" (defScope s_approvals) f cdv A outer s H E) rfl rfl rfl rfl
    refine ⟨_, (pss_cons (ps_expr (C8.pe_c c_check_tree hr (by omega) (by rfl) (pa_cons (pv 0) (pa_cons pe_int pa_nil))))
      (pss_cons (ps_if (pt_not (pt_val (C8.pe_c c_is_path hr (by omega) (by rfl) (pa_cons (pv 1) pa_nil))))
      (pss_one ps_never)
      pss_nil)
      (pss_cons (ps_set (i := 2) sc_approvals.nd rfl (.inl rfl) (pe_callS GR hr (by rfl) RA.mf RA.fn.kp RA.bd (fun σ => L2N.passAt tk σ) (pa_cons (pe_files tp hr (by omega) (pv 0)) pa_nil)))
      (pss_one (ps_ret (pe_callTy call_tuple_of (by rfl) T.tuple PyProof.Rows.boot_tuple (pa_cons (pe_lc (own := [("line", 3), ("prefix", 4), ("count", 5), ("names", 6)]) (g := (gTup K 4 (gCons (gName 3) (gCons (gName 4) (gCons (gName 5) (gCons (gName 6) gNil)))))) (tt := _) rfl sc_approvals.nd (pi_tup (pv 2)) (blkOk_by (N := ["tree", "path", "rows", "line", "prefix", "count", "names"]) (sc := defScope s_approvals) (by decide +kernel)) (fun _ _ _ _ _ => (pg_tup rfl (pgs_cons (pg_name (i := 3) sc_approvals.nd rfl (.inl rfl)) (pgs_cons (pg_name (i := 4) sc_approvals.nd rfl (.inl rfl)) (pgs_cons (pg_name (i := 5) sc_approvals.nd rfl (.inl rfl)) (pgs_cons (pg_name (i := 6) sc_approvals.nd rfl (.inl rfl)) pgs_nil)))))) (fun _ _ _ _ _ => (pts_one (pt_val (C8.pe_c c_touches hr (by omega) (by rfl) (pa_cons (pv 4) (pa_cons (pv 1) pa_nil)))))) (fun _ _ _ _ _ => (pe_tup (pa_cons (pv 3) (pa_cons (pv 5) (pa_cons (pv 6) pa_nil)))))) pa_nil))))))), ?_⟩
    refine st_seq (st_expr (te_call (ta_cons (te_v rfl (ta_cons (te_c (ta_nil ⟨a, 1, fs, rfl, ha, ?_⟩)))))))
    dsimp only
    refine st_seq ?_
    refine ⟨_, rfl, path, rfl, pl, fun H1 s1 => ⟨_, rfl, ?_⟩⟩
    rw [hp]
    refine iteF (st_next ?_)
    dsimp only
    refine st_seq (st_asg (te_callS (ta_cons (te_filesV rfl (ha.same s1) fun t o vs h1 h2 h3 h4 => ta_nil ?_))))
    refine ⟨t, fs, rfl, ⟨t, vs, rfl, .inr ⟨o, h1⟩, h3, h4⟩, sf.ct, sf.few, fun r wr => ?_, fun _ v0 H2 s2 rep0 => st_g ?_⟩
    · obtain ⟨i, hi, hn, _⟩ := wr
      exact absurd hn (all r (List.mem_of_getElem? hi))
    dsimp only
    obtain ⟨ra, rv, rfl, hra, _, hrv⟩ := rep0
    replace hrv : Reps H2 ((readOf fs).map apprD) rv := hrv
    have rl := hrv.len
    rw [List.length_map] at rl
    have s02 : Same H H2 := fun b o e => s2 b o (s1 b o e)
    have lo := readOf_len sf
    have ao := readOf_ok sf
    generalize readOf fs = li at hrv rl lo ao kk
    refine ⟨_, rfl, ra, rfl, ⟨_, .inl hra⟩, fun D hD => lc_it walk_tup (fun i H3 => Same H2 H3 ∧ ∃ ws, H3 D = some (.lst ws) ∧ Reps H3 (((li.take i).filter fun r => touchB r.2.1 path).map lineD) ws) ⟨Same.new hD, [], upd_same, rfl⟩ (fun i H3 _ q => .inl (Rd.same q.1 hra)) ?_ ?_⟩
    · rintro j y Hx H3 hj ⟨s3, ws, e3, rp3⟩ ⟨rfl, hy⟩
      have hj : j < li.length := by omega
      have hjj : li[j]? = some li[j] := List.getElem?_eq_getElem hj
      obtain ⟨v, hv, hrep⟩ := hrv.get (i := j) (d := apprD li[j]) (by rw [List.getElem?_map, hjj]; rfl)
      obtain rfl : v = y := Option.some.inj (hv.symm.trans hy)
      obtain ⟨t2, nt, rfl, ht2, hnt⟩ := appr_of (hrep.keep (Same.tk s3))
      have ok := ao _ (List.getElem_mem hj)
      generalize li[j] = r at hjj ht2 hnt ok
      have wl := rp3.len
      rw [List.length_map] at wl
      have fl := List.length_filter_le (fun r => touchB r.2.1 path) (li.take j)
      rw [List.length_take] at fl
      rw [take_filter hjj]
      refine ⟨t2, _, rfl, .inl ht2, rfl, _, _, rfl, _, _, rfl, _, _, rfl, _, _, rfl, rfl, rfl, _, rfl, _, rfl, r.2.1, path, rfl, ok.pre, pl, _, rfl, ?_⟩
      cases tb : touchB r.2.1 path with
      | false => exact iteF ⟨s3, ws, e3, by simpa using rp3⟩
      | true =>
        refine iteT ⟨_, rfl, _, rfl, _, rfl, (by show 3 ≤ sizeLine; decide), fun t5 ht5 => ?_⟩
        have s5 : Same H3 (upd H3 t5 (.tup [.int (r.1 : Int), .int r.2.2.1, .ref nt])) := Same.new ht5
        have t55 : upd H3 t5 (.tup [.int (r.1 : Int), .int r.2.2.1, .ref nt]) t5 = some (.tup [.int (r.1 : Int), .int r.2.2.1, .ref nt]) := upd_same
        generalize upd H3 t5 (.tup [.int (r.1 : Int), .int r.2.2.1, .ref nt]) = H5 at s5 t55 ⊢
        have e5 := s5 _ _ e3
        have rep5 : Rep H5 (lineD r) (.ref t5) := by
          refine ⟨t5, _, rfl, .inl t55, (by show 3 ≤ sizeLine; decide), _, _, rfl, rfl, _, _, rfl, rfl, _, _, rfl, ⟨nt, _, rfl, Rd.same s5 hnt, ?_, strs_rep _ _⟩, rfl⟩
          rw [List.length_map, sizeLine_eq]
          have := ok.nms
          omega
        refine ⟨ws, e5, by rw [sizeLine_eq]; omega, Same.mut (fun b o z => s5 b o (s3 b o z)) hD, ws ++ [.ref t5], upd_same, ?_⟩
        rw [if_pos rfl, List.map_append]
        exact ((rp3.keep (Same.tk s5)).snoc rep5).keep (Tk.lst e5)
    · rintro H3 ⟨s3, ws, e3, rp3⟩
      rw [rl, List.take_length] at rp3
      have wl := rp3.len
      rw [List.length_map] at wl
      have fl := List.length_filter_le (fun r => touchB r.2.1 path) li
      refine ⟨D, _, rfl, .inl ⟨SqL.of e3, fun q hq => ?_⟩⟩
      refine kk _ _ (fun b o z => ?_) ⟨q, ws, rfl, .inl upd_same, by rw [sizeLine_eq]; omega, rp3.keep (Tk.new hq)⟩
      have z3 := s3 b o (s02 b o z)
      rw [upd_ne (ne_of_none z3 hq)]
      exact z3
end
end Kl

namespace Kl
open PySem L2 Kd
/-! the law's check of own/rules -/
theorem merge_unlike (xs : List Str) : ∀ i, i ≤ xs.length → (mergeF ([] : List (Str × Unit)) ((xs.take i).map fun x => (x, ()))).length = unlike xs i ∧ ∀ p, p ∈ (mergeF ([] : List (Str × Unit)) ((xs.take i).map fun x => (x, ()))).map (·.1) ↔ p ∈ xs.take i
  | 0, _ => by simp [mergeF, unlike]
  | i + 1, h => by
    obtain ⟨h1, h2⟩ := merge_unlike xs i (by omega)
    have e : mergeF ([] : List (Str × Unit)) ((xs.take (i + 1)).map fun x => (x, ())) = putF (mergeF [] ((xs.take i).map fun x => (x, ()))) (xs.getD i Str.empty) () := by
      rw [take_snoc xs (by omega), List.map_append]
      unfold mergeF
      rw [List.foldl_append]
      rfl
    rw [e]
    generalize mergeF ([] : List (Str × Unit)) ((xs.take i).map fun x => (x, ())) = m at h1 h2
    have k := putF_keys m (xs.getD i Str.empty) ()
    have kl := congrArg List.length k
    rw [List.length_map] at kl
    constructor
    · unfold unlike
      by_cases c : xs.getD i Str.empty ∈ xs.take i
      · rw [if_pos c, kl, if_pos ((h2 _).mpr c), List.length_map, h1]
      · rw [if_neg c, kl, if_neg fun z => c ((h2 _).mp z), List.length_append, List.length_map, h1]
        rfl
    · intro p
      rw [k, take_snoc xs (by omega)]
      split
      · rename_i c
        rw [h2]
        constructor
        · intro z
          exact List.mem_append_left _ z
        · intro z
          rcases List.mem_append.mp z with z | z
          · exact z
          · rw [List.mem_singleton.mp z]
            exact (h2 _).mp c
      · rw [List.mem_append, List.mem_append, h2]
/-- [(one, 1) for one in words] -/
theorem lc_ones {K : PySem.W.Frag} {j : Nat} {σ : L2.St} {H1 : Hp} {D p : Addr} {Qd : Hp → Prop} {ws : List Str}
    (hw : ∀ x, wipe ((wipe σ [j]).set j (some x)) [j] = wipe σ [j]) (hj : ∀ x, ((wipe σ [j]).set j (some x))[j]? = some (some x)) (hp : H1 p = some (.lst (ws.map V.str))) (hl : ws.length ≤ 2000) (hD : H1 D = none)
    (hd : ∀ (H2 : Hp) (ps : List Addr), Same H1 H2 → H2 D = some (.lst (ps.map V.ref)) → Paired (PairAt K H2) ps (kvG (fun _ : Unit => V.int 1) (ws.map fun x => (x, ()))) → Qd H2) :
    ∃ W : Nat → Nat → Hp → Prop, (∃ m, W 0 m (upd H1 D (.lst []))) ∧ ∀ i m H, W i m H →
      ((Itl K p).stop i H ∧ Qd H) ∨ ((Itl K p).go i H ∧ ∃ Nx : Hp → Prop, (∀ H', Nx H' → ∃ m', m' < m ∧ W (i + 1) m' H') ∧ ∀ x H', (Itl K p).yld i H x H' → gName j x (wipe σ [j]) H' fun σ2 H2 => wipe σ2 [j] = wipe σ [j] ∧ tYes σ2 H2 fun b H3 =>
        if b = true then (tTup (tCons (tVar j) (tCons (tC (.int 1)) tNil))) σ2 H3 fun y H4 => ∃ acc, H4 D = some (.lst acc) ∧ acc.length < sizeLine ∧ Nx (upd H4 D (.lst (acc ++ [y]))) else Nx H3) := by
  refine lc_list (K := K) (a := p) (xs := ws.map V.str) (fun i H => Same H1 H ∧ ∃ ps : List Addr, H D = some (.lst (ps.map V.ref)) ∧ ps.length = i ∧ Paired (PairAt K H) ps (kvG (fun _ : Unit => V.int 1) ((ws.take i).map fun x => (x, ()))))
    ⟨Same.new hD, [], upd_same, rfl, .nil⟩ (fun i H _ q => SqL.of (q.1 _ _ hp)) ?_ ?_
  · rintro i x H hx ⟨s, ps, e, hi, pr⟩
    rw [List.getElem?_map] at hx
    obtain ⟨k, hk, rfl⟩ := Option.map_eq_some_iff.mp hx
    have hil : i < ws.length := (List.getElem?_eq_some_iff.mp hk).1
    refine ⟨hw _, _, hj _, (by show 2 ≤ sizeLine; decide), fun q hq => ?_⟩
    have hDq : D ≠ q := fun z => by
      rw [← z, e] at hq
      cases hq
    have sq : Same H (upd H q (.tup [.str k, .int 1])) := Same.new hq
    have qq : upd H q (.tup [.str k, .int 1]) q = some (.tup [.str k, .int 1]) := upd_same
    have s2 : Same H1 (upd H q (.tup [.str k, .int 1])) := fun b o z => sq b o (s b o z)
    have e2 := sq _ _ e
    have pr2 := Paired.mono (fun a kv h => SqT.same sq h) pr
    generalize upd H q (.tup [.str k, .int 1]) = H2 at qq s2 e2 pr2 ⊢
    refine ⟨ps.map V.ref, e2, by rw [List.length_map]; exact small_lt (by omega), Same.mut s2 hD, ps ++ [q], by rw [upd_same, List.map_append]; rfl, by rw [List.length_append]; simp only [List.length_cons, List.length_nil]; omega, ?_⟩
    have en : kvG (fun _ : Unit => V.int 1) ((ws.take (i + 1)).map fun x => (x, ())) = kvG (fun _ : Unit => V.int 1) ((ws.take i).map fun x => (x, ())) ++ [(Sum.inr k, V.int 1)] := by
      rw [map_take_succ _ hk]
      unfold kvG
      rw [List.map_append]
      rfl
    rw [en]
    have tk : ∀ {a : Addr} {xs : List V}, SqT K H2 a xs → SqT K (upd H2 D (.lst (ps.map V.ref ++ [.ref q]))) a xs := fun h => by
      rcases h with (h | ⟨o, h⟩) | h
      · refine .inl (.inl ?_)
        rw [upd_ne (ne_of h e2 (fun z => nomatch z))]
        exact h
      · refine .inl (.inr ⟨o, ?_⟩)
        rw [upd_ne (ne_of h e2 (fun z => nomatch z))]
        exact h
      · exact .inr h
    exact Paired.snoc (Paired.mono (fun a kv h => tk h) pr2) (tk (SqT.of qq))
  · rintro H ⟨s, ps, e, hi, pr⟩
    rw [List.length_map, List.take_length] at pr
    exact hd H ps s e pr
end Kl

namespace Kl
open PySem L2 Kd
def ownBad : List Str → Nat → Option Nat
  | [], _ => none
  | l :: r, k => if l = "" then ownBad r (k + 1) else if (apprP (Txt.split l " ")).isNone = true then some (k + 1) else ownBad r (k + 1)
def encN : Option Nat → V
  | none => .non
  | some k => .int (k : Int)
theorem digit3 (t : Str) : t ∈ (["0", "1", "2", "3"] : List Str) ↔ 0 ≤ digitP t ∧ digitP t ≤ 3 := by
  constructor
  · intro h
    have e : ∀ t ∈ (["0", "1", "2", "3"] : List Str), 0 ≤ digitP t ∧ digitP t ≤ 3 := by decide +kernel
    exact e t h
  · rintro ⟨h0, h3⟩
    unfold digitP at h0 h3
    split at h0
    · rename_i c
      rw [if_pos c] at h3
      have e := one_sign c.1
      have cc : t.cps.getD 0 0 = 48 ∨ t.cps.getD 0 0 = 49 ∨ t.cps.getD 0 0 = 50 ∨ t.cps.getD 0 0 = 51 := by omega
      rcases cc with cc | cc | cc | cc <;> rw [cc] at e <;> rw [e] <;> decide +kernel
    · exact absurd h0 (by decide)
theorem empty_bad {ps : List Str} (h : ("" : Str) ∈ ps) : apprP ps = none := by
  cases e : apprP ps with
  | none => rfl
  | some a =>
    exfalso
    unfold apprP at e
    split at e
    · rename_i c1
      split at e
      · rename_i c2
        split at e
        · rename_i c3
          split at e
          · rename_i c4
            obtain ⟨i, hi, ei⟩ := List.getElem_of_mem h
            have gd : ps.getD i "" = "" := by rw [List.getD_eq_getElem?_getD, List.getElem?_eq_getElem hi, ei]; rfl
            match i, hi, gd, ei with
            | 0, _, gd, _ =>
              rw [gd] at c1
              exact absurd c1.1 (by decide +kernel)
            | 1, _, gd, _ =>
              rw [gd] at c2
              exact absurd c2 (by decide +kernel)
            | 2, _, gd, _ =>
              rw [gd] at c3
              exact absurd c3 (by decide +kernel)
            | i + 3, hi, _, ei =>
              have m : ("" : Str) ∈ ps.drop 3 := List.mem_of_getElem? (i := i) (by rw [List.getElem?_drop, show 3 + i = i + 3 by omega, List.getElem?_eq_getElem hi, ei])
              have := List.all_eq_true.mp c4.1 _ m
              exact absurd this (by decide +kernel)
          · cases e
        · cases e
      · cases e
    · cases e
def spOwnWrong (_ : PySem.W.Frag) : Sp := fun vs H Q _ => ∃ x : Str, vs = [.str x] ∧ x.length ≤ 1000 ∧ ∀ H' : Hp, Same H H' → Q (encN (ownBad (linesL x) 0)) H'
theorem rng_ok2 {n : Nat} (h : n < 100000) : -2 ^ 62 ≤ (n : Int) ∧ (n : Int) < 2 ^ 62 := ⟨Int.le_trans (by decide) (Int.natCast_nonneg n), Int.lt_of_lt_of_le (show (n : Int) < 100000 by omega) (by decide)⟩
theorem linesL_mem {x l : Str} (h : l ∈ linesL x) : l ∈ Txt.split x "\n" := by
  unfold linesL at h
  split at h
  · exact (List.dropLast_sublist _).subset h
  · exact h
theorem linesL_len (x : Str) : (linesL x).length ≤ (Txt.split x "\n").length := by
  unfold linesL
  split
  · rw [List.length_dropLast]
    omega
  · exact Nat.le_refl _
section
variable {P : Program} {w : World} {K : PySem.W.Frag} {mg : Str → Option Value} {base : Heap}
abbrev s_l_own_wrong : Stmt := topS 54
theorem sc_l_own_wrong : FnScope ["content", "rows", "k", "parts", "one"] ["content"] (defScope s_l_own_wrong) := ⟨rfl, rfl, rfl, by decide +kernel, rfl, by decide +kernel, by decide +kernel⟩
theorem ok_l_own_wrong {f : Addr} {fd : FuncData} (F : Fun K "_law_own_wrong" "_law_own_wrong" s_l_own_wrong f fd) (T : Glo mg) (c_l_lines : C8.Cal P w K mg base 1 "_law_lines" (spLines K) []) (c_l_parts : C8.Cal P w K mg base 1 "_law_parts" (spParts K) []) (c_l_is_path : C8.Cal P w K mg base 2 "_law_is_path" (spPathG K) []) (c_l_wrong_words : C8.Cal P w K mg base 2 "_law_wrong_words" (spWrong K) []) :
    FnOk P w K mg base CX0 3 f fd ["content"] (spOwnWrong K) := by
  refine F.ok sc_l_own_wrong (fun vs H Q E h => ?_) (fun cdv A outer s H vs Q E hr h => ?_)
  · obtain ⟨x, rfl, _⟩ := h
    rfl
  · obtain ⟨x, rfl, hx, kk⟩ := h
    refine ⟨_, (pss_cons (ps_set (i := 1) sc_l_own_wrong.nd rfl (.inl rfl) (C8.pe_c c_l_lines hr (by omega) (by rfl) (pa_cons (pv 0) pa_nil)))
      (pss_cons (ps_for PassesOwn.never rfl (pi_range1 (by rfl) T.range (pa_cons (pe_callB call_len_seq (by rfl) T.len PySem.boot_len (pa_cons (pv 1) pa_nil)) pa_nil)) (pg_name (i := 2) sc_l_own_wrong.nd rfl (.inl rfl))
      (pss_one (ps_if (pt_cmpR op_ne (pe_ix ix_list (pv 1) (pv 2) (fun _ _ => rfl)) pe_str (nomark _))
        (pss_cons (ps_set (i := 3) sc_l_own_wrong.nd rfl (.inl rfl) (C8.pe_c c_l_parts hr (by omega) (by rfl) (pa_cons (pe_ix ix_list (pv 1) (pv 2) (fun _ _ => rfl)) pa_nil)))
          (C8.pss_cut (ps_if (PW.pt (pw_or (pt_cmp (pc_isN (pv 3))) (pw_or (pt_not (pt_chain op_le op_le pe_int (pe_callB call_len_seq (by rfl) T.len PySem.boot_len (pa_cons (pv 3) pa_nil)) pe_int)) (pw_or (pt_cmpR op_ne (pe_ix ix_list (pv 3) pe_int (fun _ _ => rfl)) pe_str (nomark _)) (pw_or1 (PW.pt (pw_and (pt_cmpR op_ne (pe_ix ix_list (pv 3) pe_int (fun _ _ => rfl)) pe_str (nomark _)) (pw_and1 (pt_not (pt_val (C8.pe_c c_l_is_path hr (by omega) (by rfl) (pa_cons (pe_ix ix_list (pv 3) pe_int (fun _ _ => rfl)) pa_nil))))))))))))
          (pss_one (ps_ret (pe_op op_add (pv 2) pe_int)))
          pss_nil)
          (pss_one (ps_if (PW.pt (pw_or (pt_cmpR op_notIn_seq (pe_ix ix_list (pv 3) pe_int (fun _ _ => rfl)) (pe_lst (pa_strs rfl)) (by rfl)) (pw_or (pt_val (C8.pe_c c_l_wrong_words hr (by omega) (by rfl) (pa_cons (pe_slice sl_list (pv 3) (po_some pe_int) po_none) pa_nil))) (pw_or1 (pt_cmpR op_lt (pe_callB call_lenD (by rfl) T.len PySem.boot_len (pa_cons (pe_callTy (call_dictP rfl) (by rfl) T.dict (by decide +kernel) (pa_cons (pe_lc (own := [("one", 4)]) (g := gName 4) (tt := tYes) rfl sc_l_own_wrong.nd (pi_list (pe_slice sl_list (pv 3) (po_some pe_int) po_none)) (blkOk_by (N := ["content", "rows", "k", "parts", "one"]) (sc := defScope s_l_own_wrong) (by decide +kernel)) (fun _ _ _ _ _ => (pg_name (i := 4) sc_l_own_wrong.nd rfl (.inl rfl))) (fun _ _ _ _ _ => pts_nil) (fun _ _ _ _ _ => (pe_tup (pa_cons (pv 4) (pa_cons pe_int pa_nil))))) pa_nil)) pa_nil)) (pe_op op_sub (pe_callB call_len_seq (by rfl) T.len PySem.boot_len (pa_cons (pv 3) pa_nil)) pe_int) (nomark _))))))
          (pss_one (ps_ret (pe_op op_add (pv 2) pe_int)))
          pss_nil))))
        pss_nil)))
      (pss_one (ps_ret pe_non)))), ?_⟩
    refine st_seq (st_asg ?_)
    refine ⟨_, rfl, x, rfl, hx, fun rp H1 s1 hrp rp1 => st_g ?_⟩
    dsimp only
    have ll := linesL_len x
    have sl := PyProof.Rows.split_le x "\n"
    have lx : ∀ l ∈ linesL x, l.length ≤ 1000 := fun l hl => Nat.le_trans (PyProof.Rows.part_short (linesL_mem hl)) hx
    generalize linesL x = ls at rp1 ll lx kk
    replace rp1 : H1 rp = some (.lst (ls.map V.str)) := rp1
    refine st_seq ?_
    refine ⟨_, rfl, rp, _, rfl, .inl (SqL.of rp1), ?_⟩
    refine ⟨(ls.map V.str).length, rfl, (rng_ok2 (by rw [List.length_map]; omega)).1, (rng_ok2 (by rw [List.length_map]; omega)).2, for_range (n := (ls.map V.str).length) (fun i σ H2 => ∃ (k2 k3 : Option V), σ = [some (.str x), some (.ref rp), k2, k3, none] ∧ Same H1 H2 ∧ ownBad ls 0 = ownBad (ls.drop i) i)
      ⟨_, _, rfl, Same.refl _, rfl⟩ ?_ ?_⟩
    · rintro i σ H2 hi ⟨k2, k3, rfl, s2, eq⟩
      rw [List.length_map] at hi
      have hl : ls[i]? = some ls[i] := List.getElem?_eq_getElem hi
      rw [List.drop_eq_getElem_cons hi] at eq
      have lm := lx _ (List.getElem_mem hi)
      generalize ls[i] = l at hl eq lm
      have eq2 : ownBad (l :: ls.drop (i + 1)) i = if l = "" then ownBad (ls.drop (i + 1)) (i + 1) else if (apprP (Txt.split l " ")).isNone = true then some (i + 1) else ownBad (ls.drop (i + 1)) (i + 1) := rfl
      rw [eq2] at eq
      have rp2 := s2 _ _ rp1
      have at_ : atI (ls.map V.str) (i : Int) = some (.str l) := atI_nat (by rw [List.getElem?_map, hl]; rfl)
      refine st_g ?_
      rw [Int.zero_add]
      dsimp only
      refine ⟨_, rfl, _, rfl, rp, _, _, _, rfl, rfl, SqL.of rp2, at_, rfl, _, rfl, ?_⟩
      by_cases c0 : l = ""
      · rw [decide_eq_true (show V.str l = V.str "" by rw [c0])]
        rw [if_pos c0] at eq
        exact iteF ⟨_, _, rfl, s2, eq⟩
      rw [decide_eq_false (show V.str l ≠ V.str "" from fun e => c0 (V.str.inj e))]
      rw [if_neg c0] at eq
      refine iteT ?_
      refine st_seq (st_asg ?_)
      refine ⟨_, rfl, _, rfl, rp, _, _, _, rfl, rfl, SqL.of rp2, at_, l, rfl, lm, fun pl H3 s3 hpl p3 => st_g ?_⟩
      dsimp only
      have s03 : Same H1 H3 := fun b o e => s3 b o (s2 b o e)
      have sp := PyProof.Rows.split_le l " "
      have px : ∀ y ∈ Txt.split l " ", y.length ≤ 1000 := fun y hy => Nat.le_trans (PyProof.Rows.part_short hy) lm
      generalize Txt.split l " " = ps at p3 eq sp px
      replace p3 : H3 pl = some (.lst (ps.map V.str)) := p3
      have bad : ∀ H4, Same H1 H4 → apprP ps = none → Q (.int ((i : Int) + 1)) H4 := fun H4 s4 e => by
        have := kk H4 fun b o z => s4 b o (s1 b o z)
        rw [e] at eq
        rw [eq] at this
        exact this
      have lx2 : ∀ i, i < ps.length → (ps.getD i "").length ≤ 1000 := fun i hi => by
        rw [List.getD_eq_getElem?_getD, List.getElem?_eq_getElem hi]
        exact px _ (List.getElem_mem hi)
      by_cases ce : ("" : Str) ∈ ps
      · rw [if_pos ce]
        refine ⟨fun _ _ => False, ?_, fun _ _ h => h.elim⟩
        exact ⟨_, rfl, _, rfl, iteT ⟨_, rfl, _, _, rfl, rfl, bad H3 s03 (empty_bad ce)⟩⟩
      rw [if_neg ce]
      refine ⟨fun σ' H4 => σ' = [some (.str x), some (.ref rp), some (.int (i : Int)), some (.ref pl), none] ∧ Same H3 H4 ∧ ps.getD 0 "" = "own" ∧ 4 ≤ ps.length ∧ ps.length ≤ 9 ∧ (ps.getD 1 "" = "all/" ∨ pathB (ps.getD 1 "") = true), ?_, ?_⟩
      · refine ⟨_, rfl, _, rfl, iteF ?_⟩
        refine ⟨_, rfl, pl, _, rfl, .inl (SqL.of p3), _, _, rfl, rfl, _, rfl, ite2 (fun z1 => ?_) (fun z1 => ?_)⟩
        · have z1 := of_decide_eq_true z1
          rw [List.length_map] at z1
          refine ⟨_, _, rfl, rfl, _, rfl, ?_⟩
          rw [List.length_map]
          by_cases h2 : (ps.length : Int) ≤ 9
          · rw [decide_eq_true h2]
            refine iteF ?_
            refine ⟨_, rfl, pl, _, 0, _, rfl, rfl, SqL.of p3, at_str (i := 0) (by omega), rfl, _, rfl, ?_⟩
            by_cases c1 : ps.getD 0 "" = "own"
            · rw [decide_eq_true (show V.str (ps.getD 0 "") = V.str "own" by rw [c1])]
              refine iteF ?_
              refine ⟨_, rfl, pl, _, 1, _, rfl, rfl, SqL.of p3, at_str (i := 1) (by omega), rfl, _, rfl, ?_⟩
              by_cases c2 : ps.getD 1 "" = "all/"
              · rw [decide_eq_true (show V.str (ps.getD 1 "") = V.str "all/" by rw [c2])]
                exact iteF ⟨rfl, Same.refl _, c1, by omega, by omega, .inl c2⟩
              · rw [decide_eq_false (show V.str (ps.getD 1 "") ≠ V.str "all/" from fun e => c2 (V.str.inj e))]
                refine iteT ⟨_, rfl, pl, _, 1, _, rfl, rfl, SqL.of p3, at_str (i := 1) (by omega), _, rfl, lx2 1 (by omega), fun H4 s4 => ⟨_, rfl, ?_⟩⟩
                cases e : pathB (ps.getD 1 "") with
                | false =>
                  refine iteT ⟨_, rfl, _, _, rfl, rfl, bad H4 (fun b o z => s4 b o (s03 b o z)) ?_⟩
                  unfold apprP
                  rw [if_pos ⟨c1, by omega, by omega⟩, if_neg fun h => h.elim c2 fun z => by rw [e] at z; cases z]
                | true => exact iteF ⟨rfl, s4, c1, by omega, by omega, .inr rfl⟩
            · rw [decide_eq_false (show V.str (ps.getD 0 "") ≠ V.str "own" from fun e => c1 (V.str.inj e))]
              refine iteT ⟨_, rfl, _, _, rfl, rfl, bad H3 s03 ?_⟩
              unfold apprP
              rw [if_neg fun h => c1 h.1]
          · rw [decide_eq_false h2]
            refine iteT ⟨_, rfl, _, _, rfl, rfl, bad H3 s03 ?_⟩
            unfold apprP
            rw [if_neg fun h => h2 (by omega)]
        · refine ⟨_, rfl, iteT ⟨_, rfl, _, _, rfl, rfl, bad H3 s03 ?_⟩⟩
          unfold apprP
          rw [if_neg fun h => z1 (decide_eq_true (by rw [List.length_map]; omega))]
      rintro σ' H4 ⟨rfl, s4, c1, c4, c9, c2⟩
      have s04 : Same H1 H4 := fun b o z => s4 b o (s03 b o z)
      have p4 := s4 _ _ p3
      have dl : (ps.drop 3).length = ps.length - 3 := List.length_drop ..
      have o1 : apprP ps = if 0 ≤ digitP (ps.getD 2 "") ∧ digitP (ps.getD 2 "") ≤ 3 then
          if (ps.drop 3).all wordB = true ∧ (ps.drop 3).Nodup then some (ps.getD 1 "", digitP (ps.getD 2 ""), ps.drop 3) else none
        else none := by
        unfold apprP
        rw [if_pos ⟨c1, c4, c9⟩, if_pos c2]
      refine ⟨_, rfl, pl, _, 2, _, rfl, rfl, SqL.of p4, at_str (i := 2) (by omega), (by show 4 ≤ sizeLine; decide), fun q hq => ⟨q, _, rfl, .inl (SqL.of upd_same), rfl, flat_strs ["0", "1", "2", "3"], _, rfl, ?_⟩⟩
      show if (!inV (.str (ps.getD 2 "")) ((["0", "1", "2", "3"] : List Str).map V.str)) = true then _ else _
      rw [inV_strs]
      have s5 : Same H4 (upd H4 q (.lst ((["0", "1", "2", "3"] : List Str).map V.str))) := Same.new hq
      generalize upd H4 q (.lst ((["0", "1", "2", "3"] : List Str).map V.str)) = H5 at s5 ⊢
      have s05 : Same H1 H5 := fun b o z => s5 b o (s04 b o z)
      have p5 := s5 _ _ p4
      by_cases c3 : ps.getD 2 "" ∈ (["0", "1", "2", "3"] : List Str)
      case neg =>
        rw [decide_eq_false c3]
        refine iteT ⟨_, rfl, _, _, rfl, rfl, bad H5 s05 ?_⟩
        rw [o1, if_neg fun h => c3 ((digit3 _).mpr h)]
      rw [decide_eq_true c3]
      rw [if_pos ((digit3 _).mp c3)] at o1
      refine iteF ?_
      refine ⟨_, rfl, _, rfl, pl, _, rfl, SqL.of p5, fun q2 hq2 => ?_⟩
      rw [show cutV (ps.map V.str) (some 3) none = (ps.drop 3).map V.str from cut_drop ps 3]
      have s6 : Same H5 (upd H5 q2 (.lst ((ps.drop 3).map V.str))) := Same.new hq2
      have q6 : upd H5 q2 (.lst ((ps.drop 3).map V.str)) q2 = some (.lst ((ps.drop 3).map V.str)) := upd_same
      generalize upd H5 q2 (.lst ((ps.drop 3).map V.str)) = H6 at s6 q6 ⊢
      refine ⟨q2, ps.drop 3, rfl, q6, by omega, fun y hy => by have := px y (List.mem_of_mem_drop hy); omega, fun H7 s7 => ⟨_, rfl, ?_⟩⟩
      have s07 : Same H1 H7 := fun b o z => s7 b o (s6 b o (s05 b o z))
      have p7 := s7 _ _ (s6 _ _ p5)
      have wa : ((ps.drop 3).any fun y => !wordB y) = !(ps.drop 3).all wordB := by
        rw [Bool.eq_iff_iff]
        simp
      rw [wa]
      cases cw : (ps.drop 3).all wordB with
      | false =>
        refine iteT ⟨_, rfl, _, _, rfl, rfl, bad H7 s07 ?_⟩
        rw [o1, if_neg fun h => by rw [cw] at h; cases h.1]
      | true =>
        refine iteF ?_
        refine ⟨_, rfl, _, rfl, pl, _, rfl, SqL.of p7, fun q3 hq3 => ?_⟩
        rw [show cutV (ps.map V.str) (some 3) none = (ps.drop 3).map V.str from cut_drop ps 3]
        have s8 : Same H7 (upd H7 q3 (.lst ((ps.drop 3).map V.str))) := Same.new hq3
        have q8 : upd H7 q3 (.lst ((ps.drop 3).map V.str)) q3 = some (.lst ((ps.drop 3).map V.str)) := upd_same
        generalize upd H7 q3 (.lst ((ps.drop 3).map V.str)) = H8 at s8 q8 ⊢
        refine ⟨q3, rfl, ⟨_, SqL.of q8⟩, fun D hD => lc_ones (fun _ => rfl) (fun _ => rfl) q8 (by omega) hD fun H9 pa s9 e9 pr => ?_⟩
        refine ⟨D, pa, _, rfl, SqL.of e9, pr, fun du hdu => ?_⟩
        rw [show mergeK [] (kvG (fun _ : Unit => V.int 1) ((ps.drop 3).map fun x => (x, ()))) = kvG (fun _ : Unit => V.int 1) (mergeF [] ((ps.drop 3).map fun x => (x, ()))) from mergeK_F _ _ []]
        have ml := (merge_unlike (ps.drop 3) _ (Nat.le_refl _)).1
        rw [List.take_length] at ml
        have p9 := s9 _ _ (s8 _ _ p7)
        have s10 : Same H9 (upd H9 du (.dK (kvG (fun _ : Unit => V.int 1) (mergeF [] ((ps.drop 3).map fun x => (x, ())))))) := Same.new hdu
        have p10 := s10 _ _ p9
        have s010 : Same H1 (upd H9 du (.dK (kvG (fun _ : Unit => V.int 1) (mergeF [] ((ps.drop 3).map fun x => (x, ())))))) := fun b o z => s10 b o (s9 b o (s8 b o (s07 b o z)))
        refine ⟨du, _, rfl, upd_same, ?_⟩
        generalize upd H9 du (.dK (kvG (fun _ : Unit => V.int 1) (mergeF [] ((ps.drop 3).map fun x => (x, ()))))) = H10 at p10 s010 ⊢
        refine ⟨_, rfl, pl, _, rfl, .inl (SqL.of p10), _, _, rfl, rfl, _, _, rfl, rfl, _, rfl, ?_⟩
        have kl : (kvG (fun _ : Unit => V.int 1) (mergeF [] ((ps.drop 3).map fun x => (x, ())))).length = unlike (ps.drop 3) (ps.drop 3).length := by
          unfold kvG
          rw [List.length_map, ml]
        rw [kl, List.length_map]
        have ul := unlike_lt (ps.drop 3) _ (Nat.le_refl _)
        have le := unlike_le (ps.drop 3) (ps.drop 3).length
        rw [List.take_length] at ul
        by_cases nd : (ps.drop 3).Nodup
        · rw [decide_eq_false (show ¬ ((unlike (ps.drop 3) (ps.drop 3).length : Nat) : Int) < (ps.length : Int) - 3 by rw [ul.mpr nd]; omega)]
          rw [if_pos ⟨cw, nd⟩] at o1
          rw [o1] at eq
          exact iteF ⟨_, _, rfl, s010, eq⟩
        · rw [decide_eq_true (show ((unlike (ps.drop 3) (ps.drop 3).length : Nat) : Int) < (ps.length : Int) - 3 by
            have : unlike (ps.drop 3) (ps.drop 3).length ≠ (ps.drop 3).length := fun z => nd (ul.mp z)
            omega)]
          refine iteT ⟨_, rfl, _, _, rfl, rfl, bad _ s010 ?_⟩
          rw [o1, if_neg fun h => nd h.2]
    · rintro σ H2 ⟨k2, k3, rfl, s2, eq⟩
      rw [List.length_map, List.drop_length] at eq
      have := kk H2 fun b o z => s2 b o (s1 b o z)
      rw [eq] at this
      exact this
end
end Kl

namespace Kl
open PySem L2 Kd Kx
/-! the law's lines that touch -/
def flt (ps : List Str) (rows : List Row) : List Appr := (rows.filterMap apprOf).filter (touchedB ps)
theorem flt_append (ps : List Str) (a b : List Row) : flt ps (a ++ b) = flt ps a ++ flt ps b := by
  unfold flt
  rw [List.filterMap_append, List.filter_append]
theorem rowsFrom_append (path : Str) : ∀ (a b : List Str) (k : Nat), rowsFrom path (a ++ b) k = rowsFrom path a k ++ rowsFrom path b (k + a.length)
  | [], b, k => rfl
  | x :: a, b, k => by
    rw [List.cons_append, rowsFrom, rowsFrom, rowsFrom_append path a b (k + 1), List.append_assoc, List.length_cons]
    congr 3
    omega
/-- the empty last line tells nothing -/
theorem lines_L (path c : Str) : linesP path c = rowsFrom path (linesL c) 0 := by
  unfold linesP linesL
  split
  · rename_i h
    have ne := split_ne c "\n"
    have e := List.dropLast_concat_getLast ne
    have l : (Txt.split c "\n").getLast ne = "" := by
      rw [List.getLast?_eq_some_getLast ne] at h
      exact Option.some.inj h
    rw [l] at e
    conv => lhs; rw [← e]
    rw [rowsFrom_append]
    simp [rowsFrom, rowOf]
  · rfl
theorem tells_own (path : Str) : tellsB "own/rules" path = decide (path = "own/rules") := by
  unfold tellsB
  have : Txt.endswith "own/rules" "/" = false := by decide +kernel
  rw [this]
  simp
theorem toldP_append (start : Str) : ∀ a b : Fs, toldP start (a ++ b) = toldP start a ++ toldP start b
  | [], b => rfl
  | q :: a, b => by
    rw [List.cons_append, toldP, toldP, toldP_append start a b, List.append_assoc]
theorem apprP_eq {ps : List Str} {a : Str × Int × List Str} (h : apprP ps = some a) : a = (ps.getD 1 "", digitP (ps.getD 2 ""), ps.drop 3) ∧ 4 ≤ ps.length ∧ 0 ≤ digitP (ps.getD 2 "") ∧ digitP (ps.getD 2 "") ≤ 3 := by
  unfold apprP at h
  split at h
  · rename_i c
    split at h
    · split at h
      · rename_i c3
        split at h
        · exact ⟨(Option.some.inj h).symm, c.2.1, c3.1, c3.2⟩
        · cases h
      · cases h
    · cases h
  · cases h
theorem digit_text {t : Str} (h : 0 ≤ digitP t ∧ digitP t ≤ 3) : intText? t = some (digitP t) := by
  have m := (digit3 t).mpr h
  have e : ∀ t ∈ (["0", "1", "2", "3"] : List Str), intText? t = some (digitP t) := by decide +kernel
  exact e t m
def spOwnLines (_ : PySem.W.Frag) : Sp := fun vs H Q _ => ∃ (v : V) (pp : Addr) (fs : Fs) (ps : List Str), vs = [v, .ref pp] ∧ Rep H (filesD fs) v ∧ Strs H pp ps ∧ Short fs ∧ AllR fs ∧ (∀ p ∈ ps, p.length ≤ 1000) ∧ ps.length ≤ 1000 ∧
  ∀ (L : Addr) (ws : List V) (H' : Hp), Same H H' → H L = none → H' L = some (.lst ws) → Reps H' ((flt ps (rowsOf fs)).map lineD) ws → Q (.ref L) H'
section
variable {P : Program} {w : World} {K : PySem.W.Frag} {mg : Str → Option Value} {base : Heap}
abbrev s_l_own_lines : Stmt := topS 73
theorem sc_l_own_lines : FnScope ["files", "paths", "made", "one", "rows", "k", "parts", "path"] ["files", "paths"] (defScope s_l_own_lines) := ⟨rfl, rfl, rfl, by decide +kernel, rfl, by decide +kernel, by decide +kernel⟩
theorem ok_l_own_lines {f : Addr} {fd : FuncData} (F : Fun K "_law_own_lines" "_law_own_lines" s_l_own_lines f fd) (T : Glo mg) (c_l_lines : C8.Cal P w K mg base 1 "_law_lines" (spLines K) []) (c_l_touches : C8.Cal P w K mg base 1 "_law_touches" (spTouch K) []) :
    FnOk P w K mg base CX0 2 f fd ["files", "paths"] (spOwnLines K) := by
  refine F.ok sc_l_own_lines (fun vs H Q E h => ?_) (fun cdv A outer s H vs Q E hr h => ?_)
  · obtain ⟨v, pp, fs, ps, rfl, _⟩ := h
    rfl
  · obtain ⟨v, pp, fs, ps, rfl, hf, hpp, sf, all, px, pl, kk⟩ := h
    refine ⟨_, (pss_cons (ps_set (i := 2) sc_l_own_lines.nd rfl (.inl rfl) (pe_lst pa_nil))
      (pss_cons (ps_for PassesOwn.never rfl (pi_tup (pv 0)) (pg_name (i := 3) sc_l_own_lines.nd rfl (.inl rfl))
      (pss_one (ps_if (pt_cmpR op_eq (pe_ix ix_tup (pv 3) pe_int (fun _ _ => rfl)) pe_str (nomark _))
        (pss_cons (ps_set (i := 4) sc_l_own_lines.nd rfl (.inl rfl) (C8.pe_c c_l_lines hr (by omega) (by rfl) (pa_cons (pe_ix ix_tup (pv 3) pe_int (fun _ _ => rfl)) pa_nil)))
          (pss_one (ps_for PassesOwn.never rfl (pi_range1 (by rfl) T.range (pa_cons (pe_callB call_len_seq (by rfl) T.len PySem.boot_len (pa_cons (pv 4) pa_nil)) pa_nil)) (pg_name (i := 5) sc_l_own_lines.nd rfl (.inl rfl))
          (pss_one (ps_if (pt_cmpR op_ne (pe_ix ix_list (pv 4) (pv 5) (fun _ _ => rfl)) pe_str (nomark _))
            (pss_cons (ps_set (i := 6) sc_l_own_lines.nd rfl (.inr rfl) (pe_split (pe_ix ix_list (pv 4) (pv 5) (fun _ _ => rfl)) pe_str))
              (pss_one (ps_if (pt_cmpR op_gt (pe_callB call_len_seq (by rfl) T.len PySem.boot_len (pa_cons (pe_lc (own := [("path", 7)]) (g := gName 7) (tt := _) rfl sc_l_own_lines.nd (pi_list (pv 1)) (blkOk_by (N := ["files", "paths", "made", "one", "rows", "k", "parts", "path"]) (sc := defScope s_l_own_lines) (by decide +kernel)) (fun _ _ _ _ _ => (pg_name (i := 7) sc_l_own_lines.nd rfl (.inl rfl))) (fun _ _ _ _ _ => (pts_one (pt_val (C8.pe_c c_l_touches hr (by omega) (by rfl) (pa_cons (pe_ix (r := rIxL K) ix_list (pv 6) pe_int (fun _ _ => rfl)) (pa_cons (pv 7) pa_nil)))))) (fun _ _ _ _ _ => (pv 7))) pa_nil)) pe_int (nomark _))
              (pss_one (ps_expr (pe_bm PySem.F.plainAttrs_list PySem.F.slot_list_append PySem.F.type_list_append mt_append (pv 2) (pa_cons (pe_tup (pa_cons (pe_op op_add (pv 5) pe_int) (pa_cons (pe_callTy call_int_str (by rfl) T.int PyProof.Rows.boot_int (pa_cons (pe_ix ix_list (pv 6) pe_int (fun _ _ => rfl)) pa_nil)) (pa_cons (pe_callTy call_tuple_of (by rfl) T.tuple PyProof.Rows.boot_tuple (pa_cons (pe_slice sl_list (pv 6) (po_some pe_int) po_none) pa_nil)) pa_nil)))) pa_nil))))
              pss_nil)))
            pss_nil)))))
        pss_nil)))
      (pss_one (ps_ret (pv 2))))), ?_⟩
    obtain ⟨ft, fvs, rfl, hft, hfz, hfs⟩ := id hf
    have fl := hfs.len
    rw [List.length_map] at fl
    refine st_seq (st_asg ?_)
    refine ⟨(by show 0 ≤ sizeLine; decide), fun D hD => st_g ?_⟩
    dsimp only
    have s1 : Same H (upd H D (.lst [])) := Same.new hD
    have d1 : upd H D (.lst []) D = some (.lst []) := upd_same
    generalize upd H D (.lst []) = H1 at s1 d1 ⊢
    have sd : ∀ {H2 : Hp} {o : HO}, Same H H2 → Same H (upd H2 D o) := fun s => Same.mut s hD
    have tl : (toldP "own/rules" fs).length ≤ 60 * 1002 := Nat.le_trans (toldP_len "own/rules" fs sf.ct) (Nat.mul_le_mul_right _ sf.few)
    refine st_seq ?_
    refine ⟨_, rfl, ft, rfl, ⟨_, .inl (Rd.same s1 hft)⟩, for_tup (K := K) (a := ft) (xs := fvs) (fun i σ H2 => ∃ (k3 k4 k5 k6 : Option V) (ws : List V), σ = [some (.ref ft), some (.ref pp), some (.ref D), k3, k4, k5, k6, none] ∧ Same H H2 ∧ H2 D = some (.lst ws) ∧ Reps H2 ((flt ps (toldP "own/rules" (fs.take i))).map lineD) ws)
      ⟨_, _, _, _, [], rfl, s1, d1, rfl⟩ (fun i σ H2 _ ⟨_, _, _, _, _, _, z, _⟩ => .inl (Rd.same z hft)) ?_ ?_⟩
    · rintro i x σ H2 hx ⟨k3, k4, k5, k6, ws, rfl, s2, d2, rp2⟩
      have hil : i < fs.length := by
        have := (List.getElem?_eq_some_iff.mp hx).1
        omega
      have hq : fs[i]? = some fs[i] := List.getElem?_eq_getElem hil
      obtain ⟨v, hv, hrep⟩ := hfs.get (i := i) (d := pairD fs[i]) (by rw [List.getElem?_map, hq]; rfl)
      obtain rfl : v = x := Option.some.inj (hv.symm.trans hx)
      obtain ⟨t, rfl, ht⟩ := pair_of (hrep.keep (Same.tk s2))
      have cl := sf.ct _ (List.getElem_mem hil)
      have sn := toldP_snoc "own/rules" fs i _ hq
      have sub : ∀ r ∈ toldP "own/rules" (fs.take (i + 1)), r ∈ toldP "own/rules" fs := fun r hr => by
        rw [← List.take_append_drop (i + 1) fs, toldP_append]
        exact List.mem_append_left _ hr
      generalize fs[i] = q at hq ht cl sn
      refine st_g ?_
      dsimp only
      refine ⟨_, rfl, t, _, 0, _, rfl, rfl, .inl ht, rfl, rfl, _, rfl, ?_⟩
      by_cases c0 : q.1 = "own/rules"
      case neg =>
        rw [decide_eq_false (show V.str q.1 ≠ V.str "own/rules" from fun e => c0 (V.str.inj e))]
        refine iteF ⟨_, _, _, _, ws, rfl, s2, d2, ?_⟩
        rw [sn, tells_own, decide_eq_false c0]
        simpa using rp2
      rw [decide_eq_true (show V.str q.1 = V.str "own/rules" by rw [c0])]
      rw [tells_own, decide_eq_true c0, if_pos rfl, lines_L] at sn
      refine iteT ?_
      refine st_seq (st_asg ?_)
      refine ⟨_, rfl, t, _, 1, _, rfl, rfl, .inl ht, rfl, q.2, rfl, cl, fun rp H3 s3 hrp r3 => st_g ?_⟩
      dsimp only
      have rD : rp ≠ D := fun z => by
        rw [z, d2] at hrp
        cases hrp
      have ll := linesL_len q.2
      have sl := PyProof.Rows.split_le q.2 "\n"
      have lx : ∀ l ∈ linesL q.2, l.length ≤ 1000 := fun l hl => Nat.le_trans (PyProof.Rows.part_short (linesL_mem hl)) cl
      have allr : ∀ r ∈ rowsFrom q.1 (linesL q.2) 0, apprP r.2.2 ≠ none := fun r hr => all r (sub r (by rw [sn]; exact List.mem_append_right _ hr))
      have wl0 := rp2.len
      rw [List.length_map] at wl0
      have fl0 : (flt ps (toldP "own/rules" (fs.take i))).length ≤ 60 * 1002 := by
        unfold flt
        refine Nat.le_trans (List.length_filter_le ..) (Nat.le_trans (List.length_filterMap_le ..) ?_)
        refine Nat.le_trans (toldP_len "own/rules" (fs.take i) fun z hz => sf.ct z (List.mem_of_mem_take hz)) (Nat.mul_le_mul_right _ ?_)
        rw [List.length_take]
        have := sf.few
        omega
      generalize toldP "own/rules" (fs.take i) = T0 at sn rp2 fl0 wl0
      generalize linesL q.2 = ls at r3 ll lx allr sn
      replace r3 : H3 rp = some (.lst (ls.map V.str)) := r3
      have s03 : Same H H3 := fun b o z => s3 b o (s2 b o z)
      have d3 := s3 _ _ d2
      have rp3 := rp2.keep (Same.tk s3)
      have rfl_ : ∀ j, (rowsFrom q.1 (ls.take j) 0).length ≤ ls.length := fun j => by
        refine Nat.le_trans (rowsFrom_len ..) ?_
        rw [List.length_take]
        omega
      refine ⟨_, rfl, rp, _, rfl, .inl (SqL.of r3), ?_⟩
      refine ⟨(ls.map V.str).length, rfl, (rng_ok2 (by rw [List.length_map]; omega)).1, (rng_ok2 (by rw [List.length_map]; omega)).2, for_range (n := (ls.map V.str).length) (fun j σ H4 => ∃ (k5 k6 : Option V) (ws : List V), σ = [some (.ref ft), some (.ref pp), some (.ref D), some (.ref t), some (.ref rp), k5, k6, none] ∧ Same H H4 ∧ H4 rp = some (.lst (ls.map V.str)) ∧ H4 D = some (.lst ws) ∧ Reps H4 ((flt ps (T0 ++ rowsFrom q.1 (ls.take j) 0)).map lineD) ws)
        ⟨_, _, ws, rfl, s03, r3, d3, by simpa [rowsFrom] using rp3⟩ ?_ ?_⟩
      · rintro j σ H4 hj ⟨k5, k6, ws, rfl, s4, r4, d4, rp4⟩
        rw [List.length_map] at hj
        have hl : ls[j]? = some ls[j] := List.getElem?_eq_getElem hj
        have snj := rowsFrom_snoc q.1 ls j 0 _ hl
        have lm := lx _ (List.getElem_mem hj)
        have inr : ∀ r ∈ rowOf q.1 ls[j] (0 + j), apprP r.2.2 ≠ none := fun r hr => by
          refine allr r ?_
          have e := List.take_append_drop (j + 1) ls
          rw [← e, rowsFrom_append, snj]
          exact List.mem_append_left _ (List.mem_append_right _ hr)
        generalize ls[j] = l at hl lm snj inr
        have at_ : atI (ls.map V.str) (j : Int) = some (.str l) := atI_nat (by rw [List.getElem?_map, hl]; rfl)
        have wl := rp4.len
        rw [List.length_map] at wl
        have fl4 : (flt ps (T0 ++ rowsFrom q.1 (ls.take j) 0)).length ≤ 60 * 1002 + ls.length := by
          rw [flt_append, List.length_append]
          have h1 : (flt ps (rowsFrom q.1 (ls.take j) 0)).length ≤ (rowsFrom q.1 (ls.take j) 0).length := by
            unfold flt
            exact Nat.le_trans (List.length_filter_le ..) (List.length_filterMap_le ..)
          have := rfl_ j
          omega
        refine st_g ?_
        rw [Int.zero_add]
        dsimp only
        refine ⟨_, rfl, _, rfl, rp, _, _, _, rfl, rfl, SqL.of r4, at_, rfl, _, rfl, ?_⟩
        by_cases c1 : l = ""
        case pos =>
          rw [decide_eq_true (show V.str l = V.str "" by rw [c1])]
          refine iteF ⟨_, _, ws, rfl, s4, r4, d4, ?_⟩
          rw [snj]
          unfold rowOf
          rw [if_pos c1, List.append_nil]
          exact rp4
        rw [decide_eq_false (show V.str l ≠ V.str "" from fun e => c1 (V.str.inj e))]
        refine iteT ?_
        refine st_seq (st_asg ?_)
        refine ⟨_, rfl, _, rfl, rp, _, _, _, rfl, rfl, SqL.of r4, at_, ⟨_, rfl⟩, l, " ", rfl, rfl, by decide +kernel, small_of (by omega), fun pl0 hpl0 => st_g ?_⟩
        dsimp only
        have er : rowOf q.1 l (0 + j) = [(q.1, 0 + j + 1, Txt.split l " ")] := by
          unfold rowOf
          rw [if_neg c1]
        rw [er] at snj inr
        have ar := inr _ (List.mem_cons_self ..)
        obtain ⟨a, ea⟩ : ∃ a, apprP (Txt.split l " ") = some a := by
          cases e : apprP (Txt.split l " ") with
          | none => exact absurd e ar
          | some a => exact ⟨a, rfl⟩
        have pc : ∀ y ∈ Txt.split l " ", y.length ≤ 1000 := fun y hy => Nat.le_trans (PyProof.Rows.part_short hy) lm
        have fe : flt ps [(q.1, 0 + j + 1, Txt.split l " ")] = if touchedB ps (0 + j + 1, a.1, a.2.1, a.2.2) = true then [(0 + j + 1, a.1, a.2.1, a.2.2)] else [] := by
          unfold flt
          have : apprOf (q.1, 0 + j + 1, Txt.split l " ") = some (0 + j + 1, a.1, a.2.1, a.2.2) := by
            unfold apprOf
            rw [ea]
            rfl
          simp only [List.filterMap_cons, this, List.filterMap_nil, List.filter_cons, List.filter_nil]
        have al := apprP_len ea
        generalize Txt.split l " " = pts at ea pc snj fe ⊢
        obtain ⟨rfl, l4, g0, g3⟩ := apprP_eq ea
        have s5 : Same H4 (upd H4 pl0 (.lst (pts.map V.str))) := Same.new hpl0
        have p5 : upd H4 pl0 (.lst (pts.map V.str)) pl0 = some (.lst (pts.map V.str)) := upd_same
        have s05 : Same H (upd H4 pl0 (.lst (pts.map V.str))) := fun b o z => s5 b o (s4 b o z)
        have r5 := s5 _ _ r4
        have d5 := s5 _ _ d4
        have rp5 := rp4.keep (Same.tk s5)
        generalize upd H4 pl0 (.lst (pts.map V.str)) = H5 at s5 p5 s05 r5 d5 rp5 ⊢
        have pp5 := s05 _ _ hpp
        have l1 : (pts.getD 1 "").length ≤ 1000 := by
          rw [List.getD_eq_getElem?_getD, List.getElem?_eq_getElem (by omega : 1 < pts.length)]
          exact pc _ (List.getElem_mem _)
        refine ⟨_, rfl, pp, rfl, ⟨_, SqL.of pp5⟩, fun B hB => lc_list (K := K) (a := pp) (xs := ps.map V.str) (fun m H6 => Same H5 H6 ∧ H6 B = some (.lst (((ps.take m).filter (touchB (pts.getD 1 ""))).map V.str))) ⟨Same.new hB, upd_same⟩ (fun m H6 _ z => SqL.of (z.1 _ _ pp5)) ?_ ?_⟩
        · rintro m y H6 hy ⟨s6, e6⟩
          rw [List.getElem?_map] at hy
          obtain ⟨p, hp, rfl⟩ := Option.map_eq_some_iff.mp hy
          have hm : m < ps.length := (List.getElem?_eq_some_iff.mp hp).1
          refine ⟨rfl, _, rfl, pl0, _, 1, _, rfl, rfl, SqL.of (s6 _ _ p5), at_str (i := 1) (by omega), _, rfl, _, p, rfl, l1, px p (List.mem_of_getElem? hp), _, rfl, ?_⟩
          rw [take_filter hp]
          cases tb : touchB (pts.getD 1 "") p with
          | false => exact iteF ⟨s6, by simpa using e6⟩
          | true =>
            refine iteT ⟨_, rfl, _, e6, ?_, Same.mut s6 hB, ?_⟩
            · rw [List.length_map]
              have := List.length_filter_le (touchB (pts.getD 1 "")) (ps.take m)
              rw [List.length_take] at this
              exact small_lt (by omega)
            · rw [upd_same, List.map_append]
              rfl
        rintro H6 ⟨s6, e6⟩
        rw [List.length_map, List.take_length] at e6
        refine ⟨B, _, rfl, .inl (SqL.of e6), _, _, rfl, rfl, _, rfl, ?_⟩
        have et : decide ((0 : Int) < ((((ps.filter (touchB (pts.getD 1 ""))).map V.str).length : Nat) : Int)) = touchedB ps (0 + j + 1, pts.getD 1 "", digitP (pts.getD 2 ""), pts.drop 3) := by
          rw [Bool.eq_iff_iff, decide_eq_true_eq, List.length_map]
          unfold touchedB
          rw [List.any_eq_true]
          constructor
          · intro h
            obtain ⟨y, hy⟩ := List.exists_mem_of_length_pos (show 0 < (ps.filter (touchB (pts.getD 1 ""))).length by omega)
            exact ⟨y, (List.mem_filter.mp hy).1, (List.mem_filter.mp hy).2⟩
          · rintro ⟨y, hy, h⟩
            have : 0 < (ps.filter (touchB (pts.getD 1 ""))).length := List.length_pos_of_mem (List.mem_filter.mpr ⟨hy, h⟩)
            omega
        rw [et]
        have s06 : Same H H6 := fun b o z => s6 b o (s05 b o z)
        have r6 := s6 _ _ r5
        have d6 := s6 _ _ d5
        have p6 := s6 _ _ p5
        have rp6 := rp5.keep (Same.tk s6)
        rw [snj, flt_append, flt_append, fe]
        rw [flt_append] at rp6 wl fl4
        cases tb : touchedB ps (0 + j + 1, pts.getD 1 "", digitP (pts.getD 2 ""), pts.drop 3) with
        | false =>
          refine iteF ⟨_, _, ws, rfl, s06, r6, d6, ?_⟩
          simpa using rp6
        | true =>
          refine iteT ?_
          refine ⟨_, rfl, .inl ⟨rfl, _, SqL.of d6⟩, _, rfl, _, _, rfl, rfl, _, rfl, pl0, _, 2, _, rfl, rfl, SqL.of p6, at_str (i := 2) (by omega), _, _, rfl, digit_text ⟨g0, g3⟩, ?_, _, rfl, _, rfl, pl0, _, rfl, SqL.of p6, fun q5 hq5 => ?_⟩
          · have m := (digit3 (pts.getD 2 "")).mpr ⟨g0, g3⟩
            have e : ∀ t ∈ (["0", "1", "2", "3"] : List Str), t.length ≤ 640 := by decide +kernel
            exact e _ m
          rw [show cutV (pts.map V.str) (some 3) none = (pts.drop 3).map V.str from cut_drop pts 3]
          refine ⟨q5, _, rfl, .inl ⟨SqL.of upd_same, fun t5 ht5 => ⟨(by show 3 ≤ sizeLine; decide), fun t6 ht6 => ?_⟩⟩⟩
          have s7 : Same H6 (upd H6 q5 (.lst ((pts.drop 3).map V.str))) := Same.new hq5
          generalize upd H6 q5 (.lst ((pts.drop 3).map V.str)) = H7 at s7 ht5 ht6 ⊢
          have s8 : Same H7 (upd H7 t5 (.tup ((pts.drop 3).map V.str))) := Same.new ht5
          have t8 : upd H7 t5 (.tup ((pts.drop 3).map V.str)) t5 = some (.tup ((pts.drop 3).map V.str)) := upd_same
          generalize upd H7 t5 (.tup ((pts.drop 3).map V.str)) = H8 at s8 t8 ht6 ⊢
          have s9 : Same H8 (upd H8 t6 (.tup [.int ((j : Int) + 1), .int (digitP (pts.getD 2 "")), .ref t5])) := Same.new ht6
          have t9 : upd H8 t6 (.tup [.int ((j : Int) + 1), .int (digitP (pts.getD 2 "")), .ref t5]) t6 = some (.tup [.int ((j : Int) + 1), .int (digitP (pts.getD 2 "")), .ref t5]) := upd_same
          generalize upd H8 t6 (.tup [.int ((j : Int) + 1), .int (digitP (pts.getD 2 "")), .ref t5]) = H9 at s9 t9 ⊢
          have s69 : Same H6 H9 := fun b o z => s9 b o (s8 b o (s7 b o z))
          have d9 := s69 _ _ d6
          have rep : Rep H9 (lineD (0 + j + 1, pts.getD 1 "", digitP (pts.getD 2 ""), pts.drop 3)) (.ref t6) := by
            refine ⟨t6, _, rfl, .inl t9, (by show 3 ≤ sizeLine; decide), _, _, rfl, ?_, _, _, rfl, rfl, _, _, rfl, ⟨t5, _, rfl, .inl (s9 _ _ t8), ?_, strs_rep _ _⟩, rfl⟩
            · show V.int ((j : Int) + 1) = V.int (((0 + j + 1 : Nat)) : Int)
              rw [show (((0 + j + 1 : Nat)) : Int) = (j : Int) + 1 by omega]
            · rw [List.length_map, sizeLine_eq]
              have : (pts.drop 3).length ≤ 6 := al
              omega
          have wl6 := rp6.len
          rw [List.length_map] at wl6
          refine ⟨D, _, _, rfl, rfl, d9, by rw [sizeLine_eq]; rw [List.length_append] at fl4 wl6; omega, _, _, _, rfl, sd (fun b o z => s69 b o (s06 b o z)), by rw [upd_ne rD]; exact s69 _ _ r6, upd_same, ?_⟩
          rw [if_pos rfl, ← List.append_assoc, List.map_append]
          exact ((rp6.keep (Same.tk s69)).snoc rep).keep (Tk.lst d9)
      · rintro σ H4 ⟨k5, k6, ws, rfl, s4, r4, d4, rp4⟩
        rw [List.length_map, List.take_length] at rp4
        refine ⟨_, _, _, _, ws, rfl, s4, d4, ?_⟩
        rw [sn]
        exact rp4
    · rintro σ H2 ⟨k3, k4, k5, k6, ws, rfl, s2, d2, rp2⟩
      rw [fl, List.take_length] at rp2
      exact ⟨_, rfl, kk D ws H2 s2 hD d2 rp2⟩
end
end Kl

namespace Kl
open PySem L2 Kd Kx
/-! what the law says is approved -/
theorem line_of {H : Hp} {a : Appr} {v : V} (h : Rep H (lineD a) v) : ∃ t nt : Addr, v = .ref t ∧ Rd H t (.tup [.int (a.1 : Int), .int a.2.2.1, .ref nt]) ∧ Rd H nt (.tup (a.2.2.2.map V.str)) := by
  obtain ⟨t, vs, rfl, ht, _, v1, r1, rfl, h1, v3, r3, rfl, h3, v4, r4, rfl, ⟨nt, ns, rfl, hn, _, hs⟩, h5⟩ := h
  obtain rfl : v1 = .int (a.1 : Int) := h1
  obtain rfl : v3 = .int a.2.2.1 := h3
  obtain rfl : r4 = [] := h5
  rw [reps_strs hs] at hn
  exact ⟨t, nt, rfl, ht, hn⟩
theorem byP_skip (O ps : List Str) (i : Nat) (r : List (Nat × Appr)) : ∀ (l : List Appr) (acc : List (Nat × Nat)), byP O ps (l.map (fun a => (i, a)) ++ r) acc = byP O ps ((l.filter (touchedB ps)).map (fun a => (i, a)) ++ r) acc
  | [], _ => rfl
  | a :: l, acc => by
    have ih := byP_skip O ps i r l
    cases tb : touchedB ps a with
    | false =>
      rw [List.filter_cons, tb]
      simp only [List.map_cons, List.cons_append, byP, tb]
      exact ih acc
    | true =>
      rw [List.filter_cons, tb]
      simp only [List.map_cons, List.cons_append, byP, tb, if_true]
      split
      · rfl
      · exact ih _
def spLApproved (_ : PySem.W.Frag) : Sp := fun vs H Q _ => ∃ (u v : V) (g : Addr) (author : Str) (fs gs : Fs) (ns : List Str), vs = [u, v, .str author, .ref g] ∧ Rep H (filesD fs) u ∧ FOk fs ∧ Rep H (filesD gs) v ∧ FOk gs ∧ Short fs ∧ Short gs ∧ AllR fs ∧ AllR gs ∧ Rep H (.tup (ns.map D.str)) (.ref g) ∧ ns.length ≤ 8 ∧
  ∀ (x : V) (ks : List Str) (H' : Hp), Same H H' → Asc ks → (∀ p, p ∈ ks ↔ p ∈ fs.map (·.1) ∨ p ∈ gs.map (·.1)) →
    Rep H' (byP (ns.filter fun n => decide (n ≠ author)) ((betweenL fs gs ks).map (·.1)) (restS (readOf fs) (readOf gs) 0) []) x → Q x H'
section
variable {P : Program} {w : World} {K : PySem.W.Frag} {mg : Str → Option Value} {base : Heap}
abbrev s_l_approved : Stmt := topS 74
theorem sc_l_approved : FnScope ["old", "new", "author", "given", "paths", "asked", "side", "line", "one", "name"] ["old", "new", "author", "given"] (defScope s_l_approved) := ⟨rfl, rfl, rfl, by decide +kernel, rfl, by decide +kernel, by decide +kernel⟩
theorem ok_l_approved {f : Addr} {fd : FuncData} (F : Fun K "_law_approved" "_law_approved" s_l_approved f fd) (T : Glo mg) (c_l_between : C8.Cal P w K mg base 1 "_law_between" (spBetween K) []) (c_l_own_lines : C8.Cal P w K mg base 2 "_law_own_lines" (spOwnLines K) []) :
    FnOk P w K mg base CX0 3 f fd ["old", "new", "author", "given"] (spLApproved K) := by
  refine F.ok sc_l_approved (fun vs H Q E h => ?_) (fun cdv A outer s H vs Q E hr h => ?_)
  · obtain ⟨u, v, g, author, fs, gs, ns, rfl, _⟩ := h
    rfl
  · obtain ⟨u, v, g, author, fs, gs, ns, rfl, hu, fok, hv, gok, sf, sg, af, ag, hg, nl, kk⟩ := h
    refine ⟨_, (pss_cons (ps_setLc (i := 4) (own := [("one", 8)]) (g := gName 8) (tt := tYes) rfl sc_l_approved.nd rfl rfl (sw_true rfl rfl rfl (by decide +kernel)) (pi_tup (C8.pe_c c_l_between hr (by omega) (by rfl) (pa_cons (pv 0) (pa_cons (pv 1) pa_nil)))) (blkOk_by (N := ["old", "new", "author", "given", "paths", "asked", "side", "line", "one", "name"]) (sc := defScope s_l_approved) (by decide +kernel)) (fun _ _ _ _ _ => (pg_name (i := 8) sc_l_approved.nd rfl (.inl rfl))) (fun _ _ _ _ _ => pts_nil) (fun _ _ _ _ _ => (pe_ix (r := rIxT K) ix_tup (pv 8) pe_int (fun _ _ => rfl))))
      (pss_cons (ps_set (i := 5) sc_l_approved.nd rfl (.inl rfl) (pe_lst pa_nil))
      (pss_cons (ps_for PassesOwn.never rfl (pi_range1 (by rfl) T.range (pa_cons pe_int pa_nil)) (pg_name (i := 6) sc_l_approved.nd rfl (.inl rfl))
      (pss_one (ps_for PassesOwn.never rfl (pi_list (C8.pe_c c_l_own_lines hr (by omega) (by rfl) (pa_cons (pe_ix ix_list (pe_lst (pa_cons (pv 0) (pa_cons (pv 1) pa_nil))) (pv 6) (fun _ _ => rfl)) (pa_cons (pv 4) pa_nil)))) (pg_name (i := 7) sc_l_approved.nd rfl (.inl rfl))
        (pss_cons (ps_if (pt_cmpR op_lt (pe_callB call_len_seq (by rfl) T.len PySem.boot_len (pa_cons (pe_lc (own := [("name", 9)]) (g := gName 9) (tt := _) rfl sc_l_approved.nd (pi_tup (pe_ix ix_tup (pv 7) pe_int (fun _ _ => rfl))) (blkOk_by (N := ["old", "new", "author", "given", "paths", "asked", "side", "line", "one", "name"]) (sc := defScope s_l_approved) (by decide +kernel)) (fun _ _ _ _ _ => (pg_name (i := 9) sc_l_approved.nd rfl (.inl rfl))) (fun _ _ _ _ _ => (pts_one (PW.pt (pw_and (pt_cmpR (r := rIn K false) op_in_seq (pv 9) (pv 3) (by rfl)) (pw_and1 (pt_cmpR op_ne (pv 9) (pv 2) (nomark _))))))) (fun _ _ _ _ _ => (pv 9))) pa_nil)) (pe_ix ix_tup (pv 7) pe_int (fun _ _ => rfl)) (nomark _))
          (pss_one (ps_ret (pe_tup (pa_cons pe_str (pa_cons (pe_tup (pa_cons (pv 6) (pa_cons (pe_ix ix_tup (pv 7) pe_int (fun _ _ => rfl)) pa_nil))) pa_nil)))))
          pss_nil)
          (pss_one (ps_expr (pe_bm PySem.F.plainAttrs_list PySem.F.slot_list_append PySem.F.type_list_append mt_append (pv 5) (pa_cons (pe_tup (pa_cons (pv 6) (pa_cons (pe_ix ix_tup (pv 7) pe_int (fun _ _ => rfl)) pa_nil))) pa_nil))))))))
      (pss_one (ps_ret (pe_tup (pa_cons pe_str (pa_cons (pe_callTy call_tuple_of (by rfl) T.tuple PyProof.Rows.boot_tuple (pa_cons (pv 5) pa_nil)) pa_nil)))))))), ?_⟩
    obtain ⟨_, gv, eg, hgt, _, hgs⟩ := hg
    cases eg
    obtain rfl := reps_strs hgs
    refine st_seq (st_asg (te_lc ?_))
    refine ⟨_, rfl, _, rfl, u, v, fs, gs, rfl, hu, fok, hv, gok, fun x ks H1 s1 hx asc mem => ?_⟩
    obtain ⟨t, bvs, rfl, ht, hz, hbs⟩ := hx
    have vl := hbs.len
    rw [List.length_map] at vl
    have bl := betweenL_len fs gs ks
    have kl : ks.length ≤ 120 := by
      have := nodup_le (ys := fs.map (·.1) ++ gs.map (·.1)) asc.nodup fun p hp => List.mem_append.mpr ((mem p).mp hp)
      have e1 := sf.few
      have e2 := sg.few
      rw [List.length_append, List.length_map, List.length_map] at this
      omega
    have px : ∀ p ∈ (betweenL fs gs ks).map (·.1), p.length ≤ 1000 := fun p hp => by
      rcases (mem p).mp (betweenL_sub hp) with h | h
      · obtain ⟨q, hq, rfl⟩ := List.mem_map.mp h
        exact sf.pth q hq
      · obtain ⟨q, hq, rfl⟩ := List.mem_map.mp h
        exact sg.pth q hq
    have k2 := fun x H' s => kk x ks H' s asc mem
    generalize he : betweenL fs gs ks = es at hbs vl bl px k2
    refine ⟨t, rfl, ⟨_, .inl ht⟩, fun D hD => lc_it walk_tup (fun i H2 => Same H1 H2 ∧ H2 D = some (.lst ((es.take i).map fun q => V.str q.1))) ⟨Same.new hD, upd_same⟩ (fun i H2 _ q => .inl (Rd.same q.1 ht)) ?_ ?_⟩
    · rintro i x Hx H2 hi ⟨s2, e2⟩ ⟨rfl, hx⟩
      have hil : i < es.length := by
        have := (List.getElem?_eq_some_iff.mp hx).1
        omega
      have hq : es[i]? = some es[i] := List.getElem?_eq_getElem hil
      obtain ⟨v, hv, hrep⟩ := hbs.get (i := i) (d := changeD es[i]) (by rw [List.getElem?_map, hq]; rfl)
      obtain rfl : v = x := Option.some.inj (hv.symm.trans hx)
      obtain ⟨c, ws, rfl, hc1, a1⟩ := change_at1 (hrep.keep (Same.tk s2))
      refine ⟨rfl, _, rfl, c, ws, 1, _, rfl, rfl, .inl hc1, a1, _, e2, ?_, Same.mut s2 hD, ?_⟩
      · rw [List.length_map, List.length_take]
        exact small_lt (by omega)
      · rw [upd_same, List.take_add_one, hq, List.map_append]
        rfl
    rintro H2 ⟨s2, e2⟩
    rw [vl, List.take_length] at e2
    refine st_g ?_
    dsimp only
    have s02 : Same H H2 := fun b o z => s2 b o (s1 b o z)
    replace e2 : H2 D = some (.lst ((es.map (·.1)).map V.str)) := by
      rw [List.map_map]
      exact e2
    have pl : (es.map (·.1)).length ≤ 1000 := by
      rw [List.length_map]
      omega
    generalize es.map (·.1) = ps at e2 px k2 pl
    refine st_seq (st_asg ?_)
    refine ⟨(by show 0 ≤ sizeLine; decide), fun D2 hD2 => st_g ?_⟩
    dsimp only
    have hDD : D2 ≠ D := fun z => by
      rw [z, e2] at hD2
      cases hD2
    have hD20 : H D2 = none := s02.free hD2
    have s03 : Same H (upd H2 D2 (.lst [])) := fun b o e => by
      rw [upd_ne (ne_of_none (s02 b o e) hD2)]
      exact s02 b o e
    have d3 : upd H2 D2 (.lst []) D = some (.lst (ps.map V.str)) := by
      rw [upd_ne (Ne.symm hDD)]
      exact e2
    have e3 : upd H2 D2 (.lst []) D2 = some (.lst []) := upd_same
    generalize upd H2 D2 (.lst []) = H3 at s03 d3 e3 ⊢
    have l0 := readOf_len sf
    have l1 := readOf_len sg
    have r0 := readOf_ok sf
    have r1 := readOf_ok sg
    generalize eO : (ns.filter fun n => decide (n ≠ author)) = O at k2
    have inO : ∀ n, n ∈ O ↔ n ∈ ns ∧ n ≠ author := fun n => by
      rw [← eO, List.mem_filter, decide_eq_true_eq]
    refine st_seq ?_
    refine ⟨2, rfl, by decide, by decide, for_range (n := 2) (fun i σ H4 => ∃ (k6 k7 : Option V) (acc : List (Nat × Nat)) (av : List V), σ = [some u, some v, some (.str author), some (.ref g), some (.ref D), some (.ref D2), k6, k7, none, none] ∧ Same H H4 ∧ H4 D = some (.lst (ps.map V.str)) ∧ H4 D2 = some (.lst av) ∧ Reps H4 (acc.map sdD) av ∧ byP O ps (restS (readOf fs) (readOf gs) 0) [] = byP O ps (restS (readOf fs) (readOf gs) i) acc ∧ acc.length + (restS (readOf fs) (readOf gs) i).length ≤ (readOf fs).length + (readOf gs).length)
      ⟨_, _, [], [], rfl, s03, d3, e3, rfl, rfl, by simp [restS]⟩ ?_ ?_⟩
    · rintro i σ H4 hi ⟨k6, k7, acc, av, rfl, s4, d4, e4, rp4, eq4, le4⟩
      obtain ⟨fi, ui, hui, repi, shi, ari, ei⟩ : ∃ (fi : Fs) (ui : V), [u, v][i]? = some ui ∧ Rep H (filesD fi) ui ∧ Short fi ∧ AllR fi ∧ restS (readOf fs) (readOf gs) i = (readOf fi).map (fun a => (i, a)) ++ restS (readOf fs) (readOf gs) (i + 1) := by
        match i, hi with
        | 0, _ => exact ⟨fs, u, rfl, hu, sf, af, rfl⟩
        | 1, _ => exact ⟨gs, v, rfl, hv, sg, ag, by simp [restS]⟩
      refine st_g ?_
      rw [Int.zero_add]
      dsimp only
      refine ⟨_, rfl, _, rfl, (by show 2 ≤ sizeLine; decide), fun q hq => ⟨_, rfl, q, _, _, ui, rfl, rfl, SqL.of upd_same, atI_nat hui, _, rfl, ?_⟩⟩
      have s45 : Same H4 (upd H4 q (.lst [u, v])) := Same.new hq
      generalize upd H4 q (.lst [u, v]) = H5 at s45 ⊢
      have s05 : Same H H5 := fun b o z => s45 b o (s4 b o z)
      refine ⟨ui, D, fi, ps, rfl, repi.keep (Same.tk s05), s45 _ _ d4, shi, ari, px, pl, fun L ws H6 s6 hL e6 rp6 => ?_⟩
      have lo := readOf_len shi
      have ro := readOf_ok shi
      have eq5 := eq4
      rw [ei, byP_skip] at eq5
      rw [ei, List.length_append, List.length_map] at le4
      have ell : flt ps (rowsOf fi) = (readOf fi).filter (touchedB ps) := rfl
      rw [ell] at rp6
      have fle := List.length_filter_le (touchedB ps) (readOf fi)
      have fmem : ∀ a ∈ (readOf fi).filter (touchedB ps), touchedB ps a = true ∧ ApprOk a := fun a ha => ⟨(List.mem_filter.mp ha).2, ro a (List.mem_filter.mp ha).1⟩
      generalize (readOf fi).filter (touchedB ps) = li at rp6 eq5 fle fmem
      have s06 : Same H H6 := fun b o z => s6 b o (s05 b o z)
      have d6 := s6 _ _ (s45 _ _ d4)
      have e6' := s6 _ _ (s45 _ _ e4)
      have rp6' := (rp4.keep (Same.tk s45)).keep (Same.tk s6)
      have wl := rp6.len
      rw [List.length_map] at wl
      have nL : D2 ≠ L := fun z => by
        rw [← z, s45 _ _ e4] at hL
        cases hL
      refine ⟨L, rfl, ⟨_, SqL.of e6⟩, for_list (K := K) (a := L) (xs := ws) (fun j σ H7 => ∃ (k7 : Option V) (acc : List (Nat × Nat)) (av : List V), σ = [some u, some v, some (.str author), some (.ref g), some (.ref D), some (.ref D2), some (.int (i : Nat)), k7, none, none] ∧ Same H H7 ∧ H7 D = some (.lst (ps.map V.str)) ∧ H7 L = some (.lst ws) ∧ H7 D2 = some (.lst av) ∧ Reps H7 (acc.map sdD) av ∧ byP O ps (restS (readOf fs) (readOf gs) 0) [] = byP O ps ((li.drop j).map (fun a => (i, a)) ++ restS (readOf fs) (readOf gs) (i + 1)) acc ∧ acc.length + ((li.drop j).length + (restS (readOf fs) (readOf gs) (i + 1)).length) ≤ (readOf fs).length + (readOf gs).length ∧ Reps H7 (li.map lineD) ws)
        ⟨_, acc, av, rfl, s06, d6, e6, e6', rp6', eq5, by rw [List.drop_zero]; omega, rp6⟩ (fun j σ H7 _ ⟨_, _, _, _, _, _, z, _⟩ => SqL.of z) ?_ ?_⟩
      · rintro j x σ H7 hx ⟨k7, acc, av, rfl, s7, d7, L7, e7, rp7, eq7, le7, lr7⟩
        have hj : j < li.length := by
          have := (List.getElem?_eq_some_iff.mp hx).1
          omega
        have hjj : li[j]? = some li[j] := List.getElem?_eq_getElem hj
        obtain ⟨v', hv', hrep⟩ := lr7.get (i := j) (d := lineD li[j]) (by rw [List.getElem?_map, hjj]; rfl)
        obtain rfl : v' = x := Option.some.inj (hv'.symm.trans hx)
        obtain ⟨t2, nt, rfl, ht2, hnt⟩ := line_of hrep
        have ok := fmem _ (List.getElem_mem hj)
        rw [List.drop_eq_getElem_cons hj] at eq7 le7
        rw [List.map_cons, List.cons_append] at eq7
        rw [List.length_cons] at le7
        generalize li[j] = a at hjj ht2 hnt ok eq7
        obtain ⟨tb, ok⟩ := ok
        have al := rp7.len
        rw [List.length_map] at al
        refine st_g ?_
        dsimp only
        refine st_seq ?_
        refine ⟨_, rfl, t2, _, 2, _, rfl, rfl, .inl ht2, rfl, nt, rfl, ⟨_, .inl hnt⟩, fun C hC => lc_it walk_tup (fun m H8 => Same H7 H8 ∧ H8 C = some (.lst (((a.2.2.2.take m).filter fun n => decide (n ∈ O)).map V.str))) ⟨Same.new hC, upd_same⟩ (fun m H8 _ q => .inl (Rd.same q.1 hnt)) ?_ ?_⟩
        · rintro m y Hx H8 hm ⟨s8, e8⟩ ⟨rfl, hy⟩
          rw [List.getElem?_map] at hy
          obtain ⟨n, hn, rfl⟩ := Option.map_eq_some_iff.mp hy
          refine ⟨rfl, _, rfl, _, rfl, g, _, rfl, .inr (.inl (Rd.same (fun b o z => s8 b o (s7 b o z)) hgt)), rfl, flat_strs _, _, rfl, ?_⟩
          show if inV (.str n) (ns.map V.str) = true then _ else _
          rw [inV_strs, take_filter hn]
          have room : ((a.2.2.2.take m).filter fun n => decide (n ∈ O)).length < sizeLine := by
            have h1 := List.length_filter_le (fun n => decide (n ∈ O)) (a.2.2.2.take m)
            rw [List.length_take] at h1
            have := ok.nms
            exact small_lt (by omega)
          by_cases c : n ∈ ns
          · rw [decide_eq_true c]
            refine iteT ⟨_, rfl, _, rfl, rfl, _, rfl, ?_⟩
            by_cases ca : n = author
            · rw [decide_eq_true (show V.str n = V.str author by rw [ca])]
              refine iteF ⟨s8, ?_⟩
              rw [decide_eq_false (fun z => ((inO n).mp z).2 ca)]
              simpa using e8
            · rw [decide_eq_false (show V.str n ≠ V.str author from fun e => ca (V.str.inj e))]
              refine iteT ⟨_, rfl, _, e8, by rw [List.length_map]; exact room, Same.mut s8 hC, ?_⟩
              rw [upd_same, decide_eq_true ((inO n).mpr ⟨c, ca⟩), List.map_append]
              rfl
          · rw [decide_eq_false c]
            refine iteF ⟨s8, ?_⟩
            rw [decide_eq_false (fun z => c ((inO n).mp z).1)]
            simpa using e8
        rintro H8 ⟨s8, e8⟩
        rw [List.length_map, List.take_length] at e8
        have s08 : Same H H8 := fun b o z => s8 b o (s7 b o z)
        refine ⟨C, _, rfl, .inl (SqL.of e8), _, rfl, t2, _, 1, _, rfl, rfl, .inl (Rd.same s8 ht2), rfl, _, _, rfl, rfl, _, rfl, ?_⟩
        rw [List.length_map]
        by_cases cl : (givenBy O a : Int) < a.2.2.1
        · rw [decide_eq_true (show (((a.2.2.2.filter fun n => decide (n ∈ O)).length : Nat) : Int) < a.2.2.1 from cl)]
          refine iteT ⟨_, rfl, _, rfl, t2, _, 0, _, rfl, rfl, .inl (Rd.same s8 ht2), rfl, (by show 2 ≤ sizeLine; decide), fun t3 h3 => ⟨(by show 2 ≤ sizeLine; decide), fun t4 h4 => ?_⟩⟩
          refine k2 _ _ (fun b o e => ?_) ?_
          · have e7 := s08 b o e
            rw [upd_ne (ne_of_none (by rw [upd_ne (ne_of_none e7 h3)]; exact e7) h4), upd_ne (ne_of_none e7 h3)]
            exact e7
          · rw [eq7]
            simp only [byP, tb, if_pos cl]
            have n34 : t3 ≠ t4 := fun z => by
              rw [← z, upd_same] at h4
              cases h4
            exact ⟨t4, _, rfl, .inl upd_same, (by show 2 ≤ sizeLine; decide), _, _, rfl, rfl, _, _, rfl, sd_rep (by rw [upd_ne n34]; exact upd_same), rfl⟩
        · rw [decide_eq_false (show ¬ (((a.2.2.2.filter fun n => decide (n ∈ O)).length : Nat) : Int) < a.2.2.1 from cl)]
          refine iteF (st_next ?_)
          dsimp only
          have e9 := s8 _ _ e7
          refine ⟨_, rfl, .inl ⟨rfl, _, SqL.of e9⟩, _, rfl, _, rfl, t2, _, 0, _, rfl, rfl, .inl (Rd.same s8 ht2), rfl, (by show 2 ≤ sizeLine; decide), fun t5 ht5 => ?_⟩
          have s9 : Same H8 (upd H8 t5 (.tup [.int (i : Nat), .int (a.1 : Nat)])) := Same.new ht5
          have e10 : upd H8 t5 (.tup [.int (i : Nat), .int (a.1 : Nat)]) D2 = some (.lst av) := s9 _ _ e9
          have rt : Rep (upd H8 t5 (.tup [.int (i : Nat), .int (a.1 : Nat)])) (sdD (i, a.1)) (.ref t5) := sd_rep upd_same
          have s79 : Same H7 (upd H8 t5 (.tup [.int (i : Nat), .int (a.1 : Nat)])) := fun b o z => s9 b o (s8 b o z)
          generalize upd H8 t5 (.tup [.int (i : Nat), .int (a.1 : Nat)]) = H9 at s9 e10 rt s79 ⊢
          have s09 : Same H H9 := fun b o z => s79 b o (s7 b o z)
          refine ⟨D2, _, _, rfl, rfl, e10, by rw [sizeLine_eq]; omega, _, acc ++ [(i, a.1)], av ++ [.ref t5], rfl, Same.mut s09 hD20, by rw [upd_ne (Ne.symm hDD)]; exact s79 _ _ d7, by rw [upd_ne (Ne.symm nL)]; exact s79 _ _ L7, upd_same, ?_, ?_, ?_, ?_⟩
          · rw [List.map_append]
            exact ((rp7.keep (Same.tk s79)).snoc rt).keep (Tk.lst e10)
          · rw [eq7]
            simp only [byP, tb, if_neg cl, if_pos]
          · rw [List.length_append, List.length_singleton]
            omega
          · exact (lr7.keep (Same.tk s79)).keep (Tk.lst e10)
      · rintro σ H7 ⟨k7, acc, av, rfl, s7, d7, L7, e7, rp7, eq7, le7, lr7⟩
        rw [List.drop_of_length_le (by omega)] at eq7 le7
        exact ⟨_, _, acc, av, rfl, s7, d7, e7, rp7, eq7, by simpa using le7⟩
    · rintro σ H4 ⟨k6, k7, acc, av, rfl, s4, d4, e4, rp4, eq4, le4⟩
      have al := rp4.len
      rw [List.length_map] at al
      refine ⟨_, rfl, D2, _, rfl, .inl ⟨SqL.of e4, fun q hq => ⟨(by show 2 ≤ sizeLine; decide), fun t ht => ?_⟩⟩⟩
      have nq : q ≠ t := fun z => by
        rw [← z, upd_same] at ht
        cases ht
      refine k2 _ _ (fun b o e => ?_) ?_
      · have e7 := s4 b o e
        rw [upd_ne (ne_of_none (by rw [upd_ne (ne_of_none e7 hq)]; exact e7) ht), upd_ne (ne_of_none e7 hq)]
        exact e7
      · rw [eq4]
        exact ⟨t, _, rfl, .inl upd_same, (by show 2 ≤ sizeLine; decide), _, _, rfl, rfl, _, _, rfl, ⟨q, av, rfl, .inl (by rw [upd_ne nq]; exact upd_same), by rw [sizeLine_eq]; omega, (rp4.keep (Tk.new hq)).keep (Tk.new ht)⟩, rfl⟩
end
end Kl

namespace Kl
open PySem L2 Kd
/-! the law's reading of an expression: where it ends -/
def endKinds : List Str := ["file", "each", "names", "pack", "version", "set", "lit", "dep"]
def pathKinds : List Str := ["file", "each", "names"]
def arityF : List (Str × Nat) := [("up", 1), ("size", 1), ("not", 1), ("cat", 2), ("has", 2), ("same", 2), ("if", 3)]
def iterP (f : Nat → Option Nat) : Nat → Nat → Option Nat
  | 0, a => some a
  | m + 1, a => match f a with
    | none => none
    | some b => iterP f m b
def endP (ws : List Str) : Nat → Nat → Option Nat
  | 0, _ => none
  | n + 1, i =>
    if ws.length ≤ i then none
    else if ws.getD i "" = "line" then some (i + 1)
    else if ws.getD i "" ∈ endKinds then
      if ws.length ≤ i + 1 then none
      else if ws.getD i "" ∈ pathKinds then (if pathB (ws.getD (i + 1) "") = true then some (i + 2) else none)
      else if ws.getD i "" = "lit" then (if 1 ≤ (ws.getD (i + 1) "").length ∧ (ws.getD (i + 1) "").length ≤ 40 then some (i + 2) else none)
      else if wordB (ws.getD (i + 1) "") = true then some (i + 2) else none
    else match valF arityF (ws.getD i "") with
      | none => none
      | some m => iterP (endP ws n) m (i + 1)
theorem iterP_in {f : Nat → Option Nat} {L : Nat} (hf : ∀ a b, f a = some b → a < b ∧ b ≤ L) : ∀ (m a b : Nat), a ≤ L → iterP f m a = some b → a ≤ b ∧ b ≤ L
  | 0, a, b, h, e => by
    obtain rfl := Option.some.inj e
    exact ⟨Nat.le_refl _, h⟩
  | m + 1, a, b, h, e => by
    unfold iterP at e
    cases ef : f a with
    | none => rw [ef] at e; cases e
    | some c =>
      rw [ef] at e
      have h1 := hf a c ef
      have h2 := iterP_in hf m c b h1.2 e
      exact ⟨by omega, h2.2⟩
theorem endP_in (ws : List Str) : ∀ (n i e : Nat), endP ws n i = some e → i < e ∧ e ≤ ws.length
  | 0, i, e, h => by cases h
  | n + 1, i, e, h => by
    have ih := endP_in ws n
    unfold endP at h
    split at h
    · cases h
    · rename_i c0
      split at h
      · cases h
        omega
      · split at h
        · split at h
          · cases h
          · repeat' (split at h)
            all_goals first
              | (cases h; omega)
              | cases h
        · split at h
          · cases h
          · rename_i m _
            have := iterP_in ih m (i + 1) e (by omega) h
            omega
theorem arity_le {w : Str} {m : Nat} (h : valF arityF w = some m) : m ≤ 3 := by
  unfold valF at h
  obtain ⟨q, hq, rfl⟩ := Option.map_eq_some_iff.mp h
  have hm := List.mem_of_find?_eq_some hq
  have e : ∀ q ∈ arityF, q.2 ≤ 3 := by decide +kernel
  exact e q hm
def spEnd (_ : PySem.W.Frag) (n : Nat) : Sp := fun vs H Q _ => ∃ (t : Addr) (ws : List Str) (i : Nat), vs = [.ref t, .int (i : Int)] ∧ Rd H t (.tup (ws.map V.str)) ∧ (∀ x ∈ ws, x.length ≤ 1000) ∧ ws.length ≤ 60 ∧ i ≤ ws.length ∧ ws.length < i + n ∧ ∀ H' : Hp, Same H H' → Q (encN (endP ws n i)) H'
section
variable {P : Program} {w : World} {K : PySem.W.Frag} {mg : Str → Option Value} {base : Heap}
abbrev s_l_end_of : Stmt := topS 56
theorem sc_l_end_of : FnScope ["words", "at", "word", "name", "many", "k"] ["words", "at"] (defScope s_l_end_of) := ⟨rfl, rfl, rfl, by decide +kernel, rfl, by decide +kernel, by decide +kernel⟩
theorem ok_l_end {f : Addr} {fd : FuncData} (A : At K mg "_law_end_of" s_l_end_of ["words", "at"] f fd) (T : Glo mg) (c_l_is_path : C8.Cal P w K mg base 2 "_law_is_path" (spPathG K) []) (c_l_is_word : C8.Cal P w K mg base 1 "_law_is_word" (spWordG K) []) :
    ∀ n : Nat, FnOk P w K mg base CX0 (n + 3) f fd ["words", "at"] (spEnd K n)
  | 0 => ⟨fun vs H Q E ⟨t, ws, i, e, _⟩ => by subst e; rfl, fun A outer s H args us vs Q E hr he hb hv ⟨t, ws, i, e, _, _, _, z, z2, _⟩ => absurd z (by omega)⟩
  | n + 1 => by
    have c_l_end_of : C8.Cal P w K mg base (n + 3) "_law_end_of" (spEnd K n) [] := cal_of A (ok_l_end A T c_l_is_path c_l_is_word n)
    refine A.fn.ok sc_l_end_of (fun vs H Q E h => ?_) (fun cdv A outer s H vs Q E hr h => ?_)
    · obtain ⟨t, ws, i, rfl, _⟩ := h
      rfl
    · obtain ⟨t, ws, i, rfl, ht, lx, wl, il, fu, kk⟩ := h
      have hu := hu_of hr
      refine ⟨_, (pss_cons (ps_if (pt_cmpR op_ge (pv 1) (pe_callB call_len_seq (by rfl) T.len PySem.boot_len (pa_cons (pv 0) pa_nil)) (nomark _))
        (pss_one (ps_ret pe_non))
        pss_nil)
        (pss_cons (ps_set (i := 2) sc_l_end_of.nd rfl (.inl rfl) (pe_ix ix_tup (pv 0) (pv 1) (fun _ _ => rfl)))
        (pss_cons (ps_if (pt_cmpR op_eq (pv 2) pe_str (nomark _))
        (pss_one (ps_ret (pe_op op_add (pv 1) pe_int)))
        pss_nil)
        (pss_cons (ps_if (pt_cmpR op_in_seq (pv 2) (pe_lst (pa_strs rfl)) (by rfl))
        (pss_cons (ps_if (pt_cmpR op_ge (pe_op op_add (pv 1) pe_int) (pe_callB call_len_seq (by rfl) T.len PySem.boot_len (pa_cons (pv 0) pa_nil)) (nomark _))
          (pss_one (ps_ret pe_non))
          pss_nil)
          (pss_cons (ps_set (i := 3) sc_l_end_of.nd rfl (.inl rfl) (pe_ix ix_tup (pv 0) (pe_op op_add (pv 1) pe_int) (fun _ _ => rfl)))
          (pss_cons (ps_if (pt_cmpR op_in_seq (pv 2) (pe_lst (pa_strs rfl)) (by rfl))
          (pss_one (ps_ret (pe_ifExp (pt_val (C8.pe_c c_l_is_path hr (by omega) (by rfl) (pa_cons (pv 3) pa_nil))) (pe_op op_add (pv 1) pe_int) pe_non)))
          pss_nil)
          (pss_cons (ps_if (pt_cmpR op_eq (pv 2) pe_str (nomark _))
          (pss_one (ps_ret (pe_ifExp (pt_chain op_le op_le pe_int (pe_callB call_len_str (by rfl) T.len PySem.boot_len (pa_cons (pv 3) pa_nil)) pe_int) (pe_op op_add (pv 1) pe_int) pe_non)))
          pss_nil)
          (pss_one (ps_ret (pe_ifExp (pt_val (C8.pe_c c_l_is_word hr (by omega) (by rfl) (pa_cons (pv 3) pa_nil))) (pe_op op_add (pv 1) pe_int) pe_non)))))))
        pss_nil)
        (pss_cons (ps_set (i := 4) sc_l_end_of.nd rfl (.inl rfl) (pe_disp (pps_cons pe_str pe_int (pps_cons pe_str pe_int (pps_cons pe_str pe_int (pps_cons pe_str pe_int (pps_cons pe_str pe_int (pps_cons pe_str pe_int (pps_cons pe_str pe_int pps_nil))))))) (by rfl) (by rfl) (fun z => by cases z) (by decide)))
        (pss_cons (ps_if (pt_cmp (pc_dnotin hu (pv 2) (pv 4)))
        (pss_one (ps_ret pe_non))
        pss_nil)
        (pss_cons (ps_set (i := 1) sc_l_end_of.nd rfl (.inl rfl) (pe_op op_add (pv 1) pe_int))
        (pss_cons (ps_for PassesOwn.never rfl (pi_range1 (by rfl) T.range (pa_cons (pe_dget hu (pv 4) (pv 2) (fun _ _ => rfl)) pa_nil)) (pg_name (i := 5) sc_l_end_of.nd rfl (.inl rfl))
        (pss_cons (ps_set (i := 1) sc_l_end_of.nd rfl (.inl rfl) (C8.pe_c c_l_end_of hr (by omega) (by rfl) (pa_cons (pv 0) (pa_cons (pv 1) pa_nil))))
          (pss_one (ps_if (pt_cmp (pc_isN (pv 1)))
          (pss_one (ps_ret pe_non))
          pss_nil))))
        (pss_one (ps_ret (pv 1))))))))))), ?_⟩
      have e0 : endP ws (n + 1) i = if ws.length ≤ i then none
          else if ws.getD i "" = "line" then some (i + 1)
          else if ws.getD i "" ∈ endKinds then
            if ws.length ≤ i + 1 then none
            else if ws.getD i "" ∈ pathKinds then (if pathB (ws.getD (i + 1) "") = true then some (i + 2) else none)
            else if ws.getD i "" = "lit" then (if 1 ≤ (ws.getD (i + 1) "").length ∧ (ws.getD (i + 1) "").length ≤ 40 then some (i + 2) else none)
            else if wordB (ws.getD (i + 1) "") = true then some (i + 2) else none
          else match valF arityF (ws.getD i "") with
            | none => none
            | some m => iterP (endP ws n) m (i + 1) := rfl
      have lg : ∀ j, j < ws.length → (ws.getD j "").length ≤ 1000 := fun j hj => by
        rw [List.getD_eq_getElem?_getD, List.getElem?_eq_getElem hj]
        exact lx _ (List.getElem_mem hj)
      refine st_seq ?_
      refine ⟨_, rfl, _, rfl, t, _, rfl, .inr (.inl ht), _, _, rfl, rfl, _, rfl, ?_⟩
      rw [List.length_map]
      by_cases c0 : ws.length ≤ i
      · rw [if_pos c0] at e0
        rw [e0] at kk
        rw [decide_eq_true (show (ws.length : Int) ≤ (i : Int) by omega)]
        exact iteT (kk H (Same.refl _))
      rw [if_neg c0] at e0
      rw [decide_eq_false (show ¬ (ws.length : Int) ≤ (i : Int) by omega)]
      refine iteF (st_next ?_)
      dsimp only
      refine st_seq (st_asg ?_)
      refine ⟨_, rfl, _, rfl, t, _, _, _, rfl, rfl, .inl ht, at_str (i := i) (by omega), st_g ?_⟩
      dsimp only
      generalize hw : ws.getD i "" = wd at e0
      refine st_seq ?_
      refine ⟨_, rfl, rfl, _, rfl, ?_⟩
      by_cases c1 : wd = "line"
      · rw [if_pos c1] at e0
        rw [e0] at kk
        rw [decide_eq_true (show V.str wd = V.str "line" by rw [c1])]
        exact iteT ⟨_, rfl, _, _, rfl, rfl, kk H (Same.refl _)⟩
      rw [if_neg c1] at e0
      rw [decide_eq_false (show V.str wd ≠ V.str "line" from fun e => c1 (V.str.inj e))]
      refine iteF (st_next ?_)
      dsimp only
      refine st_seq ?_
      refine ⟨_, rfl, (by show 8 ≤ sizeLine; decide), fun q hq => ⟨q, _, rfl, .inl (SqL.of upd_same), rfl, flat_strs endKinds, _, rfl, ?_⟩⟩
      show if inV (.str wd) (endKinds.map V.str) = true then _ else _
      rw [inV_strs]
      have s1 : Same H (upd H q (.lst ((["file", "each", "names", "pack", "version", "set", "lit", "dep"] : List Str).map V.str))) := Same.new hq
      by_cases c2 : wd ∈ endKinds
      · rw [if_pos c2] at e0
        rw [decide_eq_true c2]
        generalize upd H q (.lst ((["file", "each", "names", "pack", "version", "set", "lit", "dep"] : List Str).map V.str)) = H1 at s1 ⊢
        refine iteT ?_
        refine st_seq ?_
        refine ⟨_, rfl, _, _, rfl, rfl, _, rfl, t, _, rfl, .inr (.inl (Rd.same s1 ht)), _, _, rfl, rfl, _, rfl, ?_⟩
        rw [List.length_map]
        by_cases c3 : ws.length ≤ i + 1
        · rw [if_pos c3] at e0
          rw [e0] at kk
          rw [decide_eq_true (show (ws.length : Int) ≤ (i : Int) + 1 by omega)]
          exact iteT (kk H1 s1)
        rw [if_neg c3] at e0
        rw [decide_eq_false (show ¬ (ws.length : Int) ≤ (i : Int) + 1 by omega)]
        refine iteF (st_next ?_)
        dsimp only
        refine st_seq (st_asg ?_)
        refine ⟨_, rfl, _, rfl, _, _, rfl, rfl, t, _, _, _, rfl, rfl, .inl (Rd.same s1 ht), at_str (i := i + 1) (by omega), st_g ?_⟩
        dsimp only
        have ln := lg (i + 1) (by omega)
        generalize ws.getD (i + 1) "" = nm at e0 ln
        refine st_seq ?_
        refine ⟨_, rfl, (by show 3 ≤ sizeLine; decide), fun q2 hq2 => ⟨q2, _, rfl, .inl (SqL.of upd_same), rfl, flat_strs pathKinds, _, rfl, ?_⟩⟩
        show if inV (.str wd) (pathKinds.map V.str) = true then _ else _
        rw [inV_strs]
        have s2 : Same H (upd H1 q2 (.lst (pathKinds.map V.str))) := fun b o z => Same.new hq2 b o (s1 b o z)
        by_cases c4 : wd ∈ pathKinds
        · rw [if_pos c4] at e0
          rw [decide_eq_true c4]
          refine iteT ?_
          refine ⟨_, rfl, nm, rfl, ln, fun H3 s3 => ⟨_, rfl, ?_⟩⟩
          have s03 : Same H H3 := fun b o z => s3 b o (s2 b o z)
          have := kk H3 s03
          cases e : pathB nm with
          | true =>
            rw [e0, e] at this
            exact iteT ⟨_, rfl, _, _, rfl, rfl, this⟩
          | false =>
            rw [e0, e] at this
            exact iteF this
        rw [if_neg c4] at e0
        rw [decide_eq_false c4]
        refine iteF (st_next ?_)
        dsimp only
        refine st_seq ?_
        refine ⟨_, rfl, rfl, _, rfl, ?_⟩
        by_cases c5 : wd = "lit"
        · rw [if_pos c5] at e0
          rw [decide_eq_true (show V.str wd = V.str "lit" by rw [c5])]
          refine iteT ?_
          have := kk _ s2
          refine ⟨_, rfl, _, rfl, small_of (by omega), _, _, rfl, rfl, _, rfl, ite2 (fun z1 => ?_) (fun z1 => ?_)⟩
          · have z1 := of_decide_eq_true z1
            refine ⟨_, _, rfl, rfl, _, rfl, ?_⟩
            by_cases h2 : (nm.length : Int) ≤ 40
            · rw [decide_eq_true h2]
              rw [e0, if_pos ⟨by omega, by omega⟩] at this
              exact iteT ⟨_, rfl, _, _, rfl, rfl, this⟩
            · rw [decide_eq_false h2]
              rw [e0, if_neg (fun z => h2 (by omega))] at this
              exact iteF this
          · rw [e0, if_neg (fun z => z1 (decide_eq_true (by omega)))] at this
            exact ⟨_, rfl, iteF this⟩
        rw [if_neg c5] at e0
        rw [decide_eq_false (show V.str wd ≠ V.str "lit" from fun e => c5 (V.str.inj e))]
        refine iteF (st_next ?_)
        dsimp only
        have := kk _ s2
        refine ⟨_, rfl, nm, rfl, by omega, _, rfl, ?_⟩
        cases e : wordB nm with
        | true =>
          rw [e0, e] at this
          exact iteT ⟨_, rfl, _, _, rfl, rfl, this⟩
        | false =>
          rw [e0, e] at this
          exact iteF this
      · rw [if_neg c2] at e0
        rw [decide_eq_false c2]
        refine iteF (st_next ?_)
        dsimp only
        generalize upd H q (.lst ((["file", "each", "names", "pack", "version", "set", "lit", "dep"] : List Str).map V.str)) = H1 at s1 ⊢
        refine st_seq (st_asg ?_)
        refine fun d hd => ⟨upd_same, kvG (fun n : Nat => V.int (n : Int)) arityF, rfl, (by decide), st_g ?_⟩
        dsimp only
        rw [merge_all (fun n : Nat => V.int (n : Int)) (fs := arityF) (by decide +kernel)]
        rw [upd_upd]
        have s2 : Same H (upd H1 d (.dK (kvG (fun n : Nat => V.int (n : Int)) arityF))) := fun b o z => Same.new hd b o (s1 b o z)
        have d2 : upd H1 d (.dK (kvG (fun n : Nat => V.int (n : Int)) arityF)) d = some (.dK (kvG (fun n : Nat => V.int (n : Int)) arityF)) := upd_same
        generalize upd H1 d (.dK (kvG (fun n : Nat => V.int (n : Int)) arityF)) = H2 at s2 d2 ⊢
        have dg : ∀ {H3 : Hp}, H3 d = some (.dK (kvG (fun n : Nat => V.int (n : Int)) arityF)) → DGet H3 d (.str wd) ((valF arityF wd).map fun n : Nat => V.int (n : Int)) := fun h => by
          have := DGet.k (k := Sum.inr wd) h
          rw [kvF_val] at this
          exact this
        refine st_seq ?_
        refine ⟨_, rfl, _, rfl, d, _, rfl, dg d2, _, rfl, ?_⟩
        cases e : valF arityF wd with
        | none =>
          have := kk H2 s2
          rw [e] at e0
          rw [e0] at this
          exact iteT this
        | some m =>
          rw [e] at e0
          replace e0 : endP ws (n + 1) i = iterP (endP ws n) m (i + 1) := e0
          have m3 := arity_le e
          refine iteF (st_next ?_)
          dsimp only
          refine st_seq (st_asg ⟨_, rfl, _, _, rfl, rfl, st_g ?_⟩)
          dsimp only
          have dg2 := dg d2
          rw [e] at dg2
          refine st_seq ?_
          refine ⟨_, rfl, _, rfl, d, _, rfl, dg2, m, rfl, (rng_ok2 (by omega)).1, (rng_ok2 (by omega)).2, for_range (n := m) (fun j σ H3 => ∃ (a : Nat) (k5 : Option V), σ = [some (.ref t), some (.int (a : Int)), some (.str wd), none, some (.ref d), k5] ∧ Same H H3 ∧ iterP (endP ws n) m (i + 1) = iterP (endP ws n) (m - j) a ∧ i + 1 ≤ a ∧ a ≤ ws.length)
            ⟨i + 1, _, rfl, s2, rfl, Nat.le_refl _, by omega⟩ ?_ ?_⟩
          · rintro j σ H3 hj ⟨a, k5, rfl, s3, eq, ia, al⟩
            refine st_g ?_
            dsimp only
            refine st_seq (st_asg ?_)
            refine ⟨_, rfl, _, rfl, t, ws, a, rfl, Rd.same s3 ht, lx, wl, al, by omega, fun H4 s4 => st_g ?_⟩
            dsimp only
            have s04 : Same H H4 := fun b o z => s4 b o (s3 b o z)
            obtain ⟨r, hr'⟩ : ∃ r, m - j = r + 1 := ⟨m - j - 1, by omega⟩
            rw [hr'] at eq
            replace eq : iterP (endP ws n) m (i + 1) = match endP ws n a with
              | none => none
              | some b => iterP (endP ws n) r b := eq
            refine ⟨_, rfl, _, rfl, ?_⟩
            cases eb : endP ws n a with
            | none =>
              rw [eb] at eq
              have := kk H4 s04
              rw [e0, eq] at this
              exact iteT this
            | some b =>
              rw [eb] at eq
              have bi := endP_in ws n a b eb
              refine iteF ⟨b, _, rfl, s04, ?_, by omega, bi.2⟩
              rw [show m - (j + 1) = r by omega]
              exact eq
          · rintro σ H3 ⟨a, k5, rfl, s3, eq, ia, al⟩
            rw [Nat.sub_self] at eq
            have := kk H3 s3
            rw [e0, eq] at this
            exact ⟨_, rfl, this⟩
end
end Kl

namespace Kl
open PySem L2 Kd
/-! the law's deps of an expression -/
inductive Reach (ws : List Str) : Nat → Nat → Prop where
  | refl (i : Nat) : Reach ws i i
  | two {i e : Nat} (h : i + 1 < ws.length) (k : ws.getD i "" ∈ endKinds) (r : Reach ws (i + 2) e) : Reach ws i e
  | one {i e : Nat} (h : i < ws.length) (k : ws.getD i "" ∉ endKinds) (r : Reach ws (i + 1) e) : Reach ws i e
theorem Reach.trans {ws : List Str} {i j e : Nat} (a : Reach ws i j) (b : Reach ws j e) : Reach ws i e := by
  induction a with
  | refl => exact b
  | two h k _ ih => exact .two h k (ih b)
  | one h k _ ih => exact .one h k (ih b)
theorem iterP_reach {ws : List Str} {f : Nat → Option Nat} (hf : ∀ a b, f a = some b → Reach ws a b) : ∀ (m a b : Nat), iterP f m a = some b → Reach ws a b
  | 0, a, b, e => by
    obtain rfl := Option.some.inj e
    exact .refl _
  | m + 1, a, b, e => by
    unfold iterP at e
    cases ef : f a with
    | none => rw [ef] at e; cases e
    | some c =>
      rw [ef] at e
      exact (hf a c ef).trans (iterP_reach hf m c b e)
theorem endP_reach (ws : List Str) : ∀ (n i e : Nat), endP ws n i = some e → Reach ws i e
  | 0, i, e, h => by cases h
  | n + 1, i, e, h => by
    have ih := endP_reach ws n
    unfold endP at h
    split at h
    · cases h
    · rename_i c0
      split at h
      · rename_i c1
        cases h
        refine .one (by omega) ?_ (.refl _)
        rw [c1]
        decide +kernel
      · split at h
        · rename_i c2
          split at h
          · cases h
          · rename_i c3
            repeat' (split at h)
            all_goals first
              | (cases h; exact .two (by omega) c2 (.refl _))
              | cases h
        · rename_i c2
          split at h
          · cases h
          · rename_i m _
            exact .one (by omega) c2 (iterP_reach ih m (i + 1) e h)
def spDeps (_ : PySem.W.Frag) : Sp := fun vs H Q _ => ∃ (t : Addr) (ws : List Str), vs = [.ref t, .int 0] ∧ Rd H t (.tup (ws.map V.str)) ∧ (∀ x ∈ ws, x.length ≤ 1000) ∧ ws.length ≤ 60 ∧ Reach ws 0 ws.length ∧
  ∀ (L : Addr) (ys : List Str) (H' : Hp), Same H H' → H L = none → Strs H' L ys → ys.length ≤ 60 → (∀ y ∈ ys, y.length ≤ 1000) → Q (.ref L) H'
section
variable {P : Program} {w : World} {K : PySem.W.Frag} {mg : Str → Option Value} {base : Heap}
abbrev s_l_deps : Stmt := topS 57
theorem sc_l_deps : FnScope ["words", "at", "made"] ["words", "at"] (defScope s_l_deps) := ⟨rfl, rfl, rfl, by decide +kernel, rfl, by decide +kernel, by decide +kernel⟩
abbrev deps7 : List Str := ["file", "each", "names", "pack", "version", "set", "lit"]
theorem kinds8 {x : Str} (h : x ∈ endKinds) : x ∈ deps7 ∨ x = "dep" := by
  have e : ∀ x ∈ endKinds, x ∈ deps7 ∨ x = "dep" := by decide +kernel
  exact e x h
theorem kinds7 {x : Str} (h : x ∈ deps7 ∨ x = "dep") : x ∈ endKinds := by
  rcases h with h | h
  · have e : ∀ x ∈ deps7, x ∈ endKinds := by decide +kernel
    exact e x h
  · rw [h]
    decide +kernel
theorem ok_l_deps {f : Addr} {fd : FuncData} (F : Fun K "_law_deps" "_law_deps" s_l_deps f fd) (T : Glo mg) : FnOk P w K mg base CX0 1 f fd ["words", "at"] (spDeps K) := by
  refine F.ok sc_l_deps (fun vs H Q E h => ?_) (fun cdv A outer s H vs Q E hr h => ?_)
  · obtain ⟨t, ws, rfl, _⟩ := h
    rfl
  · obtain ⟨t, ws, rfl, ht, lx, wl, re, kk⟩ := h
    refine ⟨_, (pss_cons (ps_set (i := 2) sc_l_deps.nd rfl (.inl rfl) (pe_lst pa_nil))
      (pss_cons (ps_while PassesOwn.never (pt_cmpR op_lt (pv 1) (pe_callB call_len_seq (by rfl) T.len PySem.boot_len (pa_cons (pv 0) pa_nil)) (nomark _))
      (pss_one (ps_if (pt_cmpR op_in_seq (pe_ix ix_tup (pv 0) (pv 1) (fun _ _ => rfl)) (pe_lst (pa_strs rfl)) (by rfl))
        (pss_one (ps_set (i := 1) sc_l_deps.nd rfl (.inl rfl) (pe_op op_add (pv 1) pe_int)))
        (pss_one (ps_if (pt_cmpR op_eq (pe_ix ix_tup (pv 0) (pv 1) (fun _ _ => rfl)) pe_str (nomark _))
          (pss_cons (ps_expr (pe_bm PySem.F.plainAttrs_list PySem.F.slot_list_append PySem.F.type_list_append mt_append (pv 2) (pa_cons (pe_ix ix_tup (pv 0) (pe_op op_add (pv 1) pe_int) (fun _ _ => rfl)) pa_nil)))
            (pss_one (ps_set (i := 1) sc_l_deps.nd rfl (.inl rfl) (pe_op op_add (pv 1) pe_int))))
          (pss_one (ps_set (i := 1) sc_l_deps.nd rfl (.inl rfl) (pe_op op_add (pv 1) pe_int))))))))
      (pss_one (ps_ret (pv 2))))), ?_⟩
    refine st_seq (st_asg ?_)
    refine ⟨(by show 0 ≤ sizeLine; decide), fun D hD => st_g ?_⟩
    dsimp only
    refine st_seq ?_
    let W : Nat → L2.St → Hp → Prop := fun m σ H2 => ∃ (a : Nat) (ys : List Str), σ = [some (.ref t), some (.int (a : Int)), some (.ref D)] ∧ Same H H2 ∧ H2 D = some (.lst (ys.map V.str)) ∧ Reach ws a ws.length ∧ a + m = 100 ∧ ys.length ≤ a ∧ a ≤ ws.length ∧ ∀ y ∈ ys, y.length ≤ 1000
    refine ⟨W, ⟨100, 0, [], rfl, Same.new hD, upd_same, re, rfl, Nat.le_refl _, Nat.zero_le _, by simp⟩, ?_⟩
    rintro m σ H2 ⟨a, ys, rfl, s2, d2, ra, am, yl, al, yx⟩
    have ht2 := Rd.same s2 ht
    refine ⟨_, rfl, _, rfl, t, _, rfl, .inr (.inl ht2), _, _, rfl, rfl, _, rfl, ?_⟩
    rw [List.length_map]
    by_cases c0 : a < ws.length
    case neg =>
      rw [decide_eq_false (show ¬ (a : Int) < (ws.length : Int) by omega)]
      exact iteF ⟨_, rfl, kk D ys H2 s2 hD d2 (by omega) yx⟩
    rw [decide_eq_true (show (a : Int) < (ws.length : Int) by omega)]
    refine iteT ⟨fun σ' H' => ∃ m', m' < m ∧ W m' σ' H', fun _ _ h => h, ?_⟩
    dsimp only
    refine ⟨_, rfl, _, rfl, t, _, _, _, rfl, rfl, .inl ht2, at_str (i := a) c0, (by show 7 ≤ sizeLine; decide), fun q hq => ⟨q, _, rfl, .inl (SqL.of upd_same), rfl, flat_strs deps7, _, rfl, ?_⟩⟩
    show if inV (.str (ws.getD a "")) (deps7.map V.str) = true then _ else _
    rw [inV_strs]
    have s3 : Same H2 (upd H2 q (.lst (deps7.map V.str))) := Same.new hq
    generalize upd H2 q (.lst (deps7.map V.str)) = H3 at s3 ⊢
    have s03 : Same H H3 := fun b o z => s3 b o (s2 b o z)
    have d3 := s3 _ _ d2
    have ht3 := Rd.same s3 ht2
    by_cases c7 : ws.getD a "" ∈ deps7
    · rw [decide_eq_true c7]
      refine iteT ⟨_, rfl, _, _, rfl, rfl, st_g ⟨m - 2, ?_⟩⟩
      cases ra with
      | refl => exact absurd c0 (Nat.lt_irrefl _)
      | two h k r => exact ⟨by omega, a + 2, ys, rfl, s03, d3, r, by omega, by omega, by omega, yx⟩
      | one h k r => exact absurd (kinds7 (.inl c7)) k
    rw [decide_eq_false c7]
    refine iteF ?_
    refine ⟨_, rfl, _, rfl, t, _, _, _, rfl, rfl, .inl ht3, at_str (i := a) c0, rfl, _, rfl, ?_⟩
    by_cases c8 : ws.getD a "" = "dep"
    · rw [decide_eq_true (show V.str (ws.getD a "") = V.str "dep" by rw [c8])]
      refine iteT ?_
      cases ra with
      | refl => exact absurd c0 (Nat.lt_irrefl _)
      | one h k r => exact absurd (kinds7 (.inr c8)) k
      | two h k r =>
        refine st_seq ?_
        refine ⟨_, rfl, .inl ⟨rfl, _, SqL.of d3⟩, _, rfl, _, rfl, _, _, rfl, rfl, t, _, _, _, rfl, rfl, .inl ht3, at_str (i := a + 1) h, D, _, _, rfl, rfl, d3, ?_, ?_⟩
        · rw [List.length_map]
          exact small_lt (by omega)
        refine ⟨_, rfl, _, _, rfl, rfl, st_g ⟨m - 2, by omega, a + 2, ys ++ [ws.getD (a + 1) ""], rfl, Same.mut s03 hD, by rw [upd_same, List.map_append]; rfl, r, by omega, by rw [List.length_append]; simp only [List.length_cons, List.length_nil]; omega, by omega, fun y hy => ?_⟩⟩
        rcases List.mem_append.mp hy with z | z
        · exact yx y z
        · rw [List.mem_singleton.mp z, List.getD_eq_getElem?_getD, List.getElem?_eq_getElem h]
          exact lx _ (List.getElem_mem h)
    · rw [decide_eq_false (show V.str (ws.getD a "") ≠ V.str "dep" from fun e => c8 (V.str.inj e))]
      refine iteF ⟨_, rfl, _, _, rfl, rfl, st_g ⟨m - 1, ?_⟩⟩
      cases ra with
      | refl => exact absurd c0 (Nat.lt_irrefl _)
      | two h k r => exact absurd (kinds8 k) (fun z => z.elim c7 c8)
      | one h k r => exact ⟨by omega, a + 1, ys, rfl, s03, d3, r, by omega, by omega, by omega, yx⟩
end
end Kl

namespace Kl
open PySem L2 Kd
/-! the law's reading of the rules -/
def RowM (H : Hp) (v : V) (q : Str × Str) : Prop := ∃ (t : Addr) (u : V), v = .ref t ∧ H t = some (.tup [.str q.1, .str q.2, u])
theorem RowM.same {H H' : Hp} {v : V} {q : Str × Str} (s : Same H H') (h : RowM H v q) : RowM H' v q := by
  obtain ⟨t, u, e, h1⟩ := h
  exact ⟨t, u, e, s _ _ h1⟩
theorem RowM.upd {D : Addr} {H : Hp} {v : V} {q : Str × Str} {xs : List V} {o : HO} (e : H D = some (.lst xs)) (h : RowM H v q) : RowM (L2.upd H D o) v q := by
  obtain ⟨t, u, e', h1⟩ := h
  exact ⟨t, u, e', by rw [upd_ne (ne_of h1 e (fun z => nomatch z))]; exact h1⟩
def RulesV (H : Hp) (t : Addr) : Prop := (∃ (p : Str) (k : Int), H t = some (.tup [.str "bad", .str p, .int k])) ∨ ∃ l : Addr, H t = some (.tup [.str "fine", .ref l])
def spRulesOf (_ : PySem.W.Frag) : Sp := fun vs H Q _ => ∃ (v : V) (fs : Fs), vs = [v] ∧ Rep H (filesD fs) v ∧ Short fs ∧ ∀ (t : Addr) (H' : Hp), Same H H' → RulesV H' t → Q (.ref t) H'
section
variable {P : Program} {w : World} {K : PySem.W.Frag} {mg : Str → Option Value} {base : Heap}
abbrev s_l_rules : Stmt := topS 58
theorem sc_l_rules : FnScope ["files", "made", "one", "rows", "k", "parts", "bad", "words", "targets", "row", "name"] ["files"] (defScope s_l_rules) := ⟨rfl, rfl, rfl, by decide +kernel, rfl, by decide +kernel, by decide +kernel⟩
theorem ok_l_rules {f : Addr} {fd : FuncData} (F : Fun K "_law_rules" "_law_rules" s_l_rules f fd) (T : Glo mg) (c_l_lines : C8.Cal P w K mg base 1 "_law_lines" (spLines K) []) (c_l_parts : C8.Cal P w K mg base 1 "_law_parts" (spParts K) []) (c_l_is_word : C8.Cal P w K mg base 1 "_law_is_word" (spWordG K) []) (c_l_end_of : C8.Cal P w K mg base 64 "_law_end_of" (spEnd K 61) []) (c_l_deps : C8.Cal P w K mg base 1 "_law_deps" (spDeps K) []) :
    FnOk P w K mg base CX0 65 f fd ["files"] (spRulesOf K) := by
  refine F.ok sc_l_rules (fun vs H Q E h => ?_) (fun cdv A outer s H vs Q E hr h => ?_)
  · obtain ⟨v, fs, rfl, _⟩ := h
    rfl
  · obtain ⟨v, fs, rfl, hf, sf, kk⟩ := h
    refine ⟨_, (pss_cons (ps_set (i := 1) sc_l_rules.nd rfl (.inl rfl) (pe_lst pa_nil))
      (pss_cons (ps_for PassesOwn.never rfl (pi_tup (pv 0)) (pg_name (i := 2) sc_l_rules.nd rfl (.inl rfl))
      (pss_one (ps_if (pt_cmpR op_eq (pe_slice sl_str (pe_ix ix_tup (pv 2) pe_int (fun _ _ => rfl)) po_none (po_some pe_int)) pe_str (nomark _))
        (pss_cons (ps_set (i := 3) sc_l_rules.nd rfl (.inl rfl) (C8.pe_c c_l_lines hr (by omega) (by rfl) (pa_cons (pe_ix ix_tup (pv 2) pe_int (fun _ _ => rfl)) pa_nil)))
          (pss_one (ps_for PassesOwn.never rfl (pi_range1 (by rfl) T.range (pa_cons (pe_callB call_len_seq (by rfl) T.len PySem.boot_len (pa_cons (pv 3) pa_nil)) pa_nil)) (pg_name (i := 4) sc_l_rules.nd rfl (.inl rfl))
          (pss_one (ps_if (pt_cmpR op_ne (pe_ix ix_list (pv 3) (pv 4) (fun _ _ => rfl)) pe_str (nomark _))
            (pss_cons (ps_set (i := 5) sc_l_rules.nd rfl (.inl rfl) (C8.pe_c c_l_parts hr (by omega) (by rfl) (pa_cons (pe_ix ix_list (pv 3) (pv 4) (fun _ _ => rfl)) pa_nil)))
              (pss_cons (ps_set (i := 6) sc_l_rules.nd rfl (.inl rfl) (pe_tup (pa_cons pe_str (pa_cons (pe_ix ix_tup (pv 2) pe_int (fun _ _ => rfl)) (pa_cons (pe_op op_add (pv 4) pe_int) pa_nil)))))
              (C8.pss_cut (ps_if (PW.pt (pw_or (pt_cmp (pc_isN (pv 5))) (pw_or (pt_cmpR op_lt (pe_callB call_len_seq (by rfl) T.len PySem.boot_len (pa_cons (pv 5) pa_nil)) pe_int (nomark _)) (pw_or (pt_cmpR op_notIn_seq (pe_ix ix_list (pv 5) pe_int (fun _ _ => rfl)) (pe_lst (pa_strs rfl)) (by rfl)) (pw_or (pt_not (pt_val (C8.pe_c c_l_is_word hr (by omega) (by rfl) (pa_cons (pe_ix ix_list (pv 5) pe_int (fun _ _ => rfl)) pa_nil)))) (pw_or1 (pt_cmpR op_ne (pe_ix ix_list (pv 5) pe_int (fun _ _ => rfl)) pe_str (nomark _))))))))
              (pss_one (ps_ret (pv 6)))
              pss_nil)
              (pss_cons (ps_set (i := 7) sc_l_rules.nd rfl (.inl rfl) (pe_callTy call_tuple_of (by rfl) T.tuple PyProof.Rows.boot_tuple (pa_cons (pe_slice sl_list (pv 5) (po_some pe_int) po_none) pa_nil)))
              (C8.pss_cut (ps_if (PW.pt (pw_or (pt_cmpR op_gt (pe_callB call_len_seq (by rfl) T.len PySem.boot_len (pa_cons (pv 7) pa_nil)) pe_int (nomark _)) (pw_or (pt_cmpR op_ne (C8.pe_c c_l_end_of hr (by omega) (by rfl) (pa_cons (pv 7) (pa_cons pe_int pa_nil))) (pe_callB call_len_seq (by rfl) T.len PySem.boot_len (pa_cons (pv 7) pa_nil)) (nomark _)) (pw_or (pt_cmpR op_eq (pe_callB call_len_seq (by rfl) T.len PySem.boot_len (pa_cons (pv 1) pa_nil)) pe_int (nomark _)) (pw_or1 (pt_cmpR op_in_seq (pe_ix ix_list (pv 5) pe_int (fun _ _ => rfl)) (pe_lc (own := [("row", 9)]) (g := gName 9) (tt := tYes) rfl sc_l_rules.nd (pi_list (pv 1)) (blkOk_by (N := ["files", "made", "one", "rows", "k", "parts", "bad", "words", "targets", "row", "name"]) (sc := defScope s_l_rules) (by decide +kernel)) (fun _ _ _ _ _ => (pg_name (i := 9) sc_l_rules.nd rfl (.inl rfl))) (fun _ _ _ _ _ => pts_nil) (fun _ _ _ _ _ => (pe_ix (r := rIxT K) ix_tup (pv 9) pe_int (fun _ _ => rfl)))) (by rfl)))))))
              (pss_one (ps_ret (pv 6)))
              pss_nil)
              (pss_cons (ps_set (i := 8) sc_l_rules.nd rfl (.inr rfl) (pe_lc (own := [("row", 9)]) (g := gName 9) (tt := _) rfl sc_l_rules.nd (pi_list (pv 1)) (blkOk_by (N := ["files", "made", "one", "rows", "k", "parts", "bad", "words", "targets", "row", "name"]) (sc := defScope s_l_rules) (by decide +kernel)) (fun _ _ _ _ _ => (pg_name (i := 9) sc_l_rules.nd rfl (.inl rfl))) (fun _ _ _ _ _ => (pts_one (pt_cmpR op_eq (pe_ix (r := rIxT K) ix_tup (pv 9) pe_int (fun _ _ => rfl)) pe_str (nomark _)))) (fun _ _ _ _ _ => (pe_ix (r := rIxT K) ix_tup (pv 9) pe_int (fun _ _ => rfl)))))
              (pss_cons (ps_if (pt_cmpR op_gt (pe_callB call_len_seq (by rfl) T.len PySem.boot_len (pa_cons (pe_lc (own := [("name", 10)]) (g := gName 10) (tt := _) rfl sc_l_rules.nd (pi_list (C8.pe_c c_l_deps hr (by omega) (by rfl) (pa_cons (pv 7) (pa_cons pe_int pa_nil)))) (blkOk_by (N := ["files", "made", "one", "rows", "k", "parts", "bad", "words", "targets", "row", "name"]) (sc := defScope s_l_rules) (by decide +kernel)) (fun _ _ _ _ _ => (pg_name (i := 10) sc_l_rules.nd rfl (.inl rfl))) (fun _ _ _ _ _ => (pts_one (pt_cmpR (r := rIn K true) op_notIn_seq (pv 10) (pv 8) (by rfl)))) (fun _ _ _ _ _ => (pv 10))) pa_nil)) pe_int (nomark _))
              (pss_one (ps_ret (pv 6)))
              pss_nil)
              (pss_one (ps_expr (pe_bm PySem.F.plainAttrs_list PySem.F.slot_list_append PySem.F.type_list_append mt_append (pv 1) (pa_cons (pe_tup (pa_cons (pe_ix ix_list (pv 5) pe_int (fun _ _ => rfl)) (pa_cons (pe_ix ix_list (pv 5) pe_int (fun _ _ => rfl)) (pa_cons (pv 7) pa_nil)))) pa_nil)))))))))))
            pss_nil)))))
        pss_nil)))
      (pss_one (ps_ret (pe_tup (pa_cons pe_str (pa_cons (pv 1) pa_nil))))))), ?_⟩
    obtain ⟨ft, fvs, rfl, hft, hfz, hfs⟩ := id hf
    have fl := hfs.len
    rw [List.length_map] at fl
    refine st_seq (st_asg ?_)
    refine ⟨(by show 0 ≤ sizeLine; decide), fun D hD => st_g ?_⟩
    dsimp only
    have s1 : Same H (upd H D (.lst [])) := Same.new hD
    have d1 : upd H D (.lst []) D = some (.lst []) := upd_same
    generalize upd H D (.lst []) = H1 at s1 d1 ⊢
    refine st_seq ?_
    refine ⟨_, rfl, ft, rfl, ⟨_, .inl (Rd.same s1 hft)⟩, for_tup (K := K) (a := ft) (xs := fvs) (fun i σ H2 => ∃ (k2 k3 k4 k5 k6 k7 k8 : Option V) (vs : List V) (qs : List (Str × Str)), σ = [some (.ref ft), some (.ref D), k2, k3, k4, k5, k6, k7, k8, none, none] ∧ Same H H2 ∧ H2 D = some (.lst vs) ∧ Paired (RowM H2) vs qs ∧ qs.length ≤ 40)
      ⟨_, _, _, _, _, _, _, [], [], rfl, s1, d1, .nil, Nat.zero_le _⟩ (fun i σ H2 _ ⟨_, _, _, _, _, _, _, _, _, _, z, _⟩ => .inl (Rd.same z hft)) ?_ ?_⟩
    · rintro i x σ H2 hx ⟨k2, k3, k4, k5, k6, k7, k8, vs, qs, rfl, s2, d2, pr2, ql2⟩
      have hil : i < fs.length := by
        have := (List.getElem?_eq_some_iff.mp hx).1
        omega
      have hq : fs[i]? = some fs[i] := List.getElem?_eq_getElem hil
      obtain ⟨v, hv, hrep⟩ := hfs.get (i := i) (d := pairD fs[i]) (by rw [List.getElem?_map, hq]; rfl)
      obtain rfl : v = x := Option.some.inj (hv.symm.trans hx)
      obtain ⟨t, rfl, ht⟩ := pair_of (hrep.keep (Same.tk s2))
      have cl := sf.ct _ (List.getElem_mem hil)
      have pl := sf.pth _ (List.getElem_mem hil)
      generalize fs[i] = q at hq ht cl pl
      refine st_g ?_
      dsimp only
      refine ⟨_, rfl, t, _, 0, _, rfl, rfl, .inl ht, rfl, _, rfl, q.1, rfl, by rw [sizeLine_eq]; omega, rfl, _, rfl, ite2 (fun _ => ?_) (fun _ => ⟨_, _, _, _, _, _, _, vs, qs, rfl, s2, d2, pr2, ql2⟩)⟩
      refine st_seq (st_asg ?_)
      refine ⟨_, rfl, t, _, 1, _, rfl, rfl, .inl ht, rfl, q.2, rfl, cl, fun rp H3 s3 hrp r3 => st_g ?_⟩
      dsimp only
      have rD : rp ≠ D := fun z => by
        rw [z, d2] at hrp
        cases hrp
      have ll := linesL_len q.2
      have sl := PyProof.Rows.split_le q.2 "\n"
      have lx : ∀ l ∈ linesL q.2, l.length ≤ 1000 := fun l hl => Nat.le_trans (PyProof.Rows.part_short (linesL_mem hl)) cl
      generalize linesL q.2 = ls at r3 ll lx
      replace r3 : H3 rp = some (.lst (ls.map V.str)) := r3
      have s03 : Same H H3 := fun b o z => s3 b o (s2 b o z)
      have d3 := s3 _ _ d2
      have pr3 := Paired.mono (fun v r h => RowM.same s3 h) pr2
      have ht0 : ∀ {H4 : Hp}, Same H2 H4 → Rd H4 t (.tup [.str q.1, .str q.2]) := fun s => Rd.same s ht
      refine ⟨_, rfl, rp, _, rfl, .inl (SqL.of r3), ?_⟩
      refine ⟨(ls.map V.str).length, rfl, (rng_ok2 (by rw [List.length_map]; omega)).1, (rng_ok2 (by rw [List.length_map]; omega)).2, for_range (n := (ls.map V.str).length) (fun j σ H4 => ∃ (k4 k5 k6 k7 k8 : Option V) (vs : List V) (qs : List (Str × Str)), σ = [some (.ref ft), some (.ref D), some (.ref t), some (.ref rp), k4, k5, k6, k7, k8, none, none] ∧ Same H H4 ∧ Rd H4 t (.tup [.str q.1, .str q.2]) ∧ H4 rp = some (.lst (ls.map V.str)) ∧ H4 D = some (.lst vs) ∧ Paired (RowM H4) vs qs ∧ qs.length ≤ 40)
        ⟨_, _, _, _, _, vs, qs, rfl, s03, ht0 s3, r3, d3, pr3, ql2⟩ ?_ ?_⟩
      · rintro j σ H4 hj ⟨k4, k5, k6, k7, k8, vs, qs, rfl, s4, t4, r4, d4, pr4, ql4⟩
        rw [List.length_map] at hj
        have hl : ls[j]? = some ls[j] := List.getElem?_eq_getElem hj
        have lm := lx _ (List.getElem_mem hj)
        generalize ls[j] = l at hl lm
        have at_ : atI (ls.map V.str) (j : Int) = some (.str l) := atI_nat (by rw [List.getElem?_map, hl]; rfl)
        refine st_g ?_
        rw [Int.zero_add]
        dsimp only
        refine ⟨_, rfl, _, rfl, rp, _, _, _, rfl, rfl, SqL.of r4, at_, rfl, _, rfl, ite2 (fun _ => ?_) (fun _ => ⟨_, _, _, _, _, vs, qs, rfl, s4, t4, r4, d4, pr4, ql4⟩)⟩
        refine st_seq (st_asg ?_)
        refine ⟨_, rfl, _, rfl, rp, _, _, _, rfl, rfl, SqL.of r4, at_, l, rfl, lm, fun pl0 H5 s5 hpl0 p5 => st_g ?_⟩
        dsimp only
        have sp := PyProof.Rows.split_le l " "
        have px : ∀ y ∈ Txt.split l " ", y.length ≤ 1000 := fun y hy => Nat.le_trans (PyProof.Rows.part_short hy) lm
        generalize Txt.split l " " = ps at p5 sp px
        replace p5 : H5 pl0 = some (.lst (ps.map V.str)) := p5
        refine st_seq (st_asg ?_)
        refine ⟨_, rfl, t, _, 0, _, rfl, rfl, .inl (Rd.same s5 t4), rfl, _, rfl, _, _, rfl, rfl, (by show 3 ≤ sizeLine; decide), fun bt hbt => st_g ?_⟩
        dsimp only
        have s56 : Same H5 (upd H5 bt (.tup [.str "bad", .str q.1, .int ((j : Int) + 1)])) := Same.new hbt
        have b6 : upd H5 bt (.tup [.str "bad", .str q.1, .int ((j : Int) + 1)]) bt = some (.tup [.str "bad", .str q.1, .int ((j : Int) + 1)]) := upd_same
        generalize upd H5 bt (.tup [.str "bad", .str q.1, .int ((j : Int) + 1)]) = H6 at s56 b6 ⊢
        have s46 : Same H4 H6 := fun b o z => s56 b o (s5 b o z)
        have s06 : Same H H6 := fun b o z => s46 b o (s4 b o z)
        have bad : ∀ {H7 : Hp}, Same H6 H7 → Q (.ref bt) H7 := fun s => kk bt _ (fun b o z => s b o (s06 b o z)) (.inl ⟨_, _, s _ _ b6⟩)
        have p6 := s56 _ _ p5
        by_cases ce : ("" : Str) ∈ ps
        · rw [if_pos ce]
          refine ⟨fun _ _ => False, ?_, fun _ _ h => h.elim⟩
          exact ⟨_, rfl, _, rfl, iteT ⟨_, rfl, bad (Same.refl _)⟩⟩
        rw [if_neg ce]
        have gx : ∀ i, i < ps.length → (ps.getD i "").length ≤ 1000 := fun i hi => by
          rw [List.getD_eq_getElem?_getD, List.getElem?_eq_getElem hi]
          exact px _ (List.getElem_mem hi)
        refine ⟨fun σ' H7 => σ' = [some (.ref ft), some (.ref D), some (.ref t), some (.ref rp), some (.int (j : Int)), some (.ref pl0), some (.ref bt), k7, k8, none, none] ∧ Same H6 H7 ∧ 4 ≤ ps.length, ?_, ?_⟩
        · refine ⟨_, rfl, _, rfl, iteF ?_⟩
          refine ⟨_, rfl, pl0, _, rfl, .inl (SqL.of p6), _, _, rfl, rfl, _, rfl, ite2 (fun _ => ⟨_, rfl, bad (Same.refl _)⟩) (fun z => ?_)⟩
          have z := of_decide_eq_false (Bool.not_eq_true _ ▸ z)
          rw [List.length_map] at z
          refine ⟨_, rfl, pl0, _, 0, _, rfl, rfl, SqL.of p6, at_str (i := 0) (by omega), (by show 2 ≤ sizeLine; decide), fun q2 hq2 => ⟨q2, _, rfl, .inl (SqL.of upd_same), rfl, flat_strs ["target", "test"], _, rfl, ?_⟩⟩
          have s7 : Same H6 (upd H6 q2 (.lst ((["target", "test"] : List Str).map V.str))) := Same.new hq2
          show if (!inV (.str (ps.getD 0 "")) ((["target", "test"] : List Str).map V.str)) = true then _ else _
          generalize upd H6 q2 (.lst ((["target", "test"] : List Str).map V.str)) = H7 at s7 ⊢
          have p7 := s7 _ _ p6
          refine ite2 (fun _ => ⟨_, rfl, bad s7⟩) (fun _ => ?_)
          refine ⟨_, rfl, pl0, _, 1, _, rfl, rfl, SqL.of p7, at_str (i := 1) (by omega), _, rfl, by have := gx 1 (by omega); omega, _, rfl, ?_⟩
          refine ite2 (fun _ => ⟨_, rfl, bad s7⟩) (fun _ => ?_)
          exact ⟨_, rfl, pl0, _, 2, _, rfl, rfl, SqL.of p7, at_str (i := 2) (by omega), rfl, _, rfl, ite2 (fun _ => ⟨_, rfl, bad s7⟩) (fun _ => ⟨rfl, s7, by omega⟩)⟩
        rintro σ' H7 ⟨rfl, s7, l4⟩
        have p7 := s7 _ _ p6
        have s47 : Same H4 H7 := fun b o z => s7 b o (s46 b o z)
        have d7 := s47 _ _ d4
        refine st_seq (st_asg ?_)
        refine ⟨_, rfl, _, rfl, pl0, _, rfl, SqL.of p7, fun q3 hq3 => ?_⟩
        rw [show cutV (ps.map V.str) (some 3) none = (ps.drop 3).map V.str from cut_drop ps 3]
        refine ⟨q3, _, rfl, .inl ⟨SqL.of upd_same, fun wt hwt => st_g ?_⟩⟩
        dsimp only
        have s8 : Same H7 (upd H7 q3 (.lst ((ps.drop 3).map V.str))) := Same.new hq3
        generalize upd H7 q3 (.lst ((ps.drop 3).map V.str)) = H8 at s8 hwt ⊢
        have s89 : Same H8 (upd H8 wt (.tup ((ps.drop 3).map V.str))) := Same.new hwt
        have w9 : upd H8 wt (.tup ((ps.drop 3).map V.str)) wt = some (.tup ((ps.drop 3).map V.str)) := upd_same
        generalize upd H8 wt (.tup ((ps.drop 3).map V.str)) = H9 at s89 w9 ⊢
        have s79 : Same H7 H9 := fun b o z => s89 b o (s8 b o z)
        have wx : ∀ y ∈ ps.drop 3, y.length ≤ 1000 := fun y hy => px y (List.mem_of_mem_drop hy)
        generalize ps.drop 3 = ws at w9 wx
        have s69 : Same H6 H9 := fun b o z => s79 b o (s7 b o z)
        have s49 : Same H4 H9 := fun b o z => s69 b o (s46 b o z)
        have p9 := s79 _ _ p7
        have d9 := s49 _ _ d4
        have ql := pr4.length
        refine ⟨fun σ' H10 => σ' = [some (.ref ft), some (.ref D), some (.ref t), some (.ref rp), some (.int (j : Int)), some (.ref pl0), some (.ref bt), some (.ref wt), k8, none, none] ∧ Same H9 H10 ∧ ws.length ≤ 60 ∧ endP ws 61 0 = some ws.length ∧ qs.length < 40, ?_, ?_⟩
        · refine ⟨_, rfl, wt, _, rfl, .inr (SqT.of w9), _, _, rfl, rfl, _, rfl, ite2 (fun _ => ⟨_, rfl, bad s69⟩) (fun z => ?_)⟩
          have z := of_decide_eq_false (Bool.not_eq_true _ ▸ z)
          rw [List.length_map] at z
          refine ⟨_, rfl, wt, ws, 0, rfl, .inl w9, wx, by omega, Nat.zero_le _, by omega, fun H10 s10 => ?_⟩
          have s610 : Same H6 H10 := fun b o z => s10 b o (s69 b o z)
          have w10 := s10 _ _ w9
          have d10 := s10 _ _ d9
          have p10 := s10 _ _ p9
          have pr10 := Paired.mono (fun v r h => RowM.same (fun b o z => s10 b o (s49 b o z)) h) pr4
          refine ⟨_, rfl, wt, _, rfl, .inr (SqT.of w10), by cases endP ws 61 0 <;> rfl, _, rfl, ?_⟩
          rw [List.length_map]
          cases ee : endP ws 61 0 with
          | none => exact iteT ⟨_, rfl, bad s610⟩
          | some e =>
            by_cases el : e = ws.length
            case neg =>
              rw [decide_eq_false (show encN (some e) ≠ V.int (ws.length : Int) from fun h => el (by have := V.int.inj h; omega))]
              exact iteT ⟨_, rfl, bad s610⟩
            rw [decide_eq_true (show encN (some e) = V.int (ws.length : Int) by rw [el]; rfl)]
            refine iteF ?_
            refine ⟨_, rfl, D, _, rfl, .inl (SqL.of d10), rfl, _, rfl, ite2 (fun _ => ⟨_, rfl, bad s610⟩) (fun z2 => ?_)⟩
            have nq : qs.length ≠ 40 := fun h => z2 (decide_eq_true (by rw [ql, h]; rfl))
            refine ⟨_, rfl, pl0, _, 1, _, rfl, rfl, SqL.of p10, at_str (i := 1) (by omega), _, rfl, D, rfl, ⟨_, SqL.of d10⟩, fun B hB => lc_list (K := K) (a := D) (xs := vs) (fun m H11 => Same H10 H11 ∧ ∃ ys : List Str, H11 B = some (.lst (ys.map V.str)) ∧ ys.length = m) ⟨Same.new hB, [], upd_same, rfl⟩ (fun m H11 _ z => SqL.of (z.1 _ _ d10)) ?_ ?_⟩
            · rintro m y H11 hy ⟨s11, ys, e11, yl⟩
              have hm : m < qs.length := by
                have := (List.getElem?_eq_some_iff.mp hy).1
                omega
              obtain ⟨t2, u2, rfl, h2⟩ := pair_at pr10 hy (List.getElem?_eq_getElem hm)
              refine ⟨rfl, _, rfl, t2, _, 1, _, rfl, rfl, SqT.of (s11 _ _ h2), rfl, _, e11, ?_, Same.mut s11 hB, ys ++ [qs[m].2], by rw [upd_same, List.map_append]; rfl, by rw [List.length_append]; simp only [List.length_cons, List.length_nil]; omega⟩
              rw [List.length_map]
              exact small_lt (by omega)
            · rintro H11 ⟨s11, ys, e11, yl⟩
              refine ⟨B, _, rfl, .inl (SqL.of e11), rfl, flat_strs _, _, rfl, ?_⟩
              refine ite2 (fun _ => ⟨_, rfl, bad fun b o z => s11 b o (s610 b o z)⟩) (fun _ => ⟨rfl, fun b o z => s11 b o (s10 b o z), by omega, by rw [el], by omega⟩)
        rintro σ' H10 ⟨rfl, s10, wl, ee, ql40⟩
        have s410 : Same H4 H10 := fun b o z => s10 b o (s49 b o z)
        have s610 : Same H6 H10 := fun b o z => s10 b o (s69 b o z)
        have d10 := s10 _ _ d9
        have p10 := s10 _ _ p9
        have w10 := s10 _ _ w9
        have pr10 := Paired.mono (fun v r h => RowM.same s410 h) pr4
        refine st_seq (st_asg ?_)
        refine ⟨_, rfl, D, rfl, ⟨_, SqL.of d10⟩, fun B hB => lc_list (K := K) (a := D) (xs := vs) (fun m H11 => Same H10 H11 ∧ ∃ ys : List Str, H11 B = some (.lst (ys.map V.str)) ∧ ys.length ≤ m) ⟨Same.new hB, [], upd_same, Nat.le_refl _⟩ (fun m H11 _ z => SqL.of (z.1 _ _ d10)) ?_ ?_⟩
        · rintro m y H11 hy ⟨s11, ys, e11, yl⟩
          have hm : m < qs.length := by
            have := (List.getElem?_eq_some_iff.mp hy).1
            omega
          obtain ⟨t2, u2, rfl, h2⟩ := pair_at pr10 hy (List.getElem?_eq_getElem hm)
          refine ⟨rfl, _, rfl, t2, _, 0, _, rfl, rfl, SqT.of (s11 _ _ h2), rfl, rfl, _, rfl, ite2 (fun _ => ?_) (fun _ => ⟨s11, ys, e11, by omega⟩)⟩
          refine ⟨_, rfl, t2, _, 1, _, rfl, rfl, SqT.of (s11 _ _ h2), rfl, _, e11, ?_, Same.mut s11 hB, ys ++ [qs[m].2], by rw [upd_same, List.map_append]; rfl, by rw [List.length_append]; simp only [List.length_cons, List.length_nil]; omega⟩
          rw [List.length_map]
          exact small_lt (by omega)
        rintro H11 ⟨s11, ys, e11, yl⟩
        refine st_g ?_
        dsimp only
        refine st_seq ?_
        have w11 := s11 _ _ w10
        refine ⟨_, rfl, wt, ws, rfl, .inl w11, wx, wl, endP_reach ws 61 0 _ ee, fun L zs H12 s12 hL e12 zl zx => ?_⟩
        replace e12 : H12 L = some (.lst (zs.map V.str)) := e12
        have e12' := s12 _ _ e11
        refine ⟨L, rfl, ⟨_, SqL.of e12⟩, fun C hC => lc_list (K := K) (a := L) (xs := zs.map V.str) (fun m H13 => Same H12 H13 ∧ ∃ us : List Str, H13 C = some (.lst (us.map V.str)) ∧ us.length ≤ m) ⟨Same.new hC, [], upd_same, Nat.le_refl _⟩ (fun m H13 _ z => SqL.of (z.1 _ _ e12)) ?_ ?_⟩
        · rintro m y H13 hy ⟨s13, us, e13, ul⟩
          rw [List.getElem?_map] at hy
          obtain ⟨n, hn, rfl⟩ := Option.map_eq_some_iff.mp hy
          have hm : m < zs.length := (List.getElem?_eq_some_iff.mp hn).1
          refine ⟨rfl, _, rfl, _, rfl, B, _, rfl, .inl (SqL.of (s13 _ _ e12')), rfl, flat_strs _, _, rfl, ite2 (fun _ => ?_) (fun _ => ⟨s13, us, e13, by omega⟩)⟩
          refine ⟨_, rfl, _, e13, ?_, Same.mut s13 hC, us ++ [n], by rw [upd_same, List.map_append]; rfl, by rw [List.length_append]; simp only [List.length_cons, List.length_nil]; omega⟩
          rw [List.length_map]
          exact small_lt (by omega)
        rintro H13 ⟨s13, us, e13, ul⟩
        have s1013 : Same H10 H13 := fun b o z => s13 b o (s12 b o (s11 b o z))
        have s413 : Same H4 H13 := fun b o z => s1013 b o (s410 b o z)
        refine ⟨C, _, rfl, .inl (SqL.of e13), _, _, rfl, rfl, _, rfl, ite2 (fun _ => ⟨_, rfl, bad fun b o z => s1013 b o (s610 b o z)⟩) (fun _ => st_next ?_)⟩
        dsimp only
        have d13 := s1013 _ _ d10
        have p13 := s1013 _ _ p10
        refine ⟨_, rfl, .inl ⟨rfl, _, SqL.of d13⟩, _, rfl, pl0, _, 0, _, rfl, rfl, SqL.of p13, at_str (i := 0) (by omega), _, rfl, pl0, _, 1, _, rfl, rfl, SqL.of p13, at_str (i := 1) (by omega), _, rfl, (by show 3 ≤ sizeLine; decide), fun t5 ht5 => ?_⟩
        have s14 : Same H13 (upd H13 t5 (.tup [.str (ps.getD 0 ""), .str (ps.getD 1 ""), .ref wt])) := Same.new ht5
        have t55 : upd H13 t5 (.tup [.str (ps.getD 0 ""), .str (ps.getD 1 ""), .ref wt]) t5 = some (.tup [.str (ps.getD 0 ""), .str (ps.getD 1 ""), .ref wt]) := upd_same
        generalize upd H13 t5 (.tup [.str (ps.getD 0 ""), .str (ps.getD 1 ""), .ref wt]) = H14 at s14 t55 ⊢
        have d14 := s14 _ _ d13
        have s414 : Same H4 H14 := fun b o z => s14 b o (s413 b o z)
        have pr14 := Paired.mono (fun v r h => RowM.same s414 h) pr4
        refine ⟨D, _, _, rfl, rfl, d14, small_lt (by omega), _, _, _, _, _, vs ++ [.ref t5], qs ++ [(ps.getD 0 "", ps.getD 1 "")], rfl, Same.mut (fun b o z => s414 b o (s4 b o z)) hD, (Rd.same s414 t4).imp (fun h => by rw [upd_ne (ne_of h d14 (fun z => nomatch z))]; exact h) (fun ⟨o, h⟩ => ⟨o, by rw [upd_ne (ne_of h d14 (fun z => nomatch z))]; exact h⟩), by rw [upd_ne rD]; exact s414 _ _ r4, upd_same, ?_, by rw [List.length_append]; simp only [List.length_cons, List.length_nil]; omega⟩
        exact Paired.snoc (Paired.mono (fun v r h => RowM.upd d14 h) pr14) (RowM.upd d14 ⟨t5, .ref wt, rfl, t55⟩)
      · rintro σ H4 ⟨k4, k5, k6, k7, k8, vs, qs, rfl, s4, t4, r4, d4, pr4, ql4⟩
        exact ⟨_, _, _, _, _, _, _, vs, qs, rfl, s4, d4, pr4, ql4⟩
    · rintro σ H2 ⟨k2, k3, k4, k5, k6, k7, k8, vs, qs, rfl, s2, d2, pr2, ql2⟩
      refine ⟨_, rfl, (by show 2 ≤ sizeLine; decide), fun t ht => kk t _ (fun b o z => by rw [upd_ne (ne_of_none (s2 b o z) ht)]; exact s2 b o z) (.inr ⟨D, upd_same⟩)⟩
end
end Kl

namespace Kl
open PySem L2 Kd
/-! the law's check of a tree, own/rules alone -/
def ownAt : Fs → Option (Str × Nat)
  | [] => none
  | q :: r => if q.1 = "own/rules" then (match ownBad (linesL q.2) 0 with
    | some k => some (q.1, k)
    | none => ownAt r) else ownAt r
def spLCheck (_ : PySem.W.Frag) : Sp := fun vs H Q _ => ∃ (v : V) (hp : Addr) (fs : Fs), vs = [v, .ref hp] ∧ Rep H (filesD fs) v ∧ Short fs ∧ Strs H hp ["own"] ∧
  (ownAt fs = none → ∀ H' : Hp, Same H H' → Q .non H') ∧ ∀ (p : Str) (k : Nat), ownAt fs = some (p, k) → ∀ (t : Addr) (H' : Hp), Same H H' → H' t = some (.tup [.str p, .int (k : Int)]) → Q (.ref t) H'
section
variable {P : Program} {w : World} {K : PySem.W.Frag} {mg : Str → Option Value} {base : Heap}
abbrev s_l_check : Stmt := topS 59
theorem sc_l_check : FnScope ["files", "heads", "told", "one", "at"] ["files", "heads"] (defScope s_l_check) := ⟨rfl, rfl, rfl, by decide +kernel, rfl, by decide +kernel, by decide +kernel⟩
theorem ok_l_check {f : Addr} {fd : FuncData} (F : Fun K "_law_check" "_law_check" s_l_check f fd) (c_l_rules : C8.Cal P w K mg base 65 "_law_rules" (spRulesOf K) []) (c_l_own_wrong : C8.Cal P w K mg base 3 "_law_own_wrong" (spOwnWrong K) []) :
    FnOk P w K mg base CX0 66 f fd ["files", "heads"] (spLCheck K) := by
  refine F.ok sc_l_check (fun vs H Q E h => ?_) (fun cdv A outer s H vs Q E hr h => ?_)
  · obtain ⟨v, hp, fs, rfl, _⟩ := h
    rfl
  · obtain ⟨v, hp, fs, rfl, hf, sf, hh, k0, k1⟩ := h
    refine ⟨_, (pss_cons (ps_set (i := 2) sc_l_check.nd rfl (.inl rfl) (C8.pe_c c_l_rules hr (by omega) (by rfl) (pa_cons (pv 0) pa_nil)))
      (pss_cons (ps_for PassesOwn.never rfl (pi_tup (pv 0)) (pg_name (i := 3) sc_l_check.nd rfl (.inl rfl))
      (pss_cons (ps_set (i := 4) sc_l_check.nd rfl (.inl rfl) pe_non)
        (C8.pss_cut (ps_if (PW.pt (pw_and (pt_cmpR op_eq (pe_slice sl_str (pe_ix ix_tup (pv 3) pe_int (fun _ _ => rfl)) po_none (po_some pe_int)) pe_str (nomark _)) (pw_and1 (pt_cmpR op_in_seq pe_str (pv 1) (by rfl)))))
        (pss_one ps_never)
        pss_nil)
        (C8.pss_cut (ps_if (PW.pt (pw_and (pt_cmpR op_eq (pe_ix ix_tup (pv 3) pe_int (fun _ _ => rfl)) pe_str (nomark _)) (pw_and1 (pt_cmpR op_in_seq pe_str (pv 1) (by rfl)))))
        (pss_one ps_never)
        pss_nil)
        (C8.pss_cut (ps_if (PW.pt (pw_and (pt_cmpR op_eq (pe_ix ix_tup (pv 3) pe_int (fun _ _ => rfl)) pe_str (nomark _)) (pw_and1 (pt_cmpR op_in_seq pe_str (pv 1) (by rfl)))))
        (pss_one (ps_set (i := 4) sc_l_check.nd rfl (.inl rfl) (C8.pe_c c_l_own_wrong hr (by omega) (by rfl) (pa_cons (pe_ix ix_tup (pv 3) pe_int (fun _ _ => rfl)) pa_nil))))
        pss_nil)
        (C8.pss_cut (ps_if (PW.pt (pw_and (pt_cmpR op_eq (pe_ix ix_tup (pv 3) pe_int (fun _ _ => rfl)) pe_str (nomark _)) (pw_and1 (pt_cmpR op_in_seq pe_str (pv 1) (by rfl)))))
        (pss_one ps_never)
        pss_nil)
        (C8.pss_cut (ps_if (PW.pt (pw_and (pt_cmpR op_eq (pe_ix ix_tup (pv 2) pe_int (fun _ _ => rfl)) pe_str (nomark _)) (pw_and (pt_cmpR op_eq (pe_ix ix_tup (pv 2) pe_int (fun _ _ => rfl)) (pe_ix ix_tup (pv 3) pe_int (fun _ _ => rfl)) (nomark _)) (pw_and1 (pt_cmpR op_in_seq pe_str (pv 1) (by rfl))))))
        (pss_one ps_never)
        pss_nil)
        (pss_one (ps_if (pt_cmp (pc_notN (pv 4)))
        (pss_one (ps_ret (pe_tup (pa_cons (pe_ix ix_tup (pv 3) pe_int (fun _ _ => rfl)) (pa_cons (pv 4) pa_nil)))))
        pss_nil)))))))))
      (pss_one (ps_ret pe_non)))), ?_⟩
    obtain ⟨ft, fvs, rfl, hft, hfz, hfs⟩ := id hf
    have fl := hfs.len
    rw [List.length_map] at fl
    refine st_seq (st_asg ?_)
    refine ⟨_, rfl, .ref ft, fs, rfl, hf, sf, fun tl H1 s1 rv => st_g ?_⟩
    dsimp only
    refine st_seq ?_
    refine ⟨_, rfl, ft, rfl, ⟨_, .inl (Rd.same s1 hft)⟩, for_tup (K := K) (a := ft) (xs := fvs) (fun i σ H2 => ∃ (k3 k4 : Option V), σ = [some (.ref ft), some (.ref hp), some (.ref tl), k3, k4] ∧ Same H1 H2 ∧ ownAt fs = ownAt (fs.drop i))
      ⟨_, _, rfl, Same.refl _, rfl⟩ (fun i σ H2 _ ⟨_, _, _, z, _⟩ => .inl (Rd.same z (Rd.same s1 hft))) ?_ ?_⟩
    · rintro i x σ H2 hx ⟨k3, k4, rfl, s2, eq⟩
      have s02 : Same H H2 := fun b o z => s2 b o (s1 b o z)
      have hil : i < fs.length := by
        have := (List.getElem?_eq_some_iff.mp hx).1
        omega
      have hq : fs[i]? = some fs[i] := List.getElem?_eq_getElem hil
      obtain ⟨v, hv, hrep⟩ := hfs.get (i := i) (d := pairD fs[i]) (by rw [List.getElem?_map, hq]; rfl)
      obtain rfl : v = x := Option.some.inj (hv.symm.trans hx)
      obtain ⟨t, rfl, ht⟩ := pair_of (hrep.keep (Same.tk s02))
      have cl := sf.ct _ (List.getElem_mem hil)
      have pl := sf.pth _ (List.getElem_mem hil)
      rw [List.drop_eq_getElem_cons hil] at eq
      generalize fs[i] = q at hq ht cl pl eq
      replace eq : ownAt fs = if q.1 = "own/rules" then (match ownBad (linesL q.2) 0 with
        | some k => some (q.1, k)
        | none => ownAt (fs.drop (i + 1))) else ownAt (fs.drop (i + 1)) := eq
      have hh2 : H2 hp = some (.lst ((["own"] : List Str).map V.str)) := s02 _ _ hh
      refine st_g ?_
      dsimp only
      refine st_seq (st_asg (te_c (st_g ?_)))
      dsimp only
      have ht3 : ∀ {H3 : Hp}, Same H2 H3 → Rd H3 t (.tup [.str q.1, .str q.2]) := fun s => Rd.same s ht
      refine ⟨fun σ' H3 => σ' = [some (.ref ft), some (.ref hp), some (.ref tl), some (.ref t), some .non] ∧ H3 = H2, ?_, ?_⟩
      · refine ⟨_, rfl, t, _, 0, _, rfl, rfl, .inl ht, rfl, _, rfl, q.1, rfl, by rw [sizeLine_eq]; omega, rfl, _, rfl, ite2 (fun _ => ?_) (fun _ => iteF ⟨rfl, rfl⟩)⟩
        refine ⟨_, rfl, hp, _, rfl, .inl (SqL.of hh2), rfl, flat_strs ["own"], _, rfl, ?_⟩
        show if inV (.str "set") ((["own"] : List Str).map V.str) = true then _ else _
        rw [inV_strs, show decide (("set" : Str) ∈ (["own"] : List Str)) = false by decide +kernel]
        exact iteF ⟨rfl, rfl⟩
      rintro _ H2 ⟨rfl, rfl⟩
      refine ⟨fun σ' H3 => σ' = [some (.ref ft), some (.ref hp), some (.ref tl), some (.ref t), some .non] ∧ H3 = H2, ?_, ?_⟩
      · refine ⟨_, rfl, t, _, 0, _, rfl, rfl, .inl ht, rfl, rfl, _, rfl, ite2 (fun _ => ?_) (fun _ => iteF ⟨rfl, rfl⟩)⟩
        refine ⟨_, rfl, hp, _, rfl, .inl (SqL.of hh2), rfl, flat_strs ["own"], _, rfl, ?_⟩
        show if inV (.str "pack") ((["own"] : List Str).map V.str) = true then _ else _
        rw [inV_strs, show decide (("pack" : Str) ∈ (["own"] : List Str)) = false by decide +kernel]
        exact iteF ⟨rfl, rfl⟩
      rintro _ H2 ⟨rfl, rfl⟩
      refine ⟨fun σ' H3 => ∃ r : Option Nat, σ' = [some (.ref ft), some (.ref hp), some (.ref tl), some (.ref t), some (encN r)] ∧ Same H2 H3 ∧ ownAt fs = match r with
        | some k => some (q.1, k)
        | none => ownAt (fs.drop (i + 1)), ?_, ?_⟩
      · refine ⟨_, rfl, t, _, 0, _, rfl, rfl, .inl ht, rfl, rfl, _, rfl, ?_⟩
        by_cases c0 : q.1 = "own/rules"
        · rw [decide_eq_true (show V.str q.1 = V.str "own/rules" by rw [c0])]
          rw [if_pos c0] at eq
          refine iteT ⟨_, rfl, hp, _, rfl, .inl (SqL.of hh2), rfl, flat_strs ["own"], _, rfl, ?_⟩
          show if inV (.str "own") ((["own"] : List Str).map V.str) = true then _ else _
          rw [inV_strs, show decide (("own" : Str) ∈ (["own"] : List Str)) = true by decide +kernel]
          refine iteT (st_asg ?_)
          exact ⟨_, rfl, t, _, 1, _, rfl, rfl, .inl ht, rfl, q.2, rfl, cl, fun H3 s3 => st_g ⟨ownBad (linesL q.2) 0, rfl, s3, eq⟩⟩
        · rw [decide_eq_false (show V.str q.1 ≠ V.str "own/rules" from fun e => c0 (V.str.inj e))]
          rw [if_neg c0] at eq
          exact iteF (iteF ⟨none, rfl, Same.refl _, eq⟩)
      rintro _ H3 ⟨r, rfl, s3, eq⟩
      have hh3 := s3 _ _ hh2
      refine ⟨fun σ' H4 => σ' = [some (.ref ft), some (.ref hp), some (.ref tl), some (.ref t), some (encN r)] ∧ H4 = H3, ?_, ?_⟩
      · refine ⟨_, rfl, t, _, 0, _, rfl, rfl, .inl (ht3 s3), rfl, rfl, _, rfl, ite2 (fun _ => ?_) (fun _ => iteF ⟨rfl, rfl⟩)⟩
        refine ⟨_, rfl, hp, _, rfl, .inl (SqL.of hh3), rfl, flat_strs ["own"], _, rfl, ?_⟩
        show if inV (.str "fleet") ((["own"] : List Str).map V.str) = true then _ else _
        rw [inV_strs, show decide (("fleet" : Str) ∈ (["own"] : List Str)) = false by decide +kernel]
        exact iteF ⟨rfl, rfl⟩
      rintro _ H3 ⟨rfl, rfl⟩
      refine ⟨fun σ' H4 => σ' = [some (.ref ft), some (.ref hp), some (.ref tl), some (.ref t), some (encN r)] ∧ H4 = H3, ?_, ?_⟩
      · rcases rv with ⟨p, k, rv⟩ | ⟨l, rv⟩
        · have rv3 := s3 _ _ (s2 _ _ rv)
          refine ⟨_, rfl, tl, _, 0, _, rfl, rfl, SqT.of rv3, rfl, rfl, _, rfl, iteT ?_⟩
          refine ⟨_, rfl, tl, _, 1, _, rfl, rfl, SqT.of rv3, rfl, _, rfl, t, _, 0, _, rfl, rfl, .inl (ht3 s3), rfl, rfl, _, rfl, ite2 (fun _ => ?_) (fun _ => iteF ⟨rfl, rfl⟩)⟩
          refine ⟨_, rfl, hp, _, rfl, .inl (SqL.of hh3), rfl, flat_strs ["own"], _, rfl, ?_⟩
          show if inV (.str "build") ((["own"] : List Str).map V.str) = true then _ else _
          rw [inV_strs, show decide (("build" : Str) ∈ (["own"] : List Str)) = false by decide +kernel]
          exact iteF ⟨rfl, rfl⟩
        · have rv3 := s3 _ _ (s2 _ _ rv)
          exact ⟨_, rfl, tl, _, 0, _, rfl, rfl, SqT.of rv3, rfl, rfl, _, rfl, iteF (iteF ⟨rfl, rfl⟩)⟩
      rintro _ H3 ⟨rfl, rfl⟩
      refine ⟨_, rfl, _, rfl, ?_⟩
      have s03 : Same H H3 := fun b o z => s3 b o (s02 b o z)
      cases r with
      | none => exact iteF ⟨_, _, rfl, fun b o z => s3 b o (s2 b o z), eq⟩
      | some k =>
        refine iteT ⟨_, rfl, t, _, 0, _, rfl, rfl, .inl (ht3 s3), rfl, _, rfl, (by show 2 ≤ sizeLine; decide), fun t5 h5 => ?_⟩
        exact k1 q.1 k eq t5 _ (fun b o z => by rw [upd_ne (ne_of_none (s03 b o z) h5)]; exact s03 b o z) upd_same
    · rintro σ H2 ⟨k3, k4, rfl, s2, eq⟩
      rw [List.drop_of_length_le (by omega)] at eq
      exact k0 eq H2 fun b o z => s2 b o (s1 b o z)
end
end Kl

namespace Kl
open PySem L2 Kd
/-! k18: lists alone -/
def fb : List Row → Option (Str × Nat)
  | [] => none
  | r :: rs => if (apprP r.2.2).isNone = true then some (r.1, r.2.1) else fb rs
theorem fb_append : ∀ a b : List Row, fb (a ++ b) = match fb a with
    | some x => some x
    | none => fb b
  | [], b => rfl
  | r :: a, b => by
    rw [List.cons_append, fb, fb]
    split
    · rfl
    · exact fb_append a b
theorem fb_rows (p : Str) : ∀ (ls : List Str) (k : Nat), fb (rowsFrom p ls k) = (ownBad ls k).map fun n => (p, n)
  | [], _ => rfl
  | l :: r, k => by
    have ih := fb_rows p r (k + 1)
    rw [rowsFrom, fb_append, ownBad]
    unfold rowOf
    by_cases c : l = ""
    · rw [if_pos c, if_pos c]
      exact ih
    · rw [if_neg c, if_neg c]
      simp only [fb]
      by_cases d : (apprP (Txt.split l " ")).isNone = true
      · rw [if_pos d, if_pos d]
        rfl
      · rw [if_neg d, if_neg d]
        exact ih
theorem ownAt_fb : ∀ fs : Fs, ownAt fs = fb (rowsOf fs)
  | [] => rfl
  | q :: r => by
    have ih := ownAt_fb r
    show ownAt (q :: r) = fb ((if tellsB "own/rules" q.1 = true then linesP q.1 q.2 else []) ++ toldP "own/rules" r)
    rw [ownAt, fb_append, tells_own]
    by_cases c : q.1 = "own/rules"
    · rw [if_pos c, decide_eq_true c, if_pos rfl, lines_L, fb_rows]
      cases ownBad (linesL q.2) 0 with
      | none => exact ih
      | some k => rfl
    · rw [if_neg c, decide_eq_false c]
      exact ih
theorem fb_wrong : ∀ {rows : List Row} {r : Row}, WrongAt rows r → fb rows = some (r.1, r.2.1)
  | [], r, ⟨i, h, _⟩ => by simp at h
  | x :: rows, r, ⟨0, h, e, _⟩ => by
    obtain rfl := Option.some.inj h
    rw [fb, e]
    rfl
  | x :: rows, r, ⟨i + 1, h, e, a⟩ => by
    have hx := a x (by rw [List.take_succ_cons]; exact List.mem_cons_self ..)
    rw [fb]
    cases ex : apprP x.2.2 with
    | none => exact absurd ex hx
    | some b =>
      rw [if_neg (by simp)]
      exact fb_wrong ⟨i, h, e, fun r' hr => a r' (by rw [List.take_succ_cons]; exact List.mem_cons_of_mem _ hr)⟩
theorem fb_none : ∀ {rows : List Row}, fb rows = none → ∀ r ∈ rows, apprP r.2.2 ≠ none
  | [], _, r, h => by cases h
  | x :: rows, e, r, h => by
    rw [fb] at e
    split at e
    · cases e
    · rename_i c
      rcases List.mem_cons.mp h with h | h
      · rw [h]
        intro z
        exact c (by rw [z]; rfl)
      · exact fb_none e r h
theorem fb_some : ∀ {rows : List Row} {x : Str × Nat}, fb rows = some x → ∃ r, WrongAt rows r ∧ x = (r.1, r.2.1)
  | [], x, h => by cases h
  | y :: rows, x, h => by
    rw [fb] at h
    split at h
    · rename_i c
      exact ⟨y, ⟨0, rfl, Option.isNone_iff_eq_none.mp c, by simp⟩, (Option.some.inj h).symm⟩
    · rename_i c
      obtain ⟨r, ⟨i, h1, h2, h3⟩, e⟩ := fb_some h
      refine ⟨r, ⟨i + 1, h1, h2, fun r' hr => ?_⟩, e⟩
      rw [List.take_succ_cons] at hr
      rcases List.mem_cons.mp hr with z | z
      · rw [z]
        intro z
        exact c (by rw [z]; rfl)
      · exact h3 r' z
theorem ownAt_none {fs : Fs} (h : ownAt fs = none) : AllR fs := by
  rw [ownAt_fb] at h
  exact fb_none h
theorem ownAt_wrong {fs : Fs} {r : Row} (h : WrongAt (rowsOf fs) r) : ownAt fs = some (r.1, r.2.1) := by
  rw [ownAt_fb]
  exact fb_wrong h
theorem not_allR {fs : Fs} {x : Str × Nat} (h : ownAt fs = some x) : ¬ AllR fs := fun a => by
  rw [ownAt_fb] at h
  obtain ⟨r, ⟨i, h1, h2, _⟩, _⟩ := fb_some h
  exact a r (List.mem_of_getElem? h1) h2
/-- more names do no harm -/
theorem givenBy_le {O O' : List Str} (h : ∀ n ∈ O, n ∈ O') (a : Appr) : givenBy O a ≤ givenBy O' a := by
  unfold givenBy
  induction a.2.2.2 with
  | nil => exact Nat.le_refl _
  | cons x xs ih =>
    rw [List.filter_cons, List.filter_cons]
    by_cases c : x ∈ O
    · rw [decide_eq_true c, decide_eq_true (h x c)]
      simp only [if_true, List.length_cons]
      omega
    · rw [decide_eq_false c]
      by_cases d : x ∈ O'
      · rw [decide_eq_true d]
        simp only [if_true, List.length_cons]
        show (xs.filter fun n => decide (n ∈ O)).length ≤ _
        omega
      · rw [decide_eq_false d]
        exact ih
theorem byP_yes {O O' ps : List Str} (h : ∀ n ∈ O, n ∈ O') : ∀ (l : List (Nat × Appr)) (acc : List (Nat × Nat)) (x : D), byP O ps l acc = .tup [.str "yes", x] → byP O' ps l acc = byP O ps l acc
  | [], _, _, _ => rfl
  | q :: r, acc, x, e => by
    rw [byP] at e ⊢
    rw [byP]
    by_cases t : touchedB ps q.2 = true
    · rw [if_pos t] at e ⊢
      rw [if_pos t]
      by_cases c : (givenBy O q.2 : Int) < q.2.2.2.1
      · rw [if_pos c] at e
        have := D.str.inj (List.cons.inj (D.tup.inj e)).1
        exact absurd this (by decide +kernel)
      · rw [if_neg c] at e ⊢
        have := givenBy_le h q.2
        rw [if_neg (by omega)]
        exact byP_yes h r _ x e
    · rw [if_neg t] at e ⊢
      rw [if_neg t]
      exact byP_yes h r _ x e
theorem byP_same {O O' ps : List Str} (h : ∀ n, n ∈ O ↔ n ∈ O') (l : List (Nat × Appr)) : ∀ acc, byP O' ps l acc = byP O ps l acc := by
  have e : ∀ a, givenBy O' a = givenBy O a := fun a => Nat.le_antisymm (givenBy_le (fun n z => (h n).mpr z) a) (givenBy_le (fun n z => (h n).mp z) a)
  induction l with
  | nil => exact fun _ => rfl
  | cons q r ih =>
    intro acc
    rw [byP, byP, e, ih, ih]
theorem byP_head (O ps : List Str) : ∀ (l : List (Nat × Appr)) (acc : List (Nat × Nat)), (∃ x, byP O ps l acc = .tup [.str "yes", x]) ∨ ∃ x, byP O ps l acc = .tup [.str "no", x]
  | [], acc => .inl ⟨_, rfl⟩
  | q :: r, acc => by
    rw [byP]
    split
    · split
      · exact .inr ⟨_, rfl⟩
      · exact byP_head O ps r _
    · exact byP_head O ps r _
end Kl

namespace Kl
open PySem L2 Kd Kx
/-- what may raise, asked of what does not raise -/
theorem fn_calm {P : Program} {w : World} {K : PySem.W.Frag} {mg : Str → Option Value} {base : Heap} {k : Nat} {f : Addr} {fd : FuncData} {ps : List Str} {sp sp' : Sp} (F : FnOk P w K mg base (L2N.CX P w) k f fd ps sp)
    (h : ∀ vs H Q E, sp' vs H Q E → sp vs H Q C8.E0) : FnOk P w K mg base CX0 k f fd ps sp' :=
  ⟨fun vs H Q E q => F.len vs H Q C8.E0 (h _ _ _ _ q), fun A outer s H args us vs Q E hr he hb hv hs => codeAny_mono (F.run A outer s H args us vs Q C8.E0 hr he hb hv (h _ _ _ _ hs)) fun r s2 z => by
    match r, z with
    | .error e, z =>
      obtain ⟨_, _, _, _, _, _, _, _, _, _, _, _, hE⟩ := z
      exact hE.elim
    | .ok (.ret u), z => exact z
    | .ok .next, z => exact z
    | .ok .brk, z => exact z
    | .ok .cont, z => exact z⟩
def spApprovedG (_ : PySem.W.Frag) (C : Addr) : Sp := fun vs H Q _ => ∃ (a b g : Addr) (author : Str) (fs gs : Fs) (ns : List Str), vs = [.ref a, .ref b, .str author, .ref g] ∧ TreeAt C H a fs ∧ TreeAt C H b gs ∧ Two fs gs ∧ Short fs ∧ Short gs ∧ wordB author = true ∧ SeqAt H g (ns.map V.str) ∧ GivOk ns ∧ AllR fs ∧ AllR gs ∧
  ∀ (v : V) (ks : List Str) (H' : Hp), Same H H' → Asc ks → (∀ p, p ∈ ks ↔ p ∈ fs.map (·.1) ∨ p ∈ gs.map (·.1)) →
    Rep H' (byP (ns.filter fun n => decide (n ≠ author)) ((betweenL fs gs ks).map (·.1)) (restS (readOf fs) (readOf gs) 0) []) v → Q v H'
section
variable {P : Program} {w : World} {K : PySem.W.Frag} {mg : Str → Option Value} {base : Heap} {C CB : Addr}
theorem ok_approvedG {f : Addr} {fd : FuncData} (F : FnOk P w K mg base (L2N.CX P w) 5 f fd ["old", "new", "author", "given"] (spApproved K C CB)) : FnOk P w K mg base CX0 5 f fd ["old", "new", "author", "given"] (spApprovedG K C) :=
  fn_calm F fun vs H Q E ⟨a, b, g, author, fs, gs, ns, e, ha, hb, tw, sf, sg, wa, hg, go, af, ag, kk⟩ =>
    ⟨a, b, g, author, fs, gs, ns, e, ha, hb, tw, sf, sg, wa, hg, go, fun r ⟨i, hi, hn, _⟩ => absurd hn (af r (List.mem_of_getElem? hi)), fun _ r ⟨i, hi, hn, _⟩ => absurd hn (ag r (List.mem_of_getElem? hi)), fun _ _ => kk⟩
theorem ok_approvalsG {f : Addr} {fd : FuncData} (F : FnOk P w K mg base (L2N.CX P w) 5 f fd ["tree", "path"] (spApprovals K C)) : FnOk P w K mg base CX0 5 f fd ["tree", "path"] (spApprovals K C) :=
  fn_calm F fun vs H Q E h => h
end
end Kl

namespace Kl
open PySem L2 Kd
def goodB (fs : Fs) : Bool := fs.all (fun q => pathB q.1 && (decide (q.1.length ≤ 1000) && (decide (q.2.length ≤ 1000) && (q.2.cps.toList.all (fun c => c == 10 || okx c) && PyData.canLay0 (.str q.1))))) && (decide (Asc (fs.map (·.1))) && decide (fs.length ≤ 60))
theorem good_of {fs : Fs} (h : goodB fs = true) : Good fs := by
  unfold goodB at h
  simp only [Bool.and_eq_true, decide_eq_true_eq, List.all_eq_true] at h
  refine ⟨fun q hq => ?_, h.2.1, h.2.2⟩
  obtain ⟨h1, h2, h3, h4, h5⟩ := h.1 q hq
  refine ⟨h1, h2, ⟨h3, fun c hc => ?_⟩, h5⟩
  have := h4 c hc
  rw [Bool.or_eq_true] at this
  exact this.imp eq_of_beq id
end Kl

namespace Kl
open PySem L2 Kd
/-! k18's first trees -/
def nameF (k : Nat) : Str := ("f" : Str) ++ ((toString ((100 : Int) + (k : Int)) : String) : Str)
def ruleF (j : Nat) : Str := (("own " : Str) ++ nameF j) ++ (" 1 bob\n" : Str)
def treeN (m j : Nat) (c : Str) : Fs := ((List.range m).map fun k => (nameF k, c)) ++ [(("own/rules" : Str), ruleF j)]
theorem name_own : ∀ k, k < 22 → nameF k ≠ "own/rules" := by decide +kernel
theorem rules_at : ∀ j, j < 22 → (linesP "own/rules" (ruleF j)).map (fun r => r.2.1) = [1] := by decide +kernel
theorem rules_in : ∀ j, j < 22 → (linesP "own/rules" (ruleF j)).map (fun r => r.2.2) = [[("own" : Str), nameF j, ("1" : Str), ("bob" : Str)]] := by decide +kernel
theorem name_path : ∀ j, j < 22 → pathB (nameF j) = true := by decide +kernel
theorem rule_key (ps : List Str) (h0 : ps.getD 0 "" = "own") (l4 : 4 ≤ ps.length) (l9 : ps.length ≤ 9) (h1 : pathB (ps.getD 1 "") = true) (h2 : ps.getD 2 "" = "1") (h3 : ps.drop 3 = [("bob" : Str)]) : apprP ps = some (ps.getD 1 "", 1, [("bob" : Str)]) := by
  have d : digitP "1" = 1 := by decide +kernel
  unfold apprP
  rw [if_pos ⟨h0, l4, l9⟩, if_pos (.inr h1), h2, h3, d, if_pos ⟨by decide, by decide⟩, if_pos (by decide +kernel)]
theorem rule_appr {j : Nat} (h : j < 22) : apprP [("own" : Str), nameF j, ("1" : Str), ("bob" : Str)] = some (nameF j, 1, [("bob" : Str)]) :=
  rule_key [("own" : Str), nameF j, ("1" : Str), ("bob" : Str)] rfl (Nat.le_refl 4) (by show 4 ≤ 9; decide) (name_path j h) rfl rfl
/-- what the first trees tell -/
theorem first_rows {m j : Nat} (c : Str) (hm : m < 22) (hj : j < 22) : ∃ p : Str, rowsOf (treeN m j c) = [(p, 1, [("own" : Str), nameF j, ("1" : Str), ("bob" : Str)])] := by
  have e0 : ∀ l : List Nat, (∀ k ∈ l, k < 22) → toldP "own/rules" (l.map fun k => (nameF k, c)) = [] := fun l => by
    induction l with
    | nil => exact fun _ => rfl
    | cons k l ih =>
      intro h
      show (if tellsB "own/rules" (nameF k) = true then _ else []) ++ toldP "own/rules" (l.map fun k => (nameF k, c)) = []
      rw [ih fun k hk => h k (List.mem_cons_of_mem _ hk), tells_own, decide_eq_false (name_own k (h k (List.mem_cons_self ..)))]
      rfl
  have e1 : rowsOf (treeN m j c) = linesP "own/rules" (ruleF j) := by
    show toldP "own/rules" (((List.range m).map fun k => (nameF k, c)) ++ [(("own/rules" : Str), ruleF j)]) = _
    rw [toldP_append, e0 _ fun k hk => Nat.lt_trans (List.mem_range.mp hk) hm]
    show [] ++ ((if tellsB "own/rules" "own/rules" = true then linesP "own/rules" (ruleF j) else []) ++ []) = _
    rw [tells_own, decide_eq_true rfl, if_pos rfl, List.append_nil, List.nil_append]
  have h1 := rules_at j hj
  have h2 := rules_in j hj
  rw [e1]
  generalize linesP "own/rules" (ruleF j) = rows at h1 h2
  match rows, h1, h2 with
  | [(p, n, ps)], h1, h2 =>
    obtain rfl : n = 1 := (List.cons.inj h1).1
    obtain rfl : ps = _ := (List.cons.inj h2).1
    exact ⟨p, rfl⟩
theorem first_read {m j : Nat} (c : Str) (hm : m < 22) (hj : j < 22) : AllR (treeN m j c) ∧ readOf (treeN m j c) = [(1, nameF j, 1, [("bob" : Str)])] := by
  obtain ⟨p, e⟩ := first_rows c hm hj
  have a := rule_appr hj
  constructor
  · intro r hr
    rw [e] at hr
    rw [List.mem_singleton.mp hr, a]
    exact fun z => nomatch z
  · show (rowsOf (treeN m j c)).filterMap apprOf = _
    rw [e]
    have : apprOf (p, 1, [("own" : Str), nameF j, ("1" : Str), ("bob" : Str)]) = some (1, nameF j, 1, [("bob" : Str)]) := by
      unfold apprOf
      rw [a]
      rfl
    simp only [List.filterMap_cons, this, List.filterMap_nil]
theorem touch_self (p : Str) : touchB p p = true := by
  unfold touchB
  rw [decide_eq_true (rfl : p = p)]
  simp
/-- what is answered of them -/
theorem first_no {j : Nat} {ps : List Str} (h : nameF j ∈ ps) : byP [] ps (restS [(1, nameF j, 1, [("bob" : Str)])] [(1, nameF j, 1, [("bob" : Str)])] 0) [] = .tup [.str "no", sdD (0, 1)] := by
  have t : touchedB ps (1, nameF j, 1, [("bob" : Str)]) = true := List.any_eq_true.mpr ⟨_, h, touch_self _⟩
  show byP [] ps ((0, (1, nameF j, 1, [("bob" : Str)])) :: _) [] = _
  have g : ((givenBy [] (1, nameF j, 1, [("bob" : Str)]) : Nat) : Int) < 1 := by
    have : givenBy [] (1, nameF j, 1, [("bob" : Str)]) = 0 := rfl
    rw [this]
    decide
  rw [byP, if_pos t, if_pos g]
theorem first_yes {j : Nat} {ps : List Str} (h : nameF j ∈ ps) : byP [("bob" : Str)] ps (restS [(1, nameF j, 1, [("bob" : Str)])] [(1, nameF j, 1, [("bob" : Str)])] 0) [] = .tup [.str "yes", .tup [sdD (0, 1), sdD (1, 1)]] := by
  have t : touchedB ps (1, nameF j, 1, [("bob" : Str)]) = true := List.any_eq_true.mpr ⟨_, h, touch_self _⟩
  have g : ¬ ((givenBy [("bob" : Str)] (1, nameF j, 1, [("bob" : Str)]) : Nat) : Int) < 1 := by
    have : givenBy [("bob" : Str)] (1, nameF j, 1, [("bob" : Str)]) = 1 := rfl
    rw [this]
    decide
  show byP _ ps [(0, (1, nameF j, 1, [("bob" : Str)])), (1, (1, nameF j, 1, [("bob" : Str)]))] [] = _
  rw [byP, if_pos t, if_neg g, byP, if_pos t, if_neg g]
  rfl
theorem good_low : ∀ m, m < 22 → ∀ j, j < 22 → goodB (treeN m j "0") = true := by decide +kernel
theorem good_high : ∀ m, m < 22 → ∀ j, j < 22 → goodB (treeN m j "1") = true := by decide +kernel
end Kl

namespace Ks
open PySem PySem.Spec PyProof.Rows L2
/-- a def called with all its parameters by name -/
structure CalK (P : Program) (w : World) (K : PySem.W.Frag) (mg : Str → Option Value) (base : Heap) (k : Nat) (x : Str) (ks : List Str) (sp : Sp) : Prop where
  ex : ∃ (f : Addr) (fd : FuncData) (ps : List Str), FnOk P w K mg base C8.CX0 k f fd ps sp ∧ mg x = some (.ref f) ∧ PySem.W.keepIn K (.ref f) = true ∧ (∀ (s : Shared) (ws : List Value), K.In s.heap → ws.length = ks.length → BindsTo s fd ⟨[], ks.zip ws⟩ (ps.zip ws))
def tCallW (n : Nat) (sp : Sp) (tk : TA) : TE := fun σ H Q => tk σ H fun zs H2 => zs.length = n ∧ sp zs H2 Q C8.E0
section
variable {X : Cx} {k j : Nat} {x : Str} {ks : List Str} {sp : Sp} {p pos : Pos} {kws : List Keyword} {tk : TA}
theorem pe_k (c : CalK X.prog X.w X.K X.mg X.base k x ks sp) (hr : Room j X.A) (hk : k ≤ j) (hg : Gl X x) (hkw : PK X kws tk)
    (hall : (backToKw pos (keywordEach kws X.env)).all (·.1.isSome) = true := by rfl) (hks : (backToKw pos (keywordEach kws X.env)).filterMap (·.1) = ks := by rfl) (hdb : (x == ("__debug__" : Str)) = false := by decide)
    (hpl : ((backTo pos (starEach [] X.env)).any (·.1) || (backToKw pos (keywordEach kws X.env)).any (·.1.isNone)) = false := by rfl) :
    PE X (.Call (.Name x p) [] kws pos) (tCallW ks.length sp tk) := by
  obtain ⟨f, fd, ps, F, hm, kp, hb⟩ := c.ex
  refine ⟨fun pins s σ H Q I h => ?_⟩
  refine wpAny_Call_Name_kw (ld_glob I hg hm ?_ hdb)
  refine PySem.W.callWith_KW0 (h₀ := X.base) I.ok.mod.kin kp hall ?_ hpl
  refine thn (hkw.run pos pins s σ H _ I h) fun ws s2 ⟨zs, H2, I2, rz, l2, q2⟩ => ⟨I2.kIn, ?_⟩
  rw [hks]
  refine wpAny_call (codeAny_mono (F.run X.A X.stack s2 H2 ⟨[], ks.zip ws⟩ ws zs Q C8.E0 (hr.mono hk) I2.env0 (hb s2 ws I2.kIn (rz.length.symm.trans l2)) rz q2) fun r s' hq => ?_)
  cases r with
  | error e => exact False.elim hq
  | ok fl =>
    cases fl with
    | ret u => exact I2.after hq
    | next => exact False.elim hq
    | brk => exact False.elim hq
    | cont => exact False.elim hq
end
/-- a class made by one keyword -/
structure MakK (P : Program) (w : World) (K : PySem.W.Frag) (mg : Str → Option Value) (base : Heap) (k : Nat) (x : Str) (C : Addr) (ks : List Str) (sp : Sp) : Prop where
  ex : ∃ (f : Addr) (fd : FuncData) (ps : List Str) (g : List Value → List Value → List Value), Mk K C f ∧ FnOk P w K mg base C8.CX0 k f fd ps sp ∧ mg x = some (.ref C) ∧ KBn K fd ps 1 ks g (fun vs zs => vs ++ zs)
theorem pe_mkk {X : Cx} {k j : Nat} {x : Str} {C : Addr} {ks : List Str} {sp : Sp} {p pos : Pos} {kws : List Keyword} {tk : TA} (c : MakK X.prog X.w X.K X.mg X.base k x C ks sp) (hr : Room j X.A) (hk : k + 1 ≤ j) (hg : Gl X x) (hkw : PK X kws tk)
    (hall : (backToKw pos (keywordEach kws X.env)).all (·.1.isSome) = true := by rfl) (hks : (backToKw pos (keywordEach kws X.env)).filterMap (·.1) = ks := by rfl) (hdb : (x == ("__debug__" : Str)) = false := by decide)
    (hpl : ((backTo pos (starEach [] X.env)).any (·.1) || (backToKw pos (keywordEach kws X.env)).any (·.1.isNone)) = false := by rfl) :
    PE X (.Call (.Name x p) [] kws pos) (tMakeK C 0 ks.length sp (fun vs zs => vs ++ zs) C8.E0 tNil tk) := by
  obtain ⟨f, fd, ps, g, M, F, hm, hb⟩ := c.ex
  exact pe_makeK0 M F (hr.mono hk) hg hm hb C8.pass0 hkw hall hks hdb hpl
end Ks

namespace Kl
open PySem L2 Kd
/-! more steps -/
theorem te_makek {C : Addr} {sp : Sp} {gV : List V → List V → List V} {E : XK} {n m : Nat} {tk : TA} {σ : L2.St} {H : Hp} {Q : VK} (h0 : n = 0) (h : tk σ H fun zs H2 => zs.length = m ∧ ∀ x dx, H2 x = none → H2 dx = none → dx ≠ x → sp (gV [.ref x] zs) (upd (upd H2 dx (.own x)) x (.ins C dx [])) (fun v H3 => v = .non ∧ Q (.ref x) H3) E) : tMakeK C n m sp gV E tNil tk σ H Q := by
  subst h0
  show tk σ H _
  refine cast (congrArg _ ?_) h
  funext zs H2
  exact propext ⟨fun z => ⟨rfl, z⟩, fun z => z.2⟩
theorem te_callw {n : Nat} {sp : Sp} {tk : TA} {σ : L2.St} {H : Hp} {Q : VK} (h : tk σ H fun zs H2 => zs.length = n ∧ sp zs H2 Q C8.E0) : Ks.tCallW n sp tk σ H Q := h
theorem te_sl {r : V → Option Int → Option Int → Hp → VK → Prop} {te : TE} {tl th : TO} {σ : L2.St} {H : Hp} {Q : VK} (h : te σ H fun x H1 => tl σ H1 fun l H2 => th σ H2 fun u H3 => r x l u H3 Q) : tSl r te tl th σ H Q := h
theorem to_part {t : TE} {σ : L2.St} {H : Hp} {Q : Option Int → Hp → Prop} (h : t σ H fun x H1 => ∃ i, x = .int i ∧ Q (some i) H1) : tPart t σ H Q := h
theorem to_no {σ : L2.St} {H : Hp} {Q : Option Int → Hp → Prop} (h : Q none H) : tNoPart σ H Q := h
theorem te_un {r : V → Hp → VK → Prop} {ta : TE} {σ : L2.St} {H : Hp} {Q : VK} (h : ta σ H fun x H1 => r x H1 Q) : tUn r ta σ H Q := h
theorem tt_and {t u : TT} {σ : L2.St} {H : Hp} {Q : Bool → Hp → Prop} (h : t σ H fun c H1 => if c = true then u σ H1 Q else Q false H1) : tAnd t u σ H Q := h
/-- files[i] -/
theorem file_at {K : PySem.W.Frag} {ft : Addr} {fs : Fs} {H : Hp} {Q : VK} {i : Int} {j : Nat} {q : Str × Str} (hf : Rep H (filesD fs) (.ref ft)) (hi : ∀ vs : List V, vs.length = fs.length → ixN vs.length i = some j) (hq : fs[j]? = some q) (k : ∀ t : Addr, Rd H t (.tup [.str q.1, .str q.2]) → Q (.ref t) H) :
    rIxT K (.ref ft) (.int i) H Q := by
  obtain ⟨t, vs, e, h, hz, r⟩ := hf
  cases e
  have hl := r.len
  rw [List.length_map] at hl
  obtain ⟨v, hv, hrep⟩ := r.get (i := j) (d := pairD q) (by rw [List.getElem?_map, hq]; rfl)
  obtain ⟨t, rfl, ht⟩ := pair_of hrep
  refine ⟨ft, vs, i, .ref t, rfl, rfl, .inl h, ?_, k t ht⟩
  unfold atI
  rw [hi vs hl]
  exact hv
theorem pair0 {K : PySem.W.Frag} {t : Addr} {x y : Str} {H : Hp} {Q : VK} (ht : Rd H t (.tup [.str x, .str y])) (k : Q (.str x) H) : rIxT K (.ref t) (.int 0) H Q := ⟨t, _, 0, _, rfl, rfl, .inl ht, rfl, k⟩
theorem pair1 {K : PySem.W.Frag} {t : Addr} {x y : Str} {H : Hp} {Q : VK} (ht : Rd H t (.tup [.str x, .str y])) (k : Q (.str y) H) : rIxT K (.ref t) (.int 1) H Q := ⟨t, _, 1, _, rfl, rfl, .inl ht, rfl, k⟩
theorem ta_strs {xs : List Str} {σ : L2.St} {H : Hp} {Q : List V → Hp → Prop} (h : Q (xs.map V.str) H) : tStrs xs σ H Q := h
theorem te_op {r : R2} {ta tb : TE} {σ : L2.St} {H : Hp} {Q : VK} (h : ta σ H fun x H1 => tb σ H1 fun y H2 => r x y H2 Q) : tOp r ta tb σ H Q := h
theorem tt_or {t u : TT} {σ : L2.St} {H : Hp} {Q : Bool → Hp → Prop} (h : t σ H fun c H1 => if c = true then Q true H1 else u σ H1 Q) : tOr t u σ H Q := h
theorem te_drop {te : TE} {D : Ends} {σ : L2.St} {H : Hp} (h : te σ H fun _ H1 => D.nx σ H1) : tDrop te D σ H := h
theorem rep_two {H : Hp} {nm : Str} {d : Kd.D} {v : V} (h : Rep H (.tup [.str nm, d]) v) : ∃ (t : Addr) (u : V), v = .ref t ∧ Rd H t (.tup [.str nm, u]) ∧ Rep H d u := by
  obtain ⟨t, vs, rfl, ht, _, x, r, rfl, hx, y, r2, rfl, hy, hn⟩ := h
  cases (show r2 = [] from hn)
  cases (show x = V.str nm from hx)
  exact ⟨t, y, rfl, ht, hy⟩
abbrev Cell (H : Hp) (b : Addr) : Prop := ∃ i : Int, 0 ≤ i ∧ H b = some (.lst [.int i])
theorem Rep.go {b : Addr} {H H' : Hp} {d : D} {v : V} (c : Cell H b) (g : Go b H H') (h : Rep H d v) : Rep H' d v := h.keep (g.tk c)
theorem TreeAt.go {C b : Addr} {H H' : Hp} {a : Addr} {fs : Fs} (c : Cell H b) (g : Go b H H') (h : TreeAt C H a fs) : TreeAt C H' a fs := by
  obtain ⟨dx, t, ob, vs, h1, h2, h3, h4, h5⟩ := h
  obtain ⟨i, _, q⟩ := id c
  exact ⟨dx, t, ob, vs, g.keep _ _ (ne_of h1 q (fun z => nomatch z)) h1, g.keep _ _ (ne_of h2 q (fun z => nomatch z)) h2, h3, h4, h5.keep (g.tk c)⟩
end Kl

namespace Kl
open PySem L2 Kd
abbrev sSo : Stmt := topS 40
theorem scSo : FnScope ["found", "meant", "k"] ["found", "meant"] (defScope sSo) := ⟨rfl, rfl, rfl, by decide +kernel, rfl, by decide +kernel, by decide +kernel⟩
def spSo (n : Nat) : Sp := fun vs H Q _ => ∃ (a b : D) (v u : V), vs = [v, u] ∧ Rep H a v ∧ Rep H b u ∧ D.dep b < n ∧ Q (.bl (D.eqb a b)) H
theorem isi_of {K : PySem.W.Frag} {H : Hp} {d : D} {v : V} (T : String) {b : Bool} (r : Rep H d v) (k : PySem.W.kitOne K (.type d.ty) (.type T) = some b) {Q : VK} (q : Q (.bl b) H) : rIsi K [v, .ty T] H Q :=
  ⟨v, .ty T, .type d.ty, .type T, b, rfl, .ty T, r.ty, k, q⟩
section
variable {P : Program} {w : World} {K : PySem.W.Frag} {mg : Str → Option Value} {base : Heap}
theorem ok_so {f : Addr} {fd : FuncData} (F : At K mg "_law_so" sSo ["found", "meant"] f fd) (T : Glo mg) : ∀ n : Nat, FnOk P w K mg base CX0 n f fd ["found", "meant"] (spSo n)
  | 0 => ⟨fun vs H Q E ⟨a, b, v, u, e, _⟩ => by subst e; rfl, fun A outer s H args us vs Q E hr he hb hv ⟨a, b, v, u, e, _, _, d, _⟩ => absurd d (Nat.not_lt_zero _)⟩
  | n + 1 => by
    have G := ok_so F T n
    refine F.fn.ok scSo (fun vs H Q E h => ?_) (fun cdv A outer s H vs Q E hr h => ?_)
    · obtain ⟨a, b, v, u, rfl, _⟩ := h
      rfl
    · obtain ⟨a, b, v, u, rfl, ra, rb, hd, k⟩ := h
      refine ⟨_, pss_cons (ps_if (pt_cmp (pc_isN (pv 1))) (pss_one (ps_ret (pe_cmp (pc_isN (pv 0))))) pss_nil)
        (pss_cons (ps_if (pt_val (pe_callB call_isi (by rfl) T.isi PyProof.Rows.boot_isinstance (pa_cons (pv 1) (pa_cons (pe_bltn (v := .ty "tuple") (by rfl) T.tuple PyProof.Rows.boot_tuple rfl) pa_nil))))
          (pss_cons (ps_if (PW.pt (pw_or (pt_not (pt_val (pe_callB call_isi (by rfl) T.isi PyProof.Rows.boot_isinstance (pa_cons (pv 0) (pa_cons (pe_bltn (v := .ty "tuple") (by rfl) T.tuple PyProof.Rows.boot_tuple rfl) pa_nil)))))
              (pw_or1 (pt_cmpR op_ne (pe_callB call_len_seq (by rfl) T.len PySem.boot_len (pa_cons (pv 0) pa_nil)) (pe_callB call_len_seq (by rfl) T.len PySem.boot_len (pa_cons (pv 1) pa_nil)) (nomark _))))) (pss_one (ps_ret pe_bl)) pss_nil)
          (pss_cons (ps_for PassesOwn.never rfl (pi_range1 (by rfl) T.range (pa_cons (pe_callB call_len_seq (by rfl) T.len PySem.boot_len (pa_cons (pv 1) pa_nil)) pa_nil)) (pg_name (i := 2) scSo.nd rfl (.inl rfl))
            (pss_one (ps_if (pt_not (pt_val (pe_call G hr (by rfl) F.mf F.fn.kp F.bd .nil pass0 (pa_cons (pe_ix ix_tup (pv 0) (pv 2) (fun _ _ => rfl)) (pa_cons (pe_ix ix_tup (pv 1) (pv 2) (fun _ _ => rfl)) pa_nil))))) (pss_one (ps_ret pe_bl)) pss_nil)))
          (pss_one (ps_ret pe_bl)))) pss_nil)
        (pss_cons (ps_if (PW.pt (pw_or (pt_val (pe_callB call_isi (by rfl) T.isi PyProof.Rows.boot_isinstance (pa_cons (pv 1) (pa_cons (pe_bltn (v := .ty "bool") (by rfl) T.bool (by decide +kernel) rfl) pa_nil))))
            (pw_or1 (pt_val (pe_callB call_isi (by rfl) T.isi PyProof.Rows.boot_isinstance (pa_cons (pv 0) (pa_cons (pe_bltn (v := .ty "bool") (by rfl) T.bool (by decide +kernel) rfl) pa_nil)))))))
          (pss_one (ps_ret (pe_and (pe_callB call_isi (by rfl) T.isi PyProof.Rows.boot_isinstance (pa_cons (pv 1) (pa_cons (pe_bltn (v := .ty "bool") (by rfl) T.bool (by decide +kernel) rfl) pa_nil)))
            (pe_and (pe_callB call_isi (by rfl) T.isi PyProof.Rows.boot_isinstance (pa_cons (pv 0) (pa_cons (pe_bltn (v := .ty "bool") (by rfl) T.bool (by decide +kernel) rfl) pa_nil))) (pe_one (pe_cmpR op_eq (pv 0) (pv 1) (nomark _))))))) pss_nil)
        (pss_cons (ps_if (pt_val (pe_callB call_isi (by rfl) T.isi PyProof.Rows.boot_isinstance (pa_cons (pv 1) (pa_cons (pe_bltn (v := .ty "int") (by rfl) T.int PyProof.Rows.boot_int rfl) pa_nil))))
          (pss_one (ps_ret (pe_and (pe_callB call_isi (by rfl) T.isi PyProof.Rows.boot_isinstance (pa_cons (pv 0) (pa_cons (pe_bltn (v := .ty "int") (by rfl) T.int PyProof.Rows.boot_int rfl) pa_nil))) (pe_one (pe_cmpR op_eq (pv 0) (pv 1) (nomark _)))))) pss_nil)
        (pss_one (ps_ret (pe_and (pe_callB call_isi (by rfl) T.isi PyProof.Rows.boot_isinstance (pa_cons (pv 1) (pa_cons (pe_bltn (v := .ty "str") (by rfl) T.str (by decide +kernel) rfl) pa_nil)))
            (pe_and (pe_callB call_isi (by rfl) T.isi PyProof.Rows.boot_isinstance (pa_cons (pv 0) (pa_cons (pe_bltn (v := .ty "str") (by rfl) T.str (by decide +kernel) rfl) pa_nil))) (pe_one (pe_cmpR op_eq (pv 0) (pv 1) (nomark _)))))))))), ?_⟩
      refine ⟨u, rfl, _, rfl, ?_⟩
      refine ite2 (fun c => ?_) (fun c => ?_)
      · have eu : u = .non := of_decide_eq_true c
        subst eu
        cases b with
        | non =>
          refine ⟨v, rfl, ?_⟩
          cases a with
          | non => cases (show v = V.non from ra); exact k
          | bl x => cases (show v = V.bl x from ra); exact k
          | int x => cases (show v = V.int x from ra); exact k
          | str x => cases (show v = V.str x from ra); exact k
          | tup x =>
            obtain ⟨p, q, e, _⟩ := id ra
            subst e
            exact k
        | bl x => cases (show V.non = V.bl x from rb)
        | int x => cases (show V.non = V.int x from rb)
        | str x => cases (show V.non = V.str x from rb)
        | tup x =>
          obtain ⟨p, q, e, _⟩ := id rb
          cases e
      · refine ⟨u, rfl, u, _, _, _, _, rfl, .ty _, rb.ty, D.kTup b, _, rfl, ?_⟩
        match b, rb, hd, k with
        | .non, rb, hd, k => exact absurd (decide_eq_true (show u = V.non from rb)) c
        | .tup bs, rb, hd, k =>
          obtain ⟨pb, ub, rfl, hb, zb, qb⟩ := id rb
          refine iteT ?_
          refine ⟨v, rfl, v, _, _, _, _, rfl, .ty _, ra.ty, D.kTup a, _, rfl, ?_⟩
          match a, ra, k with
          | .tup as, ra, k =>
            obtain ⟨pa, ua, rfl, ha, za, qa⟩ := id ra
            refine iteF ?_
            refine ⟨_, rfl, pa, ua, rfl, .inr (.inl ha), _, rfl, pb, ub, rfl, .inr (.inl hb), rfl, _, rfl, ?_⟩
            have la := qa.len
            have lb := qb.len
            refine ite2 (fun c2 => ?_) (fun c2 => ?_)
            · have ne : as.length ≠ bs.length := fun z => by
                rw [la, lb, z] at c2
                simp at c2
              have e : D.eqb (.tup as) (.tup bs) = false := by
                cases z : D.eqb (.tup as) (.tup bs) with
                | false => rfl
                | true => exact absurd (D.eqbs_len (by simpa only [D.eqb] using z)) ne
              rw [e] at k
              exact k
            · have eq : as.length = bs.length := by
                have z : ua.length = ub.length := by
                  have : ¬ (!decide (V.int (ua.length : Int) = V.int (ub.length : Int))) = true := c2
                  simp at this
                  omega
                omega
              refine ⟨_, rfl, pb, ub, rfl, .inr (.inl hb), ub.length, rfl, by omega, ?_, ?_⟩
              · rw [sizeLine_eq] at zb
                omega
              · refine for_range (n := ((ub.length : Nat) : Int).toNat) (fun i σ H2 => ∃ kk : Option V, σ = [some (.ref pa), some (.ref pb), kk] ∧ H2 = H ∧ D.eqbs (as.take i) (bs.take i) = true) ⟨none, rfl, rfl, by simp [D.eqbs]⟩ ?_ ?_
                · rintro i σ H2 hi ⟨kk, rfl, rfl, he⟩
                  have hi' : i < ub.length := by simpa using hi
                  have hia : i < as.length := by omega
                  have hib : i < bs.length := by omega
                  have ga := List.getElem?_eq_getElem hia
                  have gb := List.getElem?_eq_getElem hib
                  obtain ⟨x, ex, rx⟩ := qa.get ga
                  obtain ⟨y, ey, ry⟩ := qb.get gb
                  have ez : (0 : Int) + (i : Int) = (i : Int) := Int.zero_add _
                  refine ⟨_, rfl, _, rfl, pa, ua, _, x, rfl, rfl, .inl ha, at_of ez ex, _, rfl, _, rfl, pb, ub, _, y, rfl, rfl, .inl hb, at_of ez ey, ?_⟩
                  refine ⟨_, _, x, y, rfl, rx, ry, ?_, _, rfl, ?_⟩
                  · have := D.dep_mem gb
                    simp only [D.dep] at hd
                    omega
                  · have et := D.eqbs_take ga gb
                    rw [he, Bool.true_and] at et
                    cases z : D.eqb as[i] bs[i] with
                    | true =>
                      rw [z] at et
                      exact ⟨_, rfl, rfl, et⟩
                    | false =>
                      have e : D.eqb (.tup as) (.tup bs) = false := by
                        simp only [D.eqb]
                        exact D.eqbs_cut ga gb z
                      rw [e] at k
                      exact k
                · rintro σ H2 ⟨kk, rfl, rfl, he⟩
                  have e : D.eqb (.tup as) (.tup bs) = true := by
                    simp only [D.eqb]
                    have e1 : ((ub.length : Nat) : Int).toNat = bs.length := by simpa using lb
                    rw [e1, List.take_of_length_le (Nat.le_of_eq eq), List.take_length] at he
                    exact he
                  rw [e] at k
                  exact k
          | .non, ra, k => exact k
          | .bl x, ra, k => exact k
          | .int x, ra, k => exact k
          | .str x, ra, k => exact k
        | .bl y, rb, hd, k =>
          obtain rfl : u = V.bl y := id rb
          refine iteF ?_
          refine ⟨_, rfl, _, _, _, _, _, rfl, .ty _, rb.ty, D.kBl (.bl y), _, rfl, ?_⟩
          refine ⟨_, rfl, _, _, _, _, _, rfl, .ty _, rb.ty, D.kBl (.bl y), _, rfl, iteT ?_⟩
          refine ⟨_, rfl, v, _, _, _, _, rfl, .ty _, ra.ty, D.kBl a, _, rfl, ?_⟩
          match a, ra, k with
          | .bl x, ra, k =>
            obtain rfl : v = V.bl x := id ra
            refine iteT ⟨_, rfl, _, rfl, rfl, ?_⟩
            have e : decide (V.bl x = V.bl y) = D.eqb (.bl x) (.bl y) := by
              simp only [D.eqb, V.bl.injEq]
              cases x <;> cases y <;> rfl
            rw [e]
            exact k
          | .non, ra, k => exact k
          | .int x, ra, k => exact k
          | .str x, ra, k => exact k
          | .tup x, ra, k => exact k
        | .int y, rb, hd, k =>
          obtain rfl : u = V.int y := id rb
          refine iteF ?_
          refine ⟨_, rfl, _, _, _, _, _, rfl, .ty _, rb.ty, D.kBl (.int y), _, rfl, ?_⟩
          refine ⟨_, rfl, v, _, _, _, _, rfl, .ty _, ra.ty, D.kBl a, _, rfl, ?_⟩
          match a, ra, k with
          | .bl x, ra, k => exact ⟨_, rfl, _, _, _, _, _, rfl, .ty _, rb.ty, D.kBl (.int y), _, rfl, k⟩
          | .int x, ra, k =>
            obtain rfl : v = V.int x := id ra
            refine iteF ⟨_, rfl, _, _, _, _, _, rfl, .ty _, rb.ty, D.kInt (.int y), _, rfl, ?_⟩
            refine ⟨_, rfl, _, _, _, _, _, rfl, .ty _, ra.ty, D.kInt (.int x), _, rfl, iteT ⟨_, rfl, _, rfl, rfl, ?_⟩⟩
            have e : decide (V.int x = V.int y) = D.eqb (.int x) (.int y) := by
              simp only [D.eqb, V.int.injEq]
            rw [e]
            exact k
          | .non, ra, k => exact ⟨_, rfl, _, _, _, _, _, rfl, .ty _, rb.ty, D.kInt (.int y), _, rfl, _, rfl, _, _, _, _, _, rfl, .ty _, ra.ty, D.kInt .non, _, rfl, k⟩
          | .str x, ra, k => exact ⟨_, rfl, _, _, _, _, _, rfl, .ty _, rb.ty, D.kInt (.int y), _, rfl, _, rfl, _, _, _, _, _, rfl, .ty _, ra.ty, D.kInt (.str x), _, rfl, k⟩
          | .tup x, ra, k => exact ⟨_, rfl, _, _, _, _, _, rfl, .ty _, rb.ty, D.kInt (.int y), _, rfl, _, rfl, _, _, _, _, _, rfl, .ty _, ra.ty, D.kInt (.tup x), _, rfl, k⟩
        | .str y, rb, hd, k =>
          obtain rfl : u = V.str y := id rb
          refine iteF ?_
          refine ⟨_, rfl, _, _, _, _, _, rfl, .ty _, rb.ty, D.kBl (.str y), _, rfl, ?_⟩
          refine ⟨_, rfl, v, _, _, _, _, rfl, .ty _, ra.ty, D.kBl a, _, rfl, ?_⟩
          match a, ra, k with
          | .bl x, ra, k => exact ⟨_, rfl, _, _, _, _, _, rfl, .ty _, rb.ty, D.kBl (.str y), _, rfl, k⟩
          | .str x, ra, k =>
            obtain rfl : v = V.str x := id ra
            refine iteF ⟨_, rfl, _, _, _, _, _, rfl, .ty _, rb.ty, D.kInt (.str y), _, rfl, ?_⟩
            refine iteF ⟨_, rfl, _, _, _, _, _, rfl, .ty _, rb.ty, D.kStr (.str y), _, rfl, iteT ?_⟩
            refine ⟨_, rfl, _, _, _, _, _, rfl, .ty _, ra.ty, D.kStr (.str x), _, rfl, iteT ⟨_, rfl, _, rfl, rfl, ?_⟩⟩
            have e : decide (V.str x = V.str y) = D.eqb (.str x) (.str y) := by
              simp only [D.eqb, V.str.injEq]
            rw [e]
            exact k
          | .non, ra, k => exact ⟨_, rfl, _, _, _, _, _, rfl, .ty _, rb.ty, D.kInt (.str y), _, rfl, _, rfl, _, _, _, _, _, rfl, .ty _, rb.ty, D.kStr (.str y), _, rfl, _, rfl, _, _, _, _, _, rfl, .ty _, ra.ty, D.kStr .non, _, rfl, k⟩
          | .int x, ra, k => exact ⟨_, rfl, _, _, _, _, _, rfl, .ty _, rb.ty, D.kInt (.str y), _, rfl, _, rfl, _, _, _, _, _, rfl, .ty _, rb.ty, D.kStr (.str y), _, rfl, _, rfl, _, _, _, _, _, rfl, .ty _, ra.ty, D.kStr (.int x), _, rfl, k⟩
          | .tup x, ra, k => exact ⟨_, rfl, _, _, _, _, _, rfl, .ty _, rb.ty, D.kInt (.str y), _, rfl, _, rfl, _, _, _, _, _, rfl, .ty _, rb.ty, D.kStr (.str y), _, rfl, _, rfl, _, _, _, _, _, rfl, .ty _, ra.ty, D.kStr (.tup x), _, rfl, k⟩
end
end Kl

namespace Kl
open PySem L2 Kd Kx
/-! what k18's law needs besides -/
theorem byP_shape (O ps : List Str) : ∀ (l : List (Nat × Appr)) (acc : List (Nat × Nat)), (∃ xs : List (Nat × Nat), byP O ps l acc = .tup [.str "yes", .tup (xs.map sdD)]) ∨ ∃ x : Nat × Nat, byP O ps l acc = .tup [.str "no", sdD x]
  | [], acc => .inl ⟨_, rfl⟩
  | q :: r, acc => by
    rw [byP]
    split
    · split
      · exact .inr ⟨_, rfl⟩
      · exact byP_shape O ps r _
    · exact byP_shape O ps r _
theorem lay_sds : ∀ xs : List (Nat × Nat), PyData.canLayAll0 (pys (xs.map sdD)) = true
  | [] => rfl
  | x :: r => by
    have ih := lay_sds r
    show (PyData.canLayAll0 _ && _) = true
    rw [ih]
    rfl
theorem depth_sds : ∀ xs : List (Nat × Nat), PyData.depthAll (pys (xs.map sdD)) ≤ 1
  | [] => by simp [pys, PyData.depthAll]
  | x :: r => by
    have ih := depth_sds r
    have e : PyData.depthAll (pys ((x :: r).map sdD)) = max (max 0 (max 0 0) + 1) (PyData.depthAll (pys (r.map sdD))) := rfl
    omega
theorem shaped_of {d : D} (h1 : (py d).canLay0 = true) (h2 : (py d).depth ≤ 64) : SeqAt.shaped (py d) = true := by
  unfold SeqAt.shaped
  rw [h1, decide_eq_true h2]
  rfl
theorem lay_yes : PyData.strOk "yes" = true := by decide +kernel
theorem lay_no : PyData.strOk "no" = true := by decide +kernel
theorem byP_shaped (O ps : List Str) (l : List (Nat × Appr)) (acc : List (Nat × Nat)) : SeqAt.shaped (py (byP O ps l acc)) = true := by
  rcases byP_shape O ps l acc with ⟨xs, e⟩ | ⟨x, e⟩
  · rw [e]
    refine shaped_of ?_ ?_
    · show (PyData.strOk "yes" && (PyData.canLayAll0 (pys (xs.map sdD)) && true)) = true
      rw [lay_yes, lay_sds]
      rfl
    · have := depth_sds xs
      have e : (py (.tup [.str "yes", .tup (xs.map sdD)])).depth = max 0 (max (PyData.depthAll (pys (xs.map sdD)) + 1) 0) + 1 := rfl
      omega
  · rw [e]
    refine shaped_of ?_ ?_
    · show (PyData.strOk "no" && _) = true
      rw [lay_no]
      rfl
    · exact (show 2 ≤ 64 by decide)
theorem deps_sds : ∀ xs : List (Nat × Nat), D.deps (xs.map sdD) ≤ 1
  | [] => Nat.zero_le _
  | x :: r => by
    have ih := deps_sds r
    have e : D.deps ((x :: r).map sdD) = max (D.dep (sdD x)) (D.deps (r.map sdD)) := rfl
    have e2 : D.dep (sdD x) = 1 := rfl
    omega
theorem byP_dep (O ps : List Str) (l : List (Nat × Appr)) (acc : List (Nat × Nat)) : D.dep (byP O ps l acc) < 5 := by
  rcases byP_shape O ps l acc with ⟨xs, e⟩ | ⟨x, e⟩
  · rw [e]
    have := deps_sds xs
    have e : D.dep (.tup [.str "yes", .tup (xs.map sdD)]) = max 0 (max (D.deps (xs.map sdD) + 1) 0) + 1 := rfl
    omega
  · rw [e]
    exact (by decide : 2 < 5)
theorem eqv_self {d : D} (h : SeqAt.shaped (py d) = true) : PyData.eqv (py d) (py d) = true := SeqAt.eqv_refl _ (SeqAt.canLay_of_shaped h)
/-- names at a list or a tuple -/
theorem repsX_strs {N : Addr → Prop} {H : Hp} : ∀ {xs : List Str} {vs : List V}, RepsX N H (xs.map D.str) vs → vs = xs.map V.str
  | [], vs, h => h
  | x :: xs, vs, h => by
    obtain ⟨v, r, e, h1, h2⟩ := h
    subst e
    rw [repsX_strs h2]
    have : v = V.str x := h1
    rw [this]
    rfl
theorem seq_of_repL {H : Hp} {xs : List Str} {v : V} (h : RepL H (.tup (xs.map D.str)) v) : ∃ g, v = .ref g ∧ SeqAt H g (xs.map V.str) := by
  obtain ⟨g, vs, e, _, h, _, hs⟩ := h
  have := repsX_strs hs
  subst this
  subst e
  exact ⟨g, rfl, h.imp id id⟩
theorem num3 : ∀ k : Nat, k < 22 → (((toString ((100 : Int) + (k : Int)) : String) : Str)).length ≤ 3 := by decide +kernel
/-- [('f' + str(k), c) for k in range(100, 100 + m)] -/
theorem lc_low {j m : Nat} {c : Str} {σ : L2.St} {H1 : Hp} {D : Addr} {Qd : Hp → Prop}
    (hw : ∀ x, wipe ((wipe σ [j]).set j (some x)) [j] = wipe σ [j]) (hj : ∀ x, ((wipe σ [j]).set j (some x))[j]? = some (some x)) (hm : m ≤ 22) (hD : H1 D = none)
    (hd : ∀ (H2 : Hp) (vs : List V), Same H1 H2 → H2 D = some (.lst vs) → Reps H2 ((List.range m).map fun k => pairD (nameF k, c)) vs → Qd H2) :
    ∃ W : Nat → Nat → Hp → Prop, (∃ n, W 0 n (upd H1 D (.lst []))) ∧ ∀ i n H, W i n H →
      ((Itr 100 m).stop i H ∧ Qd H) ∨ ((Itr 100 m).go i H ∧ ∃ Nx : Hp → Prop, (∀ H', Nx H' → ∃ n', n' < n ∧ W (i + 1) n' H') ∧ ∀ x H', (Itr 100 m).yld i H x H' → gName j x (wipe σ [j]) H' fun σ2 H2 => wipe σ2 [j] = wipe σ [j] ∧ tYes σ2 H2 fun b H3 =>
        if b = true then (tTup (tCons (tOp (fun x y H Q => ∃ i j, x = .str i ∧ y = .str j ∧ i.length + j.length ≤ sizeLine ∧ Q (.str (i ++ j)) H) (tC (.str "f")) (tCB (fun xs H Q => ∃ i, xs = [.int i] ∧ i.natAbs.log2 < 1920 ∧ Q (.str (toString i)) H) (tCons (tVar j) tNil))) (tCons (tC (.str c)) tNil))) σ2 H3 fun y H4 => ∃ acc, H4 D = some (.lst acc) ∧ acc.length < sizeLine ∧ Nx (upd H4 D (.lst (acc ++ [y]))) else Nx H3) := by
  refine lc_range (fun i H => Same H1 H ∧ ∃ vs : List V, H D = some (.lst vs) ∧ Reps H ((List.range i).map fun k => pairD (nameF k, c)) vs) ⟨Same.new hD, [], upd_same, rfl⟩ ?_ ?_
  · rintro i H hi ⟨s, vs, e, rp⟩
    have vl := rp.len
    rw [List.length_map, List.length_range] at vl
    have lg : ((100 : Int) + (i : Int)).natAbs.log2 < 1920 := log_small (k := 100 + i) (by omega)
    refine ⟨hw _, _, hj _, _, rfl, lg, _, _, rfl, rfl, small_of ?_, (by show 2 ≤ sizeLine; decide), fun t ht => ?_⟩
    · have := num3 i (by omega)
      have e1 : ("f" : Str).length = 1 := by decide +kernel
      skip
      omega
    have s2 : Same H1 (upd H t (.tup [.str (nameF i), .str c])) := fun b o z => by rw [upd_ne (ne_of_none (s b o z) ht)]; exact s b o z
    have hDt : D ≠ t := ne_of_none e ht
    refine ⟨vs, by rw [upd_ne hDt]; exact e, small_lt (by omega), Same.mut s2 hD, vs ++ [.ref t], upd_same, ?_⟩
    rw [List.range_succ, List.map_append]
    have tk1 : Tk H (upd H t (.tup [.str (nameF i), .str c])) := Tk.new ht
    have eD : upd H t (.tup [.str (nameF i), .str c]) D = some (.lst vs) := by rw [upd_ne hDt]; exact e
    have tk2 := Tk.lst (o := .lst (vs ++ [.ref t])) eD
    exact Reps.snoc (Reps.keep (tk1.trans tk2) rp) (pair_rep (by rw [upd_ne (Ne.symm hDt)]; exact upd_same))
  · rintro H ⟨s, vs, e, rp⟩
    exact hd H vs s e rp
theorem te_lst {t : TA} {σ : L2.St} {H : Hp} {Q : VK} (h : t σ H fun xs H1 => xs.length ≤ sizeLine ∧ ∀ p, H1 p = none → Q (.ref p) (upd H1 p (.lst xs))) : tLst t σ H Q := h
abbrev rTupOf (K : PySem.W.Frag) : List V → Hp → VK → Prop := fun xs H Q => ∃ p ys, xs = [.ref p] ∧ ((SqL K H p ys ∧ ∀ l, H l = none → Q (.ref l) (upd H l (.tup ys))) ∨ (SqT K H p ys ∧ Q (.ref p) H))
/-- Tree(tuple(low + rules_now)) -/
theorem cat_tree {K : PySem.W.Frag} {C : Addr} {i j : Nat} {a b : Addr} {vs ws : List V} {fs gs : Fs} {σ : L2.St} {H : Hp} {Q : VK} (hi : σ[i]? = some (some (.ref a))) (hj : σ[j]? = some (some (.ref b))) (ha : H a = some (.lst vs)) (hb : H b = some (.lst ws))
    (rv : Reps H (fs.map pairD) vs) (rw_ : Reps H (gs.map pairD) ws) (good : Good (fs ++ gs)) (k : ∀ (t : Addr) (H' : Hp), Same H H' → TreeAt C H' t (fs ++ gs) → Q (.ref t) H') :
    tMake C (spInit K C) [] C8.E0 (tCons (tCB (rTupOf K) (tCons (tOp rCat (tVar i) (tVar j)) tNil)) tNil) σ H Q := by
  have l1 := rv.len
  have l2 := rw_.len
  have few := good.few
  rw [List.length_append] at few
  rw [List.length_map] at l1 l2
  refine te_make (ta_cons (te_cb (ta_cons (te_op (te_v hi (te_v hj ⟨a, b, vs, ws, rfl, rfl, ha, hb, small_of (by omega), fun q hq => ta_nil ⟨q, _, rfl, .inl ⟨SqL.of upd_same, fun l hl => ta_nil ?_⟩⟩⟩))))))
  have s1 : Same H (upd H q (.lst (vs ++ ws))) := Same.new hq
  have s2 : Same (upd H q (.lst (vs ++ ws))) (upd (upd H q (.lst (vs ++ ws))) l (.tup (vs ++ ws))) := Same.new hl
  have s3 : Same H (upd (upd H q (.lst (vs ++ ws))) l (.tup (vs ++ ws))) := fun b o e => s2 b o (s1 b o e)
  have r : Rep (upd (upd H q (.lst (vs ++ ws))) l (.tup (vs ++ ws))) (filesD (fs ++ gs)) (.ref l) := ⟨l, _, rfl, .inl upd_same, small_of (by rw [List.length_append]; omega), by
    rw [List.map_append]
    exact Reps.append (rv.keep (Same.tk s3)) (rw_.keep (Same.tk s3))⟩
  exact mk_leaf (v := .ref l) (fs := fs ++ gs) (Rep.loose (d := filesD (fs ++ gs)) r) good fun t H' s tr => k t H' (fun b o e => s b o (s3 b o e)) tr
theorem Good.short {fs : Fs} (g : Good fs) : Short fs := ⟨fun q hq => (g.ok q hq).len, fun q hq => (g.ok q hq).cont.len, g.few⟩
theorem tree_keys (m j : Nat) (c c' : Str) : (treeN m j c).map (·.1) = (treeN m j c').map (·.1) := by
  unfold treeN
  rw [List.map_append, List.map_append, List.map_map, List.map_map]
  rfl
theorem first_two {m j : Nat} (hm : m < 22) (hj : j < 22) : Two (treeN m j "0") (treeN m j "1") := by
  have g0 := good_of (good_low m hm j hj)
  have g1 := good_of (good_high m hm j hj)
  refine ⟨g0.asc.nodup, g1.asc.nodup, (treeN m j "0").map (·.1), by rw [List.length_map]; exact g0.few, fun p hp => hp, fun p hp => ?_⟩
  rw [tree_keys m j "0" "1"]
  exact hp
theorem name_in {m j : Nat} (c : Str) (h : j < m) : (nameF j, c) ∈ treeN m j c := List.mem_append_left _ (List.mem_map.mpr ⟨j, List.mem_range.mpr h, rfl⟩)
/-- the rule's path is changed -/
theorem first_at {m j : Nat} (hm : m < 22) (hj : j < m) {ks : List Str} (mem : ∀ p, p ∈ ks ↔ p ∈ (treeN m j "0").map (·.1) ∨ p ∈ (treeN m j "1").map (·.1)) : nameF j ∈ (betweenL (treeN m j "0") (treeN m j "1") ks).map (·.1) := by
  have g0 := good_of (good_low m hm j (by omega))
  have g1 := good_of (good_high m hm j (by omega))
  have v0 := valF_mem g0.asc.nodup (name_in "0" hj)
  have v1 := valF_mem g1.asc.nodup (name_in "1" hj)
  refine List.mem_map.mpr ⟨(nameF j, some "1"), List.mem_filterMap.mpr ⟨nameF j, (mem _).mpr (.inl (List.mem_map.mpr ⟨_, name_in "0" hj, rfl⟩)), ?_⟩, rfl⟩
  rw [v0, v1]
  rfl
abbrev dNo : Kd.D := .tup [.str "no", sdD (0, 1)]
abbrev dYes : Kd.D := .tup [.str "yes", .tup [sdD (0, 1), sdD (1, 1)]]
theorem dNo_sh : SeqAt.shaped (py dNo) = true := by decide +kernel
theorem dYes_sh : SeqAt.shaped (py dYes) = true := by decide +kernel
theorem ann_word : wordB "ann" = true := by decide +kernel
theorem bob_word : wordB "bob" = true := by decide +kernel
theorem lit_sd {i j : Nat} {σ : L2.St} {H : Hp} {Q : VK} (k : ∀ (t : Addr) (H' : Hp), Same H H' → Rep H' (sdD (i, j)) (.ref t) → Q (.ref t) H') : tTup (tCons (tC (.int (i : Int))) (tCons (tC (.int (j : Int))) tNil)) σ H Q :=
  te_tup <| ta_cons <| te_c <| ta_cons <| te_c <| ta_nil ⟨(by show 2 ≤ sizeLine; decide), fun t ht => k t _ (Same.new ht) (sd_rep upd_same)⟩
theorem lit_no {σ : L2.St} {H : Hp} {Q : VK} (k : ∀ (t : Addr) (H' : Hp), Same H H' → Rep H' dNo (.ref t) → Q (.ref t) H') : tTup (tCons (tC (.str "no")) (tCons (tTup (tCons (tC (.int 0)) (tCons (tC (.int 1)) tNil))) tNil)) σ H Q := by
  refine te_tup <| ta_cons <| te_c <| ta_cons <| lit_sd (i := 0) (j := 1) fun t1 H1 s1 r1 => ta_nil ⟨(by show 2 ≤ sizeLine; decide), fun t ht => ?_⟩
  have s : Same H1 (upd H1 t (.tup [.str "no", .ref t1])) := Same.new ht
  exact k t _ (fun b o e => s b o (s1 b o e)) ⟨t, _, rfl, .inl upd_same, (by show 2 ≤ sizeLine; decide), _, _, rfl, rfl, _, _, rfl, r1.keep (Same.tk s), rfl⟩
theorem lit_yes {σ : L2.St} {H : Hp} {Q : VK} (k : ∀ (t : Addr) (H' : Hp), Same H H' → Rep H' dYes (.ref t) → Q (.ref t) H') : tTup (tCons (tC (.str "yes")) (tCons (tTup (tCons (tTup (tCons (tC (.int 0)) (tCons (tC (.int 1)) tNil))) (tCons (tTup (tCons (tC (.int 1)) (tCons (tC (.int 1)) tNil))) tNil))) tNil)) σ H Q := by
  refine te_tup <| ta_cons <| te_c <| ta_cons <| te_tup <| ta_cons <| lit_sd (i := 0) (j := 1) fun t1 H1 s1 r1 => ta_cons <| lit_sd (i := 1) (j := 1) fun t2 H2 s2 r2 => ta_nil ⟨(by show 2 ≤ sizeLine; decide), fun t3 ht3 => ta_nil ⟨(by show 2 ≤ sizeLine; decide), fun t ht => ?_⟩⟩
  have s3 : Same H2 (upd H2 t3 (.tup [.ref t1, .ref t2])) := Same.new ht3
  have r3 : Rep (upd H2 t3 (.tup [.ref t1, .ref t2])) (.tup [sdD (0, 1), sdD (1, 1)]) (.ref t3) := ⟨t3, _, rfl, .inl upd_same, (by show 2 ≤ sizeLine; decide), _, _, rfl, (r1.keep (Same.tk s2)).keep (Same.tk s3), _, _, rfl, r2.keep (Same.tk s3), rfl⟩
  generalize upd H2 t3 (.tup [.ref t1, .ref t2]) = H3 at s3 r3 ht ⊢
  have s : Same H3 (upd H3 t (.tup [.str "yes", .ref t3])) := Same.new ht
  exact k t _ (fun b o e => s b o (s3 b o (s2 b o (s1 b o e)))) ⟨t, _, rfl, .inl upd_same, (by show 2 ≤ sizeLine; decide), _, _, rfl, rfl, _, _, rfl, r3.keep (Same.tk s), rfl⟩
theorem giv_nil : GivOk [] := ⟨(fun _ h => nomatch h), List.Pairwise.nil, Nat.zero_le _⟩
theorem giv_bob : GivOk [("bob" : Str)] := ⟨fun n h => by rw [List.mem_singleton.mp h]; exact bob_word, List.pairwise_singleton .., by decide⟩
theorem lc_onesT {K : PySem.W.Frag} {j : Nat} {σ : L2.St} {H1 : Hp} {D p : Addr} {Qd : Hp → Prop} {ws : List Str}
    (hw : ∀ x, wipe ((wipe σ [j]).set j (some x)) [j] = wipe σ [j]) (hj : ∀ x, ((wipe σ [j]).set j (some x))[j]? = some (some x)) (hp : SqT K H1 p (ws.map V.str)) (hl : ws.length ≤ 2000) (hD : H1 D = none)
    (hd : ∀ (H2 : Hp) (ps : List Addr), Same H1 H2 → H2 D = some (.lst (ps.map V.ref)) → Paired (PairAt K H2) ps (kvG (fun _ : Unit => V.int 1) (ws.map fun x => (x, ()))) → Qd H2) :
    ∃ W : Nat → Nat → Hp → Prop, (∃ m, W 0 m (upd H1 D (.lst []))) ∧ ∀ i m H, W i m H →
      ((Itt K p).stop i H ∧ Qd H) ∨ ((Itt K p).go i H ∧ ∃ Nx : Hp → Prop, (∀ H', Nx H' → ∃ m', m' < m ∧ W (i + 1) m' H') ∧ ∀ x H', (Itt K p).yld i H x H' → gName j x (wipe σ [j]) H' fun σ2 H2 => wipe σ2 [j] = wipe σ [j] ∧ tYes σ2 H2 fun b H3 =>
        if b = true then (tTup (tCons (tVar j) (tCons (tC (.int 1)) tNil))) σ2 H3 fun y H4 => ∃ acc, H4 D = some (.lst acc) ∧ acc.length < sizeLine ∧ Nx (upd H4 D (.lst (acc ++ [y]))) else Nx H3) := by
  refine lc_tup (K := K) (a := p) (xs := ws.map V.str) (fun i H => Same H1 H ∧ ∃ ps : List Addr, H D = some (.lst (ps.map V.ref)) ∧ ps.length = i ∧ Paired (PairAt K H) ps (kvG (fun _ : Unit => V.int 1) ((ws.take i).map fun x => (x, ()))))
    ⟨Same.new hD, [], upd_same, rfl, .nil⟩ (fun i H _ q => SqT.same q.1 hp) ?_ ?_
  · rintro i x H hx ⟨s, ps, e, hi, pr⟩
    rw [List.getElem?_map] at hx
    obtain ⟨k, hk, rfl⟩ := Option.map_eq_some_iff.mp hx
    have hil : i < ws.length := (List.getElem?_eq_some_iff.mp hk).1
    refine ⟨hw _, _, hj _, (by show 2 ≤ sizeLine; decide), fun q hq => ?_⟩
    have hDq : D ≠ q := fun z => by
      rw [← z, e] at hq
      cases hq
    have sq : Same H (upd H q (.tup [.str k, .int 1])) := Same.new hq
    have qq : upd H q (.tup [.str k, .int 1]) q = some (.tup [.str k, .int 1]) := upd_same
    have s2 : Same H1 (upd H q (.tup [.str k, .int 1])) := fun b o z => sq b o (s b o z)
    have e2 := sq _ _ e
    have pr2 := Paired.mono (fun a kv h => SqT.same sq h) pr
    generalize upd H q (.tup [.str k, .int 1]) = H2 at qq s2 e2 pr2 ⊢
    refine ⟨ps.map V.ref, e2, by rw [List.length_map]; exact small_lt (by omega), Same.mut s2 hD, ps ++ [q], by rw [upd_same, List.map_append]; rfl, by rw [List.length_append]; simp only [List.length_cons, List.length_nil]; omega, ?_⟩
    have en : kvG (fun _ : Unit => V.int 1) ((ws.take (i + 1)).map fun x => (x, ())) = kvG (fun _ : Unit => V.int 1) ((ws.take i).map fun x => (x, ())) ++ [(Sum.inr k, V.int 1)] := by
      rw [map_take_succ _ hk]
      unfold kvG
      rw [List.map_append]
      rfl
    rw [en]
    have tk : ∀ {a : Addr} {xs : List V}, SqT K H2 a xs → SqT K (upd H2 D (.lst (ps.map V.ref ++ [.ref q]))) a xs := fun h => by
      rcases h with (h | ⟨o, h⟩) | h
      · refine .inl (.inl ?_)
        rw [upd_ne (ne_of h e2 (fun z => nomatch z))]
        exact h
      · refine .inl (.inr ⟨o, ?_⟩)
        rw [upd_ne (ne_of h e2 (fun z => nomatch z))]
        exact h
      · exact .inr h
    exact Paired.snoc (Paired.mono (fun a kv h => tk h) pr2) (tk (SqT.of qq))
  · rintro H ⟨s, ps, e, hi, pr⟩
    rw [List.length_map, List.take_length] at pr
    exact hd H ps s e pr
def wrS (o1 o2 : Option (Str × Nat)) : Nat → Option (Str × Nat)
  | 0 => none
  | 1 => o1
  | _ => o1.or o2
def WrAt (H : Hp) (v : V) : Option (Str × Nat) → Prop
  | none => v = .non
  | some (p, k) => ∃ t : Addr, v = .ref t ∧ H t = some (.tup [.str p, .int (k : Int)])
theorem WrAt.same {H H' : Hp} {v : V} (s : Same H H') : ∀ {o : Option (Str × Nat)}, WrAt H v o → WrAt H' v o
  | none, h => h
  | some (_, _), ⟨t, e, h⟩ => ⟨t, e, s _ _ h⟩
theorem WrAt.go {b : Addr} {H H' : Hp} {v : V} (c : ∃ i : Int, 0 ≤ i ∧ H b = some (.lst [.int i])) (g : Go b H H') : ∀ {o : Option (Str × Nat)}, WrAt H v o → WrAt H' v o
  | none, h => h
  | some (_, _), ⟨t, e, h⟩ => ⟨t, e, g.keep _ _ (fun z => by
    obtain ⟨_, _, c⟩ := c
    rw [z, c] at h
    cases h) h⟩
theorem ownAt_path : ∀ {fs : Fs} {p : Str} {k : Nat}, ownAt fs = some (p, k) → p = "own/rules"
  | [], _, _, h => by cases h
  | q :: r, p, k, h => by
    rw [ownAt] at h
    split at h
    · rename_i c
      split at h
      · obtain ⟨rfl, _⟩ := Prod.mk.inj (Option.some.inj h)
        exact c
      · exact ownAt_path h
    · exact ownAt_path h
theorem own_sh (k : Nat) : SeqAt.shaped (py (.tup [.str "own/rules", .int (k : Int)])) = true := by
  refine shaped_of ?_ ?_
  · show (PyData.strOk "own/rules" && (true && true)) = true
    have : PyData.strOk "own/rules" = true := by decide +kernel
    rw [this]
    rfl
  · exact (show 1 ≤ 64 by decide)
theorem wr_rep {H : Hp} {t : Addr} {p : Str} {k : Nat} (h : H t = some (.tup [.str p, .int (k : Int)])) : Rep H (.tup [.str p, .int (k : Int)]) (.ref t) := ⟨t, _, rfl, .inl h, (by show 2 ≤ sizeLine; decide), _, _, rfl, rfl, _, _, rfl, rfl, rfl⟩
theorem lay_ints : ∀ xs : List Appr, PyData.canLayAll0 (pys (xs.map lineD)) = PyData.canLayAll0 (pys (xs.map lineD)) := fun _ => rfl
theorem deps_strs : ∀ xs : List Str, D.deps (xs.map D.str) = 0
  | [] => rfl
  | x :: r => by
    have ih := deps_strs r
    have e : D.deps ((x :: r).map D.str) = max 0 (D.deps (r.map D.str)) := rfl
    omega
theorem deps_lines : ∀ xs : List Appr, D.deps (xs.map lineD) ≤ 2
  | [] => Nat.zero_le _
  | x :: r => by
    have ih := deps_lines r
    have e : D.deps ((x :: r).map lineD) = max (D.dep (lineD x)) (D.deps (r.map lineD)) := rfl
    have e2 : D.dep (lineD x) = max 0 (max 0 (max (D.deps (x.2.2.2.map D.str) + 1) 0)) + 1 := rfl
    have := deps_strs x.2.2.2
    omega
theorem flt_one (p : Str) (fs : Fs) : flt [p] (rowsOf fs) = (readOf fs).filter fun r => touchB r.2.1 p := by
  show (readOf fs).filter (touchedB [p]) = _
  congr 1
  funext a
  show ([p].any (touchB a.2.1)) = _
  simp
abbrev seven : List Str := ["ann", "bob", "cy", "dee", "eve", "fay", "gus"]
theorem seven_word : ∀ n ∈ seven, wordB n = true := by decide +kernel
theorem seven_asc : Asc seven := by decide +kernel
theorem giv_sub {xs : List Str} {i : Nat} (h : xs.Sublist (seven.take i)) : GivOk xs := by
  have h2 := h.trans (List.take_sublist i seven)
  exact ⟨fun n hn => seven_word n (h2.subset hn), List.Pairwise.sublist h2 seven_asc, Nat.le_trans h2.length_le (by decide)⟩
theorem giv_of {xs : List Str} (a : Asc xs) (h : ∀ n ∈ xs, n ∈ seven) : GivOk xs :=
  ⟨fun n hn => seven_word n (h n hn), a, Nat.le_trans (nodup_le a.nodup h) (by decide)⟩
theorem lcheck_one {K : PySem.W.Frag} {v : V} {hp : Addr} {fs : Fs} {H : Hp} {Q : VK} {E : XK} (hr : Rep H (filesD fs) v) (sh : Short fs) (hh : Strs H hp ["own"]) (k : ∀ (u : V) (H' : Hp), Same H H' → WrAt H' u (ownAt fs) → Q u H') : spLCheck K [v, .ref hp] H Q E :=
  ⟨v, hp, fs, rfl, hr, sh, hh, fun e H' s => k .non H' s (by rw [e]; rfl), fun p k0 e t H' s ht => k _ H' s (by rw [e]; exact ⟨t, rfl, ht⟩)⟩
theorem four_path : ∀ p ∈ (["app/main", "app", "set/all", "doc/note"] : List Str), pathB p = true ∧ p.length ≤ 1000 := by decide +kernel
end Kl

namespace Kl
open PySem L2 Kd Kx
abbrev s_law : Stmt := topS 75
theorem sc_law : FnScope ["script", "row", "spot", "many", "low", "high", "rules_now", "files", "after", "old", "new", "wrong", "side", "told", "author", "name", "given", "error", "due", "more", "path", "k", "one"] ["script"] (defScope s_law) := ⟨rfl, rfl, rfl, by decide +kernel, rfl, by decide +kernel, by decide +kernel⟩
def spLaw (K : PySem.W.Frag) : Sp := fun vs H Q _ => ∃ (a : Addr) (ns : List Int), vs = [.ref a] ∧ Ints K H a ns ∧ ns.length ≤ 63 ∧ ∀ H', Q (.bl true) H'
theorem takes_no {X : Cx} : L2N.Takes X (fun _ _ _ _ => False) := fun _ _ x => by
  obtain ⟨_, _, _, _, _, _, _, _, _, _, _, _, _, _, _, _, z⟩ := x
  exact z.elim
/-- all that the law calls -/
structure LawC (P : Program) (w : World) (K : PySem.W.Frag) (mg : Str → Option Value) (base : Heap) (C CB : Addr) : Prop where
  c_l_numbers : C8.Cal P w K mg base 1 "_law_numbers" (spNum K) []
  c_l_take : C8.Cal P w K mg base 2 "_law_take" (spTk K) []
  c_l_tree : C8.Cal P w K mg base 8 "_law_tree" (spTree K) []
  c_l_edit : C8.Cal P w K mg base 7 "_law_edit" (spEdit K) []
  c_l_loose : C8.Cal P w K mg base 5 "_law_loose" (spLoose K 5) []
  c_l_so : C8.Cal P w K mg base 5 "_law_so" (spSo 5) []
  c_l_edited : C8.Cal P w K mg base 1 "_law_edited" (spEdited K) []
  c_l_check : C8.Cal P w K mg base 66 "_law_check" (spLCheck K) []
  c_l_approved : C8.Cal P w K mg base 3 "_law_approved" (spLApproved K) []
  c_l_own_lines : C8.Cal P w K mg base 2 "_law_own_lines" (spOwnLines K) []
  c_approved : C8.Cal P w K mg base 5 "approved" (spApprovedG K C) []
  c_approvals : C8.Cal P w K mg base 5 "approvals" (spApprovals K C) []
  ck_approved : Ks.CalK P w K mg base 5 "approved" ["old", "new", "author", "given"] (spApprovedG K C)
  mk_Tree : C8.Mak P w K mg base 5 "Tree" C (spInit K C) []
section
variable {P : Program} {w : World} {K : PySem.W.Frag} {mg : Str → Option Value} {base : Heap} {C CB : Addr}
theorem ok_law {f fA fI : Addr} {fd fdA : FuncData} (F : Fun K "law" "law" s_law f fd) (T : Glo mg) (L : LawC P w K mg base C CB) (e1 : Err K mg "BadFile" CB fI) (n1 : PySem.W.findIn K (.ref CB) "at" = some none) (n2 : PySem.W.findIn K (.ref CB) "path" = some none) (xh : PySem.W.exmOne K (.ref CB) (.ref CB) = some true)
    (AA : At K mg "approved" s_approved ["old", "new", "author", "given"] fA fdA) (GA : FnOk P w K mg base (L2N.CX P w) 5 fA fdA ["old", "new", "author", "given"] (spApproved K C CB)) : FnOk P w K mg base CX0 67 f fd ["script"] (spLaw K) := by
  obtain ⟨c_l_numbers, c_l_take, c_l_tree, c_l_edit, c_l_loose, c_l_so, c_l_edited, c_l_check, c_l_approved, c_l_own_lines, c_approved, c_approvals, ck_approved, mk_Tree⟩ := L
  refine F.ok sc_law (fun vs H Q E h => ?_) (fun cdv A outer s H vs Q E hr h => ?_)
  · obtain ⟨a, ns, rfl, _⟩ := h
    rfl
  · obtain ⟨a, ns, rfl, hS, hn, kend⟩ := h
    have hr5 : Room 5 _ := hr.mono (by decide)
    refine ⟨_, (pss_cons (ps_set (i := 1) sc_law.nd rfl (.inr rfl) (C8.pe_c c_l_numbers hr (by omega) (by rfl) (pa_cons (pv 0) pa_nil)))
      (pss_cons (ps_set (i := 2) sc_law.nd rfl (.inr rfl) (pe_lst (pa_cons pe_int pa_nil)))
      (pss_cons (ps_set (i := 3) sc_law.nd rfl (.inl rfl) (pe_op op_add pe_int (C8.pe_c c_l_take hr (by omega) (by rfl) (pa_cons (pv 1) (pa_cons (pv 2) (pa_cons pe_int pa_nil))))))
      (pss_cons (ps_setLc (i := 4) (own := [("k", 21)]) (g := gName 21) (tt := tYes) rfl sc_law.nd rfl rfl (sw_true rfl rfl rfl (by decide +kernel)) (pi_range2 (by rfl) T.range (pa_cons pe_int (pa_cons (pe_op op_add pe_int (pv 3)) pa_nil))) (blkOk_by (N := ["script", "row", "spot", "many", "low", "high", "rules_now", "files", "after", "old", "new", "wrong", "side", "told", "author", "name", "given", "error", "due", "more", "path", "k", "one"]) (sc := defScope s_law) (by decide +kernel)) (fun _ _ _ _ _ => (pg_name (i := 21) sc_law.nd rfl (.inl rfl))) (fun _ _ _ _ _ => pts_nil) (fun _ _ _ _ _ => (pe_tup (pa_cons (pe_op op_add_str pe_str (pe_callTy call_str_int (by rfl) T.str (by decide +kernel) (pa_cons (pv 21) pa_nil))) (pa_cons pe_str pa_nil)))))
      (pss_cons (ps_setLc (i := 5) (own := [("one", 22)]) (g := gName 22) (tt := tYes) rfl sc_law.nd rfl rfl (sw_true rfl rfl rfl (by decide +kernel)) (pi_list (pv 4)) (blkOk_by (N := ["script", "row", "spot", "many", "low", "high", "rules_now", "files", "after", "old", "new", "wrong", "side", "told", "author", "name", "given", "error", "due", "more", "path", "k", "one"]) (sc := defScope s_law) (by decide +kernel)) (fun _ _ _ _ _ => (pg_name (i := 22) sc_law.nd rfl (.inl rfl))) (fun _ _ _ _ _ => pts_nil) (fun _ _ _ _ _ => (pe_tup (pa_cons (pe_ix (r := rIxT K) ix_tup (pv 22) pe_int (fun _ _ => rfl)) (pa_cons pe_str pa_nil)))))
      (pss_cons (ps_set (i := 6) sc_law.nd rfl (.inl rfl) (pe_lst (pa_cons (pe_tup (pa_cons pe_str (pa_cons (pe_op op_add_str (pe_op op_add_str pe_str (pe_ix ix_tup (pe_ix ix_list (pv 4) (C8.pe_c c_l_take hr (by omega) (by rfl) (pa_cons (pv 1) (pa_cons (pv 2) (pa_cons (pv 3) pa_nil)))) (fun _ _ => rfl)) pe_int (fun _ _ => rfl))) pe_str) pa_nil))) pa_nil)))
      (pss_cons (ps_if (pt_cmpR (op_neD hr.units) (C8.pe_c c_approved hr (by omega) (by rfl) (pa_cons (C8.pe_mk mk_Tree hr (by omega) (by rfl) (pa_cons (pe_callTy call_tuple_of (by rfl) T.tuple PyProof.Rows.boot_tuple (pa_cons (pe_op op_cat (pv 4) (pv 6)) pa_nil)) pa_nil)) (pa_cons (C8.pe_mk mk_Tree hr (by omega) (by rfl) (pa_cons (pe_callTy call_tuple_of (by rfl) T.tuple PyProof.Rows.boot_tuple (pa_cons (pe_op op_cat (pv 5) (pv 6)) pa_nil)) pa_nil)) (pa_cons pe_str (pa_cons (pe_tup pa_nil) pa_nil))))) (pe_tup (pa_cons pe_str (pa_cons (pe_tup (pa_cons pe_int (pa_cons pe_int pa_nil))) pa_nil))) (nomark _))
      (pss_one (ps_ret pe_bl))
      pss_nil)
      (pss_cons (ps_if (pt_cmpR (op_neD hr.units) (C8.pe_c c_approved hr (by omega) (by rfl) (pa_cons (C8.pe_mk mk_Tree hr (by omega) (by rfl) (pa_cons (pe_callTy call_tuple_of (by rfl) T.tuple PyProof.Rows.boot_tuple (pa_cons (pe_op op_cat (pv 4) (pv 6)) pa_nil)) pa_nil)) (pa_cons (C8.pe_mk mk_Tree hr (by omega) (by rfl) (pa_cons (pe_callTy call_tuple_of (by rfl) T.tuple PyProof.Rows.boot_tuple (pa_cons (pe_op op_cat (pv 5) (pv 6)) pa_nil)) pa_nil)) (pa_cons pe_str (pa_cons (pe_tup (pa_strs rfl)) pa_nil))))) (pe_tup (pa_cons pe_str (pa_cons (pe_tup (pa_cons (pe_tup (pa_cons pe_int (pa_cons pe_int pa_nil))) (pa_cons (pe_tup (pa_cons pe_int (pa_cons pe_int pa_nil))) pa_nil))) pa_nil))) (nomark _))
      (pss_one (ps_ret pe_bl))
      pss_nil)
      (pss_cons (ps_set (i := 7) sc_law.nd rfl (.inl rfl) (C8.pe_c c_l_tree hr (by omega) (by rfl) (pa_cons (pv 1) (pa_cons (pv 2) pa_nil))))
      (pss_cons (ps_set (i := 8) sc_law.nd rfl (.inl rfl) (C8.pe_c c_l_edited hr (by omega) (by rfl) (pa_cons (pv 7) (pa_cons (C8.pe_c c_l_edit hr (by omega) (by rfl) (pa_cons (pv 1) (pa_cons (pv 2) (pa_cons (pv 7) pa_nil)))) pa_nil))))
      (pss_cons (ps_set (i := 9) sc_law.nd rfl (.inl rfl) (C8.pe_mk mk_Tree hr (by omega) (by rfl) (pa_cons (pv 7) pa_nil)))
      (pss_cons (ps_set (i := 10) sc_law.nd rfl (.inl rfl) (C8.pe_mk mk_Tree hr (by omega) (by rfl) (pa_cons (pv 8) pa_nil)))
      (pss_cons (ps_set (i := 11) sc_law.nd rfl (.inl rfl) pe_non)
      (pss_cons (ps_for PassesOwn.never rfl (pi_range1 (by rfl) T.range (pa_cons pe_int pa_nil)) (pg_name (i := 12) sc_law.nd rfl (.inl rfl))
      (pss_cons (ps_set (i := 13) sc_law.nd rfl (.inl rfl) (C8.pe_c c_l_check hr (by omega) (by rfl) (pa_cons (pe_ix ix_list (pe_lst (pa_cons (pv 7) (pa_cons (pv 8) pa_nil))) (pv 12) (fun _ _ => rfl)) (pa_cons (pe_lst (pa_strs rfl)) pa_nil))))
        (pss_one (ps_set (i := 11) sc_law.nd rfl (.inl rfl) (pe_ifExp (pt_cmp (pc_isN (pv 11))) (pv 13) (pv 11))))))
      (pss_cons (ps_set (i := 14) sc_law.nd rfl (.inl rfl) (pe_ix ix_list (pe_lst (pa_strs rfl)) (C8.pe_c c_l_take hr (by omega) (by rfl) (pa_cons (pv 1) (pa_cons (pv 2) (pa_cons pe_int pa_nil)))) (fun _ _ => rfl)))
      (pss_cons (ps_set (i := 16) sc_law.nd rfl (.inl rfl) (pe_callTy call_tuple_of (by rfl) T.tuple PyProof.Rows.boot_tuple (pa_cons (pe_lc (own := [("name", 15)]) (g := gName 15) (tt := _) rfl sc_law.nd (pi_list (pe_lst (pa_strs rfl))) (blkOk_by (N := ["script", "row", "spot", "many", "low", "high", "rules_now", "files", "after", "old", "new", "wrong", "side", "told", "author", "name", "given", "error", "due", "more", "path", "k", "one"]) (sc := defScope s_law) (by decide +kernel)) (fun _ _ _ _ _ => (pg_name (i := 15) sc_law.nd rfl (.inl rfl))) (fun _ _ _ _ _ => (pts_one (pt_cmpR op_eq (C8.pe_c c_l_take hr (by omega) (by rfl) (pa_cons (pv 1) (pa_cons (pv 2) (pa_cons pe_int pa_nil)))) pe_int (nomark _)))) (fun _ _ _ _ _ => (pv 15))) pa_nil)))
      (pss_cons (ps_if (pt_cmp (pc_notN (pv 11)))
      (pss_cons (L2N.ps_try_as (i := 17) rfl rfl sc_law.nd rfl rfl ⟨rfl, by decide, .inl e1.mc⟩ takes_no (fun W pn xe tk _ => pss_one (ps_expr (pe_callS GA hr5 (by rfl) AA.mf AA.fn.kp AA.bd (fun σ => L2N.passAt tk σ) (pa_cons (pv 9) (pa_cons (pv 10) (pa_cons (pv 14) (pa_cons (pv 16) pa_nil)))))))
        (fun a oe cls d pn hz hf => pss_one (ps_ret (pe_cmpR (r := rEqD K) (op_eqD hr.units) (pe_tup (pa_cons (pe_get hz.zc hf (pv 17)) (pa_cons (pe_get hz.zc hf (pv 17)) pa_nil))) (pv 11) (nomark _)))))
        (pss_one (ps_ret pe_bl)))
      pss_nil)
      (pss_cons (ps_set (i := 18) sc_law.nd rfl (.inl rfl) (C8.pe_c c_l_approved hr (by omega) (by rfl) (pa_cons (pv 7) (pa_cons (pv 8) (pa_cons (pv 14) (pa_cons (pv 16) pa_nil))))))
      (pss_cons (ps_if (pt_not (pt_val (C8.pe_c c_l_so hr (by omega) (by rfl) (pa_cons (C8.pe_c c_approved hr (by omega) (by rfl) (pa_cons (pv 9) (pa_cons (pv 10) (pa_cons (pv 14) (pa_cons (C8.pe_c c_l_loose hr (by omega) (by rfl) (pa_cons (pv 16) (pa_cons (C8.pe_c c_l_take hr (by omega) (by rfl) (pa_cons (pv 1) (pa_cons (pv 2) (pa_cons pe_int pa_nil)))) pa_nil))) pa_nil))))) (pa_cons (pv 18) pa_nil)))))
      (pss_one (ps_ret pe_bl))
      pss_nil)
      (pss_cons (ps_for PassesOwn.never rfl (pi_list (pe_lst (pa_strs rfl))) (pg_name (i := 15) sc_law.nd rfl (.inl rfl))
      (pss_cons (ps_set (i := 19) sc_law.nd rfl (.inl rfl) (pe_callTy call_tuple_of (by rfl) T.tuple PyProof.Rows.boot_tuple (pa_cons (pe_callB (call_sortedD rfl) (by rfl) T.sorted (by decide +kernel) (pa_cons (pe_callTy (call_dictP rfl) (by rfl) T.dict (by decide +kernel) (pa_cons (pe_lc (own := [("one", 22)]) (g := gName 22) (tt := tYes) rfl sc_law.nd (pi_tup (pe_op op_catA (pv 16) (pe_tup (pa_cons (pv 15) pa_nil)))) (blkOk_by (N := ["script", "row", "spot", "many", "low", "high", "rules_now", "files", "after", "old", "new", "wrong", "side", "told", "author", "name", "given", "error", "due", "more", "path", "k", "one"]) (sc := defScope s_law) (by decide +kernel)) (fun _ _ _ _ _ => (pg_name (i := 22) sc_law.nd rfl (.inl rfl))) (fun _ _ _ _ _ => pts_nil) (fun _ _ _ _ _ => (pe_tup (pa_cons (pv 22) (pa_cons pe_int pa_nil))))) pa_nil)) pa_nil)) pa_nil)))
        (pss_cons (ps_set (i := 13) sc_law.nd rfl (.inl rfl) (Ks.pe_k ck_approved hr (by omega) (by rfl) (pk_cons (pv 9) (pk_cons (pv 10) (pk_cons (pv 14) (pk_cons (pv 19) pk_nil))))))
        (pss_one (ps_if (PW.pt (pw_or (PW.pt (pw_and (pt_cmpR op_eq (pe_ix ix_tup (pv 18) pe_int (fun _ _ => rfl)) pe_str (nomark _)) (pw_and1 (pt_cmpR (op_neD hr.units) (pv 13) (pv 18) (nomark _))))) (pw_or1 (PW.pt (pw_and (pt_cmpR op_eq (pv 15) (pv 14) (nomark _)) (pw_and1 (pt_cmpR (op_neD hr.units) (pv 13) (pv 18) (nomark _))))))))
        (pss_one (ps_ret pe_bl))
        pss_nil)))))
      (pss_cons (ps_for PassesOwn.never rfl (pi_list (pe_lst (pa_strs rfl))) (pg_name (i := 20) sc_law.nd rfl (.inl rfl))
      (pss_one (ps_if (pt_not (pt_val (C8.pe_c c_l_so hr (by omega) (by rfl) (pa_cons (C8.pe_c c_approvals hr (by omega) (by rfl) (pa_cons (pv 9) (pa_cons (pv 20) pa_nil))) (pa_cons (pe_callTy call_tuple_of (by rfl) T.tuple PyProof.Rows.boot_tuple (pa_cons (C8.pe_c c_l_own_lines hr (by omega) (by rfl) (pa_cons (pv 7) (pa_cons (pe_lst (pa_cons (pv 20) pa_nil)) pa_nil))) pa_nil)) pa_nil)))))
        (pss_one (ps_ret pe_bl))
        pss_nil)))
      (pss_one (ps_ret pe_bl))))))))))))))))))))))), ?_⟩
    refine st_seq (st_asg (te_call (ta_cons (te_v rfl (ta_nil ⟨a, ns, rfl, hS, hn, fun p row H1 s1 hp hrow hpos => st_g ?_⟩)))))
    dsimp only
    clear hS
    refine st_seq (st_asg ?_)
    refine ⟨(by show 1 ≤ sizeLine; decide), fun b hb => st_g ?_⟩
    dsimp only
    have npb : p ≠ b := ne_of_none hrow hb
    have sp : Sp0 K p b row (upd H1 b (.lst [.int 0])) := ⟨SqL.of (by rw [upd_ne npb]; exact hrow), hpos, npb, 0, Int.le_refl _, upd_same⟩
    generalize upd H1 b (.lst [.int 0]) = H2 at sp ⊢
    clear hrow hb hp s1
    refine st_seq (st_asg (te_op (te_c (te_call (ta_cons (te_v rfl (ta_cons (te_v rfl (ta_cons (te_c (ta_nil ⟨p, b, row, 20, rfl, sp, by decide, fun d H3 g3 d0 d1 => ⟨_, _, rfl, rfl, st_g ?_⟩⟩)))))))))))
    dsimp only
    replace sp := sp.go g3
    obtain ⟨m, hm2, hm, em⟩ : ∃ m : Nat, 2 ≤ m ∧ m < 22 ∧ 2 + d = (m : Int) := ⟨(2 + d).toNat, by omega, by omega, by omega⟩
    rw [em]
    clear g3 em d0 d1 H2 d
    have hmr : -(2 : Int) ^ 62 ≤ 100 + (m : Int) ∧ (100 + (m : Int)) < 2 ^ 62 := by omega
    refine st_seq (st_asg (te_lc ?_))
    refine ⟨_, rfl, _, _, rfl, rfl, 100, 100 + (m : Int), rfl, ⟨by decide, by decide, hmr.1, hmr.2⟩, fun D hD => ?_⟩
    rw [show ((100 + (m : Int)) - 100).toNat = m by omega]
    have hDb : b ≠ D := ne_of_none sp.cell.choose_spec.2 hD
    refine lc_low (c := "0") (fun _ => rfl) (fun _ => rfl) (by omega) hD fun H4 lv s4 e4 r4 => ?_
    refine st_g ?_
    dsimp only
    replace sp := sp.go (Go.same sp.cell s4)
    refine st_seq (st_asg (te_lc ?_))
    refine ⟨_, rfl, D, rfl, ⟨_, SqL.of e4⟩, fun D2 hD2 => ?_⟩
    have hDb2 : b ≠ D2 := ne_of_none sp.cell.choose_spec.2 hD2
    have lvl := r4.len
    rw [List.length_map, List.length_range] at lvl
    refine lc_list (K := K) (a := D) (xs := lv) (fun i H => Same H4 H ∧ ∃ vs : List V, H D2 = some (.lst vs) ∧ Reps H ((List.range i).map fun k => pairD (nameF k, "1")) vs) ⟨Same.new hD2, [], upd_same, rfl⟩ (fun i H _ q => SqL.of (q.1 _ _ e4)) ?_ ?_
    · rintro i x H5 hx ⟨s5, vs, e5, rp⟩
      have hil : i < m := by
        have := (List.getElem?_eq_some_iff.mp hx).1
        omega
      obtain ⟨v, hv, hrep⟩ := r4.get (i := i) (d := pairD (nameF i, "0")) (by rw [List.getElem?_map, List.getElem?_range hil]; rfl)
      obtain rfl : v = x := Option.some.inj (hv.symm.trans hx)
      obtain ⟨t, rfl, ht⟩ := pair_of (hrep.keep (Same.tk s5))
      have vl := rp.len
      rw [List.length_map, List.length_range] at vl
      refine ⟨rfl, _, rfl, t, _, 0, _, rfl, rfl, .inl ht, rfl, (by show 2 ≤ sizeLine; decide), fun t2 ht2 => ?_⟩
      have s6 : Same H4 (upd H5 t2 (.tup [.str (nameF i), .str "1"])) := fun b o z => by rw [upd_ne (ne_of_none (s5 b o z) ht2)]; exact s5 b o z
      have hDt : D2 ≠ t2 := ne_of_none e5 ht2
      refine ⟨vs, by rw [upd_ne hDt]; exact e5, small_lt (by omega), Same.mut s6 hD2, vs ++ [.ref t2], upd_same, ?_⟩
      rw [List.range_succ, List.map_append]
      have tk1 : Tk H5 (upd H5 t2 (.tup [.str (nameF i), .str "1"])) := Tk.new ht2
      have eD : upd H5 t2 (.tup [.str (nameF i), .str "1"]) D2 = some (.lst vs) := by rw [upd_ne hDt]; exact e5
      have tk2 := Tk.lst (o := .lst (vs ++ [.ref t2])) eD
      exact Reps.snoc (Reps.keep (tk1.trans tk2) rp) (pair_rep (by rw [upd_ne (Ne.symm hDt)]; exact upd_same))
    rintro H5 ⟨s5, hv, e5, r5⟩
    rw [lvl] at r5
    refine st_g ?_
    dsimp only
    replace sp := sp.go (Go.same sp.cell s5)
    replace e4 := s5 _ _ e4
    replace r4 := r4.keep (Same.tk s5)
    have hj0 : (0 : Int) < (m : Int) := by omega
    refine st_seq <| st_asg <| te_lst <| ta_cons <| te_tup <| ta_cons <| te_c <| ta_cons <| te_op <| te_op <| te_c <| te_op <| te_op <| te_v rfl <| te_call <| ta_cons <| te_v rfl <| ta_cons <| te_v rfl <| ta_cons <| te_v rfl <| ta_nil ⟨p, b, row, (m : Int), rfl, sp, hj0, fun d H6 g6 d0 d1 => ?_⟩
    obtain ⟨j, hj, rfl⟩ := lt_cases d0 d1
    replace e4 := g6.keep D _ (Ne.symm hDb) e4
    replace e5 := g6.keep D2 _ (Ne.symm hDb2) e5
    replace r4 := r4.keep (g6.tk sp.cell)
    replace r5 := r5.keep (g6.tk sp.cell)
    replace sp := sp.go g6
    clear g6 s5 s4 hD hD2 hDb hDb2 hmr hj0 d0 d1
    obtain ⟨v, hv2, hrep⟩ := r4.get (i := j) (d := pairD (nameF j, "0")) (by rw [List.getElem?_map, List.getElem?_range hj]; rfl)
    obtain ⟨t, rfl, ht⟩ := pair_of hrep
    have nl := name_path j (by omega)
    have rl : (ruleF j).length ≤ 1000 := (good_of (good_low m hm j (by omega))).ok _ (List.mem_append_right _ (List.mem_singleton.mpr rfl)) |>.cont.len
    have e7 : ruleF j = (("own " : Str) ++ nameF j) ++ (" 1 bob\n" : Str) := rfl
    rw [e7, len_cat] at rl
    have b2 : (("own " : Str) ++ nameF j).length + (" 1 bob\n" : Str).length ≤ 1000 := rl
    have b1 : ("own " : Str).length + (nameF j).length ≤ 1000 := by
      rw [len_cat] at b2
      omega
    refine ⟨D, lv, (j : Int), .ref t, rfl, rfl, SqL.of e4, atI_nat hv2, te_c (pair0 ht ⟨_, _, rfl, rfl, small_of (Nat.le_trans b1 (by decide)), te_c ⟨_, _, rfl, rfl, small_of (Nat.le_trans b2 (by decide)), ta_nil ⟨(by show 2 ≤ sizeLine; decide), fun t2 ht2 => ta_nil ⟨(by show 1 ≤ sizeLine; decide), fun R hR => st_g ?_⟩⟩⟩⟩)⟩
    dsimp only
    have s7 : Same H6 (upd H6 t2 (.tup [.str "own/rules", .str (ruleF j)])) := Same.new ht2
    have p7 : Rep (upd H6 t2 (.tup [.str "own/rules", .str (ruleF j)])) (pairD ("own/rules", ruleF j)) (.ref t2) := pair_rep upd_same
    rw [← e7] at hR ⊢
    generalize upd H6 t2 (.tup [.str "own/rules", .str (ruleF j)]) = H7 at s7 p7 hR ⊢
    have s8 : Same H7 (upd H7 R (.lst [.ref t2])) := Same.new hR
    have eR : upd H7 R (.lst [.ref t2]) R = some (.lst [.ref t2]) := upd_same
    generalize upd H7 R (.lst [.ref t2]) = H8 at s8 eR ⊢
    have s68 : Same H6 H8 := fun b o e => s8 b o (s7 b o e)
    have rR : Reps H8 ([(("own/rules" : Str), ruleF j)].map pairD) [.ref t2] := ⟨_, _, rfl, p7.keep (Same.tk s8), rfl⟩
    replace e4 := s68 _ _ e4
    replace e5 := s68 _ _ e5
    have r4' : Reps H8 (((List.range m).map fun k => (nameF k, ("0" : Str))).map pairD) lv := by
      rw [List.map_map]
      exact r4.keep (Same.tk s68)
    have r5' : Reps H8 (((List.range m).map fun k => (nameF k, ("1" : Str))).map pairD) hv := by
      rw [List.map_map]
      exact r5.keep (Same.tk s68)
    replace sp := sp.go (Go.same sp.cell s68)
    have hj2 : j < 22 := by omega
    have g0 := good_of (good_low m hm j hj2)
    have g1 := good_of (good_high m hm j hj2)
    have fr0 := first_read "0" hm hj2
    have fr1 := first_read "1" hm hj2
    clear r4 r5 s68 s7 s8 p7 hR ht2 rl b1 b2 e7 nl ht hrep
    refine st_seq <| st_if <| tt_b <| te_op <| te_call <| ta_cons <| cat_tree rfl rfl e4 eR r4' rR g0 fun t1 H9 s9 tr1 => ?_
    refine ta_cons <| cat_tree rfl rfl (s9 _ _ e5) (s9 _ _ eR) (r5'.keep (Same.tk s9)) (rR.keep (Same.tk s9)) g1 fun t2 HA sA tr2 => ?_
    refine ta_cons <| te_c <| ta_cons <| te_tup <| ta_nil ⟨(by show 0 ≤ sizeLine; decide), fun g hg => ta_nil ?_⟩
    have sB : Same HA (upd HA g (.tup [])) := Same.new hg
    refine ⟨t1, t2, g, "ann", treeN m j "0", treeN m j "1", [], rfl, (tr1.same sA).same sB, tr2.same sB, first_two hm hj2, g0.short, g1.short, ann_word, .inl (.inl upd_same), giv_nil, fr0.1, fr1.1, fun v ks HC sC asc mem rep => ?_⟩
    have rep2 : Rep HC dNo v := by
      rw [show dNo = _ from (first_no (first_at hm hj mem)).symm]
      rw [fr0.2, fr1.2] at rep
      exact rep
    clear rep
    refine lit_no fun q HD sD repD => ⟨_, _, Rep.dp (rep2.keep (Same.tk sD)), Rep.dp repD, dNo_sh, dNo_sh, _, rfl, ?_⟩
    rw [eqv_self dNo_sh]
    refine iteF (st_next ?_)
    dsimp only
    have s8D : Same H8 HD := fun b o e => sD b o (sC b o (sB b o (sA b o (s9 b o e))))
    replace e4 := s8D _ _ e4
    replace e5 := s8D _ _ e5
    replace eR := s8D _ _ eR
    replace r4' := r4'.keep (Same.tk s8D)
    replace r5' := r5'.keep (Same.tk s8D)
    replace rR := rR.keep (Same.tk s8D)
    replace sp := sp.go (Go.same sp.cell s8D)
    clear tr1 tr2 s9 sA sB sC sD repD rep2 asc mem hg s8D
    refine st_seq <| st_if <| tt_b <| te_op <| te_call <| ta_cons <| cat_tree rfl rfl e4 eR r4' rR g0 fun t1 H9 s9 tr1 => ?_
    refine ta_cons <| cat_tree rfl rfl (s9 _ _ e5) (s9 _ _ eR) (r5'.keep (Same.tk s9)) (rR.keep (Same.tk s9)) g1 fun t2 HA sA tr2 => ?_
    refine ta_cons <| te_c <| ta_cons <| te_tup <| ta_strs ⟨(by show 1 ≤ sizeLine; decide), fun g hg => ta_nil ?_⟩
    have sB : Same HA (upd HA g (.tup [.str "bob"])) := Same.new hg
    refine ⟨t1, t2, g, "ann", treeN m j "0", treeN m j "1", ["bob"], rfl, (tr1.same sA).same sB, tr2.same sB, first_two hm hj2, g0.short, g1.short, ann_word, .inl (.inl upd_same), giv_bob, fr0.1, fr1.1, fun v ks HC sC asc mem rep => ?_⟩
    have rep2 : Rep HC dYes v := by
      rw [show dYes = _ from (first_yes (first_at hm hj mem)).symm]
      rw [fr0.2, fr1.2] at rep
      exact rep
    clear rep
    refine lit_yes fun q HE sE repD => ⟨_, _, Rep.dp (rep2.keep (Same.tk sE)), Rep.dp repD, dYes_sh, dYes_sh, _, rfl, ?_⟩
    rw [eqv_self dYes_sh]
    refine iteF (st_next ?_)
    dsimp only
    have s8D : Same HD HE := fun b o e => sE b o (sC b o (sB b o (sA b o (s9 b o e))))
    replace sp := sp.go (Go.same sp.cell s8D)
    clear tr1 tr2 s9 sA sB sC sE repD rep2 asc mem hg s8D e4 e5 eR r4' r5' rR g0 g1 fr0 fr1
    refine st_seq <| st_asg <| te_call <| ta_cons <| te_v rfl <| ta_cons <| te_v rfl <| ta_nil ⟨p, b, row, rfl, sp, fun fv fs HF gF hf fok fasc fne => st_g ?_⟩
    dsimp only
    replace sp := sp.go gF
    clear gF
    refine st_seq <| st_asg <| te_call <| ta_cons <| te_v rfl <| ta_cons <| te_call <| ta_cons <| te_v rfl <| ta_cons <| te_v rfl <| ta_cons <| te_v rfl <| ta_nil ⟨p, b, row, fv, fs, rfl, sp, hf, fok, fne, fun ev es HG gG he eok easc => ta_nil ?_⟩
    replace hf := Rep.go (d := filesD fs) sp.cell gG hf
    replace sp := sp.go gG
    clear gG
    refine ⟨fv, ev, fs, es, rfl, hf, fok, he, eok, fun av gs HH sH hg gok gasc gval => st_g ?_⟩
    dsimp only
    replace hf := Rep.keep (d := filesD fs) (Same.tk sH) hf
    replace sp := sp.go (Go.same sp.cell sH)
    clear sH he
    have goodf := fok.good fasc
    have goodg := gok.good gasc
    refine st_seq <| st_asg <| te_make <| ta_cons <| te_v rfl <| ta_nil (mk_leaf (v := fv) (fs := fs) (Rep.loose (d := filesD fs) hf) goodf fun t1 HI sI tr1 => st_g ?_)
    dsimp only
    replace hf := Rep.keep (d := filesD fs) (Same.tk sI) hf
    replace hg := Rep.keep (d := filesD gs) (Same.tk sI) hg
    replace sp := sp.go (Go.same sp.cell sI)
    clear sI
    refine st_seq <| st_asg <| te_make <| ta_cons <| te_v rfl <| ta_nil (mk_leaf (v := av) (fs := gs) (Rep.loose (d := filesD gs) hg) goodg fun t2 HJ sJ tr2 => st_g ?_)
    dsimp only
    replace hf := Rep.keep (d := filesD fs) (Same.tk sJ) hf
    replace hg := Rep.keep (d := filesD gs) (Same.tk sJ) hg
    replace tr1 := tr1.same sJ
    replace sp := sp.go (Go.same sp.cell sJ)
    clear sJ
    refine st_seq <| st_asg <| te_c <| st_g ?_
    dsimp only
    refine st_seq ?_
    refine ⟨2, rfl, by decide, by decide, for_range (n := 2) (fun i σ H4 => ∃ (k12 k13 : Option V) (wv : V), σ = [some (.ref a), some (.ref p), some (.ref b), some (.int m), some (.ref D), some (.ref D2), some (.ref R), some fv, some av, some (.ref t1), some (.ref t2), some wv, k12, k13, none, none, none, none, none, none, none, none, none] ∧ Same HJ H4 ∧ WrAt H4 wv (wrS (ownAt fs) (ownAt gs) i))
      ⟨none, none, _, rfl, Same.refl _, rfl⟩ ?_ ?_⟩
    · rintro i σ H4 hi ⟨k12, k13, wv, rfl, s4, hw⟩
      refine st_g ?_
      rw [Int.zero_add]
      dsimp only
      obtain ⟨fi, ui, hui, repi, shi, ei⟩ : ∃ (fi : Fs) (ui : V), [fv, av][i]? = some ui ∧ Rep HJ (filesD fi) ui ∧ Short fi ∧ wrS (ownAt fs) (ownAt gs) (i + 1) = (wrS (ownAt fs) (ownAt gs) i).or (ownAt fi) := by
        match i, hi with
        | 0, _ => exact ⟨fs, fv, rfl, hf, goodf.short, rfl⟩
        | 1, _ => exact ⟨gs, av, rfl, hg, goodg.short, rfl⟩
      refine st_seq <| st_asg <| te_call <| ta_cons <| te_op <| te_lst <| ta_cons <| te_v rfl <| ta_cons <| te_v rfl <| ta_nil ⟨(by show 2 ≤ sizeLine; decide), fun q hq => te_v rfl ⟨q, _, _, ui, rfl, rfl, SqL.of upd_same, atI_nat hui, ta_cons <| te_lst <| ta_strs ⟨(by show 1 ≤ sizeLine; decide), fun r hr => ta_nil ?_⟩⟩⟩
      have s5 : Same H4 (upd H4 q (.lst [fv, av])) := Same.new hq
      generalize upd H4 q (.lst [fv, av]) = H5 at s5 hr ⊢
      have s6 : Same H5 (upd H5 r (.lst [.str "own"])) := Same.new hr
      have sJ6 : Same HJ (upd H5 r (.lst [.str "own"])) := fun b o e => s6 b o (s5 b o (s4 b o e))
      refine lcheck_one (repi.keep (Same.tk sJ6)) shi upd_same fun tv H6 s7 ht => st_g ?_
      dsimp only
      have sJ7 : Same HJ H6 := fun b o e => s7 b o (sJ6 b o e)
      have s47 : Same H4 H6 := fun b o e => s7 b o (s6 b o (s5 b o e))
      replace hw := hw.same s47
      refine st_asg ⟨_, rfl, _, rfl, ?_⟩
      cases ow : wrS (ownAt fs) (ownAt gs) i with
      | none =>
        rw [ow] at hw ei
        cases (show wv = V.non from hw)
        refine iteT (te_v rfl (st_g ⟨_, _, _, rfl, sJ7, ?_⟩))
        rw [ei]
        exact ht
      | some x =>
        obtain ⟨p0, k0⟩ := x
        rw [ow] at hw ei
        obtain ⟨t, rfl, ht0⟩ := hw
        refine iteF (te_v rfl (st_g ⟨_, _, _, rfl, sJ7, ?_⟩))
        rw [ei]
        exact ⟨t, rfl, ht0⟩
    rintro σ H4 ⟨k12, k13, wv, rfl, s4, hw⟩
    dsimp only
    replace hf := Rep.keep (d := filesD fs) (Same.tk s4) hf
    replace hg := Rep.keep (d := filesD gs) (Same.tk s4) hg
    replace tr1 := tr1.same s4
    replace tr2 := tr2.same s4
    replace sp := sp.go (Go.same sp.cell s4)
    clear s4
    refine st_seq <| st_asg <| te_op <| te_lst <| ta_strs ⟨(by show 3 ≤ sizeLine; decide), fun q hq => ?_⟩
    have sq : Same H4 (upd H4 q (.lst ((["ann", "bob", "eve"] : List Str).map V.str))) := Same.new hq
    refine te_call <| ta_cons <| te_v rfl <| ta_cons <| te_v rfl <| ta_cons <| te_c <| ta_nil ⟨p, b, row, 3, rfl, sp.go (Go.same sp.cell sq), by decide, fun d H5 g5 d0 d1 => ?_⟩
    have eq := strs_new sp.cell hq g5
    obtain ⟨author, hau, hat⟩ := strs_at (xs := ["ann", "bob", "eve"]) d0 d1
    refine ⟨q, _, d, _, rfl, rfl, SqL.of eq, hat, st_g ?_⟩
    dsimp only
    have g45 : Go b H4 H5 := (Go.same sp.cell sq).trans g5
    replace hf := Rep.go (d := filesD fs) sp.cell g45 hf
    replace hg := Rep.go (d := filesD gs) sp.cell g45 hg
    replace tr1 := tr1.go sp.cell g45
    replace tr2 := tr2.go sp.cell g45
    replace hw := hw.go sp.cell g45
    replace sp := sp.go g45
    have wa : wordB author = true := seven_word author (List.mem_of_mem_take (show author ∈ seven.take 5 from by
      rcases List.mem_cons.mp hau with h | h
      · rw [h]; decide
      · rcases List.mem_cons.mp h with h | h
        · rw [h]; decide
        · rw [List.mem_singleton.mp h]; decide))
    clear g5 g45 eq hat hau sq hq d0 d1
    refine st_seq <| st_asg <| te_cb <| ta_cons <| te_lc ?_
    refine ⟨(by show 7 ≤ sizeLine; decide), fun N hN => ⟨N, rfl, ⟨_, SqL.of upd_same⟩, fun Dg hDg => ?_⟩⟩
    have s6 : Same H5 (upd H5 N (.lst (seven.map V.str))) := Same.new hN
    have n6 : upd H5 N (.lst (seven.map V.str)) N = some (.lst (seven.map V.str)) := upd_same
    show ∃ W : Nat → Nat → Hp → Prop, _
    generalize upd H5 N (.lst (seven.map V.str)) = H6 at s6 n6 hDg ⊢
    have sp6 := sp.go (Go.same sp.cell s6)
    have nDN : N ≠ Dg := ne_of_none n6 hDg
    have nDb : b ≠ Dg := ne_of_none sp6.cell.choose_spec.2 hDg
    have nNb : b ≠ N := ne_of_none sp.cell.choose_spec.2 hN
    refine lc_list (K := K) (a := N) (xs := seven.map V.str) (fun i H7 => ∃ xs : List Str, Go b H6 H7 ∧ H7 N = some (.lst (seven.map V.str)) ∧ H7 Dg = some (.lst (xs.map V.str)) ∧ xs.Sublist (seven.take i))
      ⟨[], Go.new sp6.refl hDg, by rw [upd_ne nDN]; exact n6, upd_same, List.nil_sublist _⟩ (fun i H7 _ ⟨_, _, z, _⟩ => SqL.of z) ?_ ?_
    · rintro i x H7 hx ⟨xs, g7, n7, d7, sub⟩
      rw [List.getElem?_map] at hx
      obtain ⟨nm, hnm, rfl⟩ := Option.map_eq_some_iff.mp hx
      have tk1 : seven.take (i + 1) = seven.take i ++ [nm] := by
        rw [List.take_add_one, hnm]
        rfl
      have sp7 := sp6.go g7
      refine ⟨rfl, tt_b <| te_op <| te_call <| ta_cons <| te_v rfl <| ta_cons <| te_v rfl <| ta_cons <| te_c <| ta_nil ⟨p, b, row, 2, rfl, sp7, by decide, fun d H8 g8 d0 d1 => te_c ?_⟩⟩
      refine ⟨rfl, _, rfl, ?_⟩
      have g68 := g7.trans g8
      have n8 := g8.keep N _ (Ne.symm nNb) n7
      have d8 := g8.keep Dg _ (Ne.symm nDb) d7
      have xl : xs.length ≤ 7 := Nat.le_trans (sub.trans (List.take_sublist i seven)).length_le (by decide)
      by_cases c : d = 0
      · rw [decide_eq_true (show V.int d = V.int 0 by rw [c])]
        refine iteT (te_v rfl ⟨_, d8, small_lt (by rw [List.length_map]; omega), xs ++ [nm], ?_, ?_, ?_, ?_⟩)
        · exact Go.mut g68 (by
            cases e : H6 Dg with
            | none => rfl
            | some o => exact absurd (by assumption : H6 Dg = none) (by rw [e]; exact fun z => nomatch z)) nDb
        · rw [upd_ne nDN]
          exact n8
        · rw [upd_same, List.map_append]
          rfl
        · rw [tk1]
          exact List.Sublist.append sub (List.Sublist.refl _)
      · rw [decide_eq_false (show V.int d ≠ V.int 0 from fun z => c (V.int.inj z))]
        refine iteF ⟨xs, g68, n8, d8, ?_⟩
        rw [tk1]
        exact sub.trans (List.sublist_append_left _ _)
    rintro H7 ⟨xs, g7, n7, d7, sub⟩
    have giv := giv_sub sub
    have xl := giv.few
    refine ta_nil ⟨Dg, _, rfl, .inl ⟨SqL.of d7, fun g hg0 => st_g ?_⟩⟩
    dsimp only
    have s8 : Same H7 (upd H7 g (.tup (xs.map V.str))) := Same.new hg0
    have eg : upd H7 g (.tup (xs.map V.str)) g = some (.tup (xs.map V.str)) := upd_same
    generalize upd H7 g (.tup (xs.map V.str)) = H8 at s8 eg ⊢
    have g58 : Go b H5 H8 := ((Go.same sp.cell s6).trans g7).trans (Go.same (sp6.go g7).cell s8)
    replace hf := Rep.go (d := filesD fs) sp.cell g58 hf
    replace hg := Rep.go (d := filesD gs) sp.cell g58 hg
    replace tr1 := tr1.go sp.cell g58
    replace tr2 := tr2.go sp.cell g58
    replace hw := hw.go sp.cell g58
    replace sp := sp.go g58
    clear g58 g7 s8 s6 n6 n7 d7 nDN nDb nNb hDg hN hg0 sp6
    have two := Two.of fok gok
    have shf := goodf.short
    have shg := goodg.short
    have sqg : SeqAt H8 g (xs.map V.str) := .inl (.inl eg)
    refine st_seq <| st_if ?_
    refine ⟨_, rfl, _, rfl, ?_⟩
    cases ow : wrS (ownAt fs) (ownAt gs) 2 with
    | some x =>
      obtain ⟨p0, k0⟩ := x
      rw [ow] at hw
      obtain ⟨t, rfl, ht0⟩ := hw
      refine iteT ?_
      refine st_seq ?_
      have oor : (ownAt fs).or (ownAt gs) = some (p0, k0) := ow
      dsimp only
      refine st_expr <| te_callS <| ta_cons <| te_v rfl <| ta_cons <| te_v rfl <| ta_cons <| te_v rfl <| ta_cons <| te_v rfl <| ta_nil ?_
      refine ⟨t1, t2, g, author, fs, gs, xs, rfl, tr1, tr2, two, shf, shg, wa, sqg, giv, fun r wr dd H' out => ?_, fun af r wr dd H' out => ?_, fun af ag => ?_⟩
      · have e := ownAt_wrong wr
        rw [e] at oor
        obtain ⟨rfl, rfl⟩ := Prod.mk.inj (Option.some.inj oor)
        have ht1 := out.sm _ _ ht0
        have pe := ownAt_path e
        refine ⟨true, xh, fun _ ax hax => ?_, fun z => nomatch z⟩
        refine st_ret <| te_op <| te_tup <| ta_cons <| te_v rfl ⟨rfl, CB, dd, _, _, rfl, e1.xf, n2, rfl, out.xd, rfl, ta_cons <| te_v rfl ⟨rfl, CB, dd, _, _, rfl, e1.xf, n1, rfl, out.xd, rfl, ta_nil ⟨(by show 2 ≤ sizeLine; decide), fun q hq => te_v rfl ?_⟩⟩⟩
        have r1 : Rep (upd H' q (.tup [.str r.1, .int (r.2.1 : Int)])) (.tup [.str r.1, .int (r.2.1 : Int)]) (.ref q) := wr_rep upd_same
        have r2 : Rep (upd H' q (.tup [.str r.1, .int (r.2.1 : Int)])) (.tup [.str r.1, .int (r.2.1 : Int)]) (.ref t) := wr_rep (Same.new hq _ _ ht1)
        have sh : SeqAt.shaped (py (.tup [.str r.1, .int (r.2.1 : Int)])) = true := by
          rw [pe]
          exact own_sh _
        refine ⟨_, _, Rep.dp r1, Rep.dp r2, sh, sh, ?_⟩
        rw [eqv_self sh]
        exact kend _
      · have e := ownAt_wrong wr
        have e0 : ownAt fs = none := by
          cases h : ownAt fs with
          | none => rfl
          | some x => exact absurd af (not_allR h)
        rw [e0, e] at oor
        obtain ⟨rfl, rfl⟩ := Prod.mk.inj (Option.some.inj oor)
        have ht1 := out.sm _ _ ht0
        have pe := ownAt_path e
        refine ⟨true, xh, fun _ ax hax => ?_, fun z => nomatch z⟩
        refine st_ret <| te_op <| te_tup <| ta_cons <| te_v rfl ⟨rfl, CB, dd, _, _, rfl, e1.xf, n2, rfl, out.xd, rfl, ta_cons <| te_v rfl ⟨rfl, CB, dd, _, _, rfl, e1.xf, n1, rfl, out.xd, rfl, ta_nil ⟨(by show 2 ≤ sizeLine; decide), fun q hq => te_v rfl ?_⟩⟩⟩
        have r1 : Rep (upd H' q (.tup [.str r.1, .int (r.2.1 : Int)])) (.tup [.str r.1, .int (r.2.1 : Int)]) (.ref q) := wr_rep upd_same
        have r2 : Rep (upd H' q (.tup [.str r.1, .int (r.2.1 : Int)])) (.tup [.str r.1, .int (r.2.1 : Int)]) (.ref t) := wr_rep (Same.new hq _ _ ht1)
        have sh : SeqAt.shaped (py (.tup [.str r.1, .int (r.2.1 : Int)])) = true := by
          rw [pe]
          exact own_sh _
        refine ⟨_, _, Rep.dp r1, Rep.dp r2, sh, sh, ?_⟩
        rw [eqv_self sh]
        exact kend _
      · exfalso
        cases h0 : ownAt fs with
        | some x => exact not_allR h0 af
        | none =>
          rw [h0] at oor
          exact not_allR oor ag
    | none =>
      rw [ow] at hw
      cases (show wv = V.non from hw)
      refine iteF (st_next ?_)
      have af : AllR fs := ownAt_none (by
        cases h0 : ownAt fs with
        | none => rfl
        | some x =>
          rw [h0] at ow
          cases ow)
      have ag : AllR gs := ownAt_none (by
        cases h0 : ownAt gs with
        | none => rfl
        | some x =>
          rw [h0] at ow
          cases h1 : ownAt fs with
          | none =>
            rw [h1] at ow
            cases ow
          | some y =>
            rw [h1] at ow
            cases ow)
      clear ow hw
      dsimp only
      have repg : Rep H8 (.tup (xs.map Kd.D.str)) (.ref g) := ⟨g, _, rfl, .inl eg, small_of (by rw [List.length_map]; omega), strs_rep _ xs⟩
      refine st_seq <| st_asg <| te_call <| ta_cons <| te_v rfl <| ta_cons <| te_v rfl <| ta_cons <| te_v rfl <| ta_cons <| te_v rfl <| ta_nil ⟨fv, av, g, author, fs, gs, xs, rfl, hf, fok, hg, gok, shf, shg, af, ag, repg, xl, fun dv ks H9 s9 asc mem rep => st_g ?_⟩
      dsimp only
      replace hf := Rep.keep (d := filesD fs) (Same.tk s9) hf
      replace hg := Rep.keep (d := filesD gs) (Same.tk s9) hg
      replace repg := Rep.keep (Same.tk s9) repg
      replace eg := s9 _ _ eg
      replace tr1 := tr1.same s9
      replace tr2 := tr2.same s9
      replace sp := sp.go (Go.same sp.cell s9)
      clear s9 sqg
      generalize hes : (betweenL fs gs ks).map (·.1) = es at rep
      generalize hrl : restS (readOf fs) (readOf gs) 0 = rl at rep
      refine st_seq <| st_if <| tt_not <| tt_b <| te_call <| ta_cons <| te_call <| ta_cons <| te_v rfl <| ta_cons <| te_v rfl <| ta_cons <| te_v rfl <| ta_cons <| te_call <| ta_cons <| te_v rfl <| ta_cons <| te_call <| ta_cons <| te_v rfl <| ta_cons <| te_v rfl <| ta_cons <| te_c <| ta_nil ⟨p, b, row, 2, rfl, sp, by decide, fun d HA gA _ _ => ta_nil ?_⟩
      replace hf := Rep.go (d := filesD fs) sp.cell gA hf
      replace hg := Rep.go (d := filesD gs) sp.cell gA hg
      replace repg := Rep.go sp.cell gA repg
      replace rep := Rep.go sp.cell gA rep
      replace tr1 := tr1.go sp.cell gA
      replace tr2 := tr2.go sp.cell gA
      replace eg : HA g = some (.tup (xs.map V.str)) := gA.keep g _ (fun z => by
        obtain ⟨_, _, c⟩ := sp.cell
        rw [z, c] at eg
        cases eg) eg
      replace sp := sp.go gA
      clear gA
      refine ⟨.tup (xs.map Kd.D.str), .ref g, d, rfl, repg, by have := deps_strs xs; show Kd.D.deps _ + 1 < 5; omega, fun x HB sB rx => ta_nil ?_⟩
      replace hf := Rep.keep (d := filesD fs) (Same.tk sB) hf
      replace hg := Rep.keep (d := filesD gs) (Same.tk sB) hg
      replace rep := Rep.keep (Same.tk sB) rep
      replace eg := sB _ _ eg
      replace tr1 := tr1.same sB
      replace tr2 := tr2.same sB
      replace sp := sp.go (Go.same sp.cell sB)
      clear sB repg
      obtain ⟨g2, rfl, sq2⟩ := seq_of_repL rx.any
      refine ⟨t1, t2, g2, author, fs, gs, xs, rfl, tr1, tr2, two, shf, shg, wa, sq2, giv, af, ag, fun v ks' HC sC asc' mem' rep' => ta_cons <| te_v rfl <| ta_nil ?_⟩
      obtain rfl := Asc.unique asc asc' fun p => (mem p).trans (mem' p).symm
      rw [hes, hrl] at rep'
      replace hf := Rep.keep (d := filesD fs) (Same.tk sC) hf
      replace hg := Rep.keep (d := filesD gs) (Same.tk sC) hg
      replace rep := Rep.keep (Same.tk sC) rep
      replace eg := sC _ _ eg
      replace tr1 := tr1.same sC
      replace tr2 := tr2.same sC
      clear sC sq2 rx
      refine ⟨_, _, v, dv, rfl, rep', rep, byP_dep _ _ _ _, _, rfl, ?_⟩
      rw [Kd.D.eqb_refl]
      refine iteF (st_next ?_)
      dsimp only
      clear rep' sp
      refine st_seq ?_
      refine ⟨(by show 4 ≤ sizeLine; decide), fun N hN => ⟨N, rfl, ⟨_, SqL.of upd_same⟩, ?_⟩⟩
      have s0 : Same HC (upd HC N (.lst ((["ann", "bob", "cy", "dee"] : List Str).map V.str))) := Same.new hN
      have n0 : upd HC N (.lst ((["ann", "bob", "cy", "dee"] : List Str).map V.str)) N = some (.lst ((["ann", "bob", "cy", "dee"] : List Str).map V.str)) := upd_same
      show ∃ W : Nat → Nat → L2.St → Hp → Prop, _
      generalize upd HC N (.lst ((["ann", "bob", "cy", "dee"] : List Str).map V.str)) = HD at s0 n0 ⊢
      replace hf := Rep.keep (d := filesD fs) (Same.tk s0) hf
      replace rep := Rep.keep (Same.tk s0) rep
      replace eg := s0 _ _ eg
      replace tr1 := tr1.same s0
      replace tr2 := tr2.same s0
      clear s0 hN hg
      refine for_list (K := K) (a := N) (xs := (["ann", "bob", "cy", "dee"] : List Str).map V.str) (fun i σ H => ∃ k13 k15 k19 : Option V, σ = [some (.ref a), some (.ref p), some (.ref b), some (.int m), some (.ref D), some (.ref D2), some (.ref R), some fv, some av, some (.ref t1), some (.ref t2), some .non, k12, k13, some (.str author), k15, some (.ref g), none, some dv, k19, none, none, none] ∧ Same HD H)
        ⟨_, _, _, rfl, Same.refl _⟩ (fun i σ H _ ⟨_, _, _, _, z⟩ => SqL.of (z _ _ n0)) ?_ ?_
      · rintro i x σ H hx ⟨k13, k15, k19, rfl, s1⟩
        rw [List.getElem?_map] at hx
        obtain ⟨nm, hnm, rfl⟩ := Option.map_eq_some_iff.mp hx
        have nmem := List.mem_of_getElem? hnm
        have n7 : nm ∈ seven := by
          simp only [List.mem_cons, List.not_mem_nil, or_false] at nmem
          rcases nmem with h | h | h | h <;> rw [h] <;> decide
        refine st_g ?_
        dsimp only
        refine st_seq <| st_asg <| te_cb <| ta_cons <| te_cb <| ta_cons <| te_cb <| ta_cons <| te_lc ?_
        refine ⟨_, rfl, _, rfl, (by show 1 ≤ sizeLine; decide), fun q hq => ?_⟩
        have s2 : Same HD (upd H q (.tup [.str nm])) := fun b o e => by rw [upd_ne (ne_of_none (s1 b o e) hq)]; exact s1 b o e
        refine catA_ok (xs := xs.map V.str) (ys := [V.str nm]) (.inl (.inl (s2 _ _ eg))) (SqT.of upd_same) (small_of (by rw [List.length_map]; simp only [List.length_cons, List.length_nil]; omega)) fun cp HE s3 hcp => ?_
        rw [show xs.map V.str ++ [V.str nm] = (xs ++ [nm]).map V.str by rw [List.map_append]; rfl] at hcp
        refine ⟨cp, rfl, ⟨_, hcp⟩, fun dl hdl => lc_onesT (fun _ => rfl) (fun _ => rfl) hcp (by rw [List.length_append]; simp only [List.length_cons, List.length_nil]; omega) hdl fun HF ps s4 e4 pr => ?_⟩
        refine ta_nil ⟨dl, ps, _, rfl, SqL.of e4, pr, fun du hdu => ta_nil ?_⟩
        rw [show mergeK [] (kvG (fun _ : Unit => V.int 1) ((xs ++ [nm]).map fun x => (x, ()))) = kvG (fun _ : Unit => V.int 1) (mergeF [] ((xs ++ [nm]).map fun x => (x, ()))) from mergeK_F _ _ []]
        have mem2 : ∀ z, z ∈ (mergeF [] ((xs ++ [nm]).map fun x => (x, ()))).map (·.1) ↔ z ∈ xs ∨ z = nm := fun z => by
          rw [mergeF_mem, List.map_map]
          show z ∈ [] ∨ z ∈ (xs ++ [nm]).map id ↔ _
          rw [List.map_id, List.mem_append, List.mem_singleton]
          simp
        have mnd : ((mergeF [] ((xs ++ [nm]).map fun x => (x, ()))).map (·.1)).Nodup := mergeF_nodup _ _ List.nodup_nil
        generalize mergeF [] ((xs ++ [nm]).map fun x => (x, ())) = mm at mem2 mnd ⊢
        have in7 : ∀ z, z ∈ mm.map (·.1) → z ∈ seven := fun z hz => by
          rcases (mem2 z).mp hz with h | h
          · exact List.mem_of_mem_take (sub.subset h)
          · rw [h]; exact n7
        have mlen : (mm.map (·.1)).length ≤ 7 := Nat.le_trans (nodup_le mnd in7) (by decide)
        have s5 : Same HD (upd HF du (.dK (kvG (fun _ : Unit => V.int 1) mm))) := fun b o e => by
          have := s4 b o (s3 b o (s2 b o e))
          rw [upd_ne (ne_of_none this hdu)]
          exact this
        refine ⟨du, kvG (fun _ : Unit => V.int 1) mm, mm.map (·.1), rfl, .inl upd_same, kvF_keys _ mm, by omega, fun ms ml perm srt hml => ?_⟩
        have asc2 : Asc ms := asc_of srt (perm.nodup_iff.mpr mnd)
        have mem3 : ∀ z, z ∈ ms ↔ z ∈ xs ∨ z = nm := fun z => perm.mem_iff.trans (mem2 z)
        have giv2 : GivOk ms := giv_of asc2 fun z hz => in7 z (perm.mem_iff.mp hz)
        generalize upd HF du (.dK (kvG (fun _ : Unit => V.int 1) mm)) = HG at s5 hml ⊢
        have s6 : Same HD (upd HG ml (.lst (ms.map V.str))) := fun b o e => by rw [upd_ne (ne_of_none (s5 b o e) hml)]; exact s5 b o e
        refine ta_nil ⟨ml, _, rfl, .inl ⟨SqL.of upd_same, fun l hl => st_g ?_⟩⟩
        dsimp only
        have s7 : Same HD (upd (upd HG ml (.lst (ms.map V.str))) l (.tup (ms.map V.str))) := fun b o e => by rw [upd_ne (ne_of_none (s6 b o e) hl)]; exact s6 b o e
        have el : upd (upd HG ml (.lst (ms.map V.str))) l (.tup (ms.map V.str)) l = some (.tup (ms.map V.str)) := upd_same
        generalize upd (upd HG ml (.lst (ms.map V.str))) l (.tup (ms.map V.str)) = HH at s7 el ⊢
        clear pr e4 s4 hdu hdl hcp s3 s2 hq s5 s6 hml hl mnd in7 mlen srt perm mem2 s1
        refine st_seq <| st_asg <| te_callw <| ta_cons <| te_v rfl <| ta_cons <| te_v rfl <| ta_cons <| te_v rfl <| ta_cons <| te_v rfl <| ta_nil ⟨rfl, ?_⟩
        refine ⟨t1, t2, l, author, fs, gs, ms, rfl, tr1.same s7, tr2.same s7, two, shf, shg, wa, .inl (.inl el), giv2, af, ag, fun v ks' HI s8 asc' mem' rep' => st_g ?_⟩
        dsimp only
        obtain rfl := Asc.unique asc asc' fun p => (mem p).trans (mem' p).symm
        rw [hes, hrl] at rep'
        have s9 : Same HD HI := fun b o e => s8 b o (s7 b o e)
        have rep2 := rep.keep (Same.tk s9)
        have sub2 : ∀ n ∈ xs.filter (fun n => decide (n ≠ author)), n ∈ ms.filter fun n => decide (n ≠ author) := fun n hn => by
          rw [List.mem_filter] at hn ⊢
          exact ⟨(mem3 n).mpr (.inl hn.1), hn.2⟩
        have same2 : nm = author → ∀ n, n ∈ xs.filter (fun n => decide (n ≠ author)) ↔ n ∈ ms.filter fun n => decide (n ≠ author) := fun e n => ⟨sub2 n, fun hn => by
          rw [List.mem_filter] at hn ⊢
          refine ⟨((mem3 n).mp hn.1).resolve_right fun z => ?_, hn.2⟩
          rw [z, e] at hn
          simp at hn⟩
        have key : ((∃ x, byP (xs.filter fun n => decide (n ≠ author)) es rl [] = .tup [.str "yes", x]) ∨ nm = author) → byP (ms.filter fun n => decide (n ≠ author)) es rl [] = byP (xs.filter fun n => decide (n ≠ author)) es rl [] := fun h => by
          rcases h with ⟨x, h⟩ | h
          · exact byP_yes sub2 rl [] x h
          · exact byP_same (same2 h) rl []
        have sh1 := byP_shaped (xs.filter fun n => decide (n ≠ author)) es rl []
        have sh2 := byP_shaped (ms.filter fun n => decide (n ≠ author)) es rl []
        have hd := byP_head (xs.filter fun n => decide (n ≠ author)) es rl []
        generalize byP (xs.filter fun n => decide (n ≠ author)) es rl [] = d0 at rep rep2 key sh1 hd
        generalize byP (ms.filter fun n => decide (n ≠ author)) es rl [] = d1 at rep' key sh2
        have fin : ∃ k13 k15 k19 : Option V, [some (.ref a), some (.ref p), some (.ref b), some (.int m), some (.ref D), some (.ref D2), some (.ref R), some fv, some av, some (.ref t1), some (.ref t2), some .non, k12, some v, some (.str author), some (.str nm), some (.ref g), none, some dv, some (.ref l), none, none, none] = [some (.ref a), some (.ref p), some (.ref b), some (.int m), some (.ref D), some (.ref D2), some (.ref R), some fv, some av, some (.ref t1), some (.ref t2), some .non, k12, k13, some (.str author), k15, some (.ref g), none, some dv, k19, none, none, none] ∧ Same HD HI := ⟨_, _, _, rfl, s9⟩
        refine st_if <| tt_or <| tt_and ?_
        rcases hd with ⟨x, hd⟩ | ⟨x, hd⟩
        · have rep3 : Rep HI (.tup [.str "yes", x]) dv := by rw [← hd]; exact rep2
          obtain ⟨t, u, rfl, ht, _⟩ := rep_two rep3
          have e : d1 = d0 := key (.inl ⟨x, hd⟩)
          subst e
          refine tt_b <| te_op <| te_op <| te_v rfl <| te_c ⟨t, _, 0, _, rfl, rfl, .inl ht, rfl, te_c ⟨rfl, _, rfl, ?_⟩⟩
          rw [decide_eq_true (rfl : V.str "yes" = V.str "yes")]
          refine iteT <| tt_b <| te_op <| te_v rfl <| te_v rfl ⟨_, _, Rep.dp rep', Rep.dp rep2, sh2, sh1, _, rfl, ?_⟩
          rw [eqv_self sh1]
          refine iteF <| tt_and <| tt_b <| te_op <| te_v rfl <| te_v rfl ⟨rfl, _, rfl, ?_⟩
          by_cases c : nm = author
          · rw [decide_eq_true (show V.str nm = V.str author by rw [c])]
            refine iteT <| tt_b <| te_op <| te_v rfl <| te_v rfl ⟨_, _, Rep.dp rep', Rep.dp rep2, sh2, sh1, _, rfl, ?_⟩
            rw [eqv_self sh1]
            exact iteF (st_next fin)
          · rw [decide_eq_false (show V.str nm ≠ V.str author from fun z => c (V.str.inj z))]
            exact iteF (iteF (st_next fin))
        · have rep3 : Rep HI (.tup [.str "no", x]) dv := by rw [← hd]; exact rep2
          obtain ⟨t, u, rfl, ht, _⟩ := rep_two rep3
          refine tt_b <| te_op <| te_op <| te_v rfl <| te_c ⟨t, _, 0, _, rfl, rfl, .inl ht, rfl, te_c ⟨rfl, _, rfl, ?_⟩⟩
          rw [decide_eq_false (show V.str "no" ≠ V.str "yes" from fun z => absurd (V.str.inj z) (by decide +kernel))]
          refine iteF <| iteF <| tt_and <| tt_b <| te_op <| te_v rfl <| te_v rfl ⟨rfl, _, rfl, ?_⟩
          by_cases c : nm = author
          · rw [decide_eq_true (show V.str nm = V.str author by rw [c])]
            have e : d1 = d0 := key (.inr c)
            subst e
            refine iteT <| tt_b <| te_op <| te_v rfl <| te_v rfl ⟨_, _, Rep.dp rep', Rep.dp rep2, sh2, sh1, _, rfl, ?_⟩
            rw [eqv_self sh1]
            exact iteF (st_next fin)
          · rw [decide_eq_false (show V.str nm ≠ V.str author from fun z => c (V.str.inj z))]
            exact iteF (iteF (st_next fin))
      rintro σ H ⟨k13, k15, k19, rfl, s1⟩
      dsimp only
      replace hf := Rep.keep (d := filesD fs) (Same.tk s1) hf
      replace tr1 := tr1.same s1
      clear rep eg tr2 n0 s1
      refine st_seq ?_
      refine ⟨(by show 4 ≤ sizeLine; decide), fun N hN => ⟨N, rfl, ⟨_, SqL.of upd_same⟩, ?_⟩⟩
      have s0 : Same H (upd H N (.lst ((["app/main", "app", "set/all", "doc/note"] : List Str).map V.str))) := Same.new hN
      have n0 : upd H N (.lst ((["app/main", "app", "set/all", "doc/note"] : List Str).map V.str)) N = some (.lst ((["app/main", "app", "set/all", "doc/note"] : List Str).map V.str)) := upd_same
      show ∃ W : Nat → Nat → L2.St → Hp → Prop, _
      generalize upd H N (.lst ((["app/main", "app", "set/all", "doc/note"] : List Str).map V.str)) = HJ at s0 n0 ⊢
      replace hf := Rep.keep (d := filesD fs) (Same.tk s0) hf
      replace tr1 := tr1.same s0
      clear s0 hN
      refine for_list (K := K) (a := N) (xs := (["app/main", "app", "set/all", "doc/note"] : List Str).map V.str) (fun i σ H => ∃ k20 : Option V, σ = [some (.ref a), some (.ref p), some (.ref b), some (.int m), some (.ref D), some (.ref D2), some (.ref R), some fv, some av, some (.ref t1), some (.ref t2), some .non, k12, k13, some (.str author), k15, some (.ref g), none, some dv, k19, k20, none, none] ∧ Same HJ H)
        ⟨_, rfl, Same.refl _⟩ (fun i σ H _ ⟨_, _, z⟩ => SqL.of (z _ _ n0)) ?_ ?_
      · rintro i x σ H2 hx ⟨k20, rfl, s1⟩
        rw [List.getElem?_map] at hx
        obtain ⟨pt, hpt, rfl⟩ := Option.map_eq_some_iff.mp hx
        have pok := four_path pt (List.mem_of_getElem? hpt)
        refine st_g ?_
        dsimp only
        refine st_if <| tt_not <| tt_b <| te_call <| ta_cons <| te_call <| ta_cons <| te_v rfl <| ta_cons <| te_v rfl <| ta_nil ?_
        refine ⟨t1, pt, fs, rfl, tr1.same s1, shf, pok.1, pok.2, af, fun v H3 s3 rv => ta_cons <| te_cb <| ta_cons <| te_call <| ta_cons <| te_v rfl <| ta_cons <| te_lst <| ta_cons <| te_v rfl <| ta_nil ⟨(by show 1 ≤ sizeLine; decide), fun q hq => ta_nil ?_⟩⟩
        have s4 : Same H3 (upd H3 q (.lst [.str pt])) := Same.new hq
        have sJ : Same HJ (upd H3 q (.lst [.str pt])) := fun b o e => s4 b o (s3 b o (s1 b o e))
        refine ⟨fv, q, fs, [pt], rfl, Rep.keep (d := filesD fs) (Same.tk sJ) hf, upd_same, shf, af, fun z hz => by rw [List.mem_singleton.mp hz]; exact pok.2, (by show 1 ≤ 1000; decide), fun L ws H5 s5 hL eL rL => ?_⟩
        rw [flt_one] at rL
        have wl := rL.len
        have rlen := readOf_len shf
        have fl := List.length_filter_le (fun r : Appr => touchB r.2.1 pt) (readOf fs)
        rw [List.length_map] at wl
        have dl := deps_lines ((readOf fs).filter fun r => touchB r.2.1 pt)
        replace rv := Rep.keep (Same.tk s5) (Rep.keep (Same.tk s4) rv)
        generalize (readOf fs).filter (fun r => touchB r.2.1 pt) = li at rv rL wl fl dl
        refine ta_nil ⟨L, ws, rfl, .inl ⟨SqL.of eL, fun l hl => ta_nil ?_⟩⟩
        have s6 : Same H5 (upd H5 l (.tup ws)) := Same.new hl
        have r6 : Rep (upd H5 l (.tup ws)) (.tup (li.map lineD)) (.ref l) := ⟨l, ws, rfl, .inl upd_same, by rw [sizeLine_eq]; omega, rL.keep (Same.tk s6)⟩
        refine ⟨_, _, v, .ref l, rfl, rv.keep (Same.tk s6), r6, by show Kd.D.deps _ + 1 < 5; omega, _, rfl, ?_⟩
        rw [Kd.D.eqb_refl]
        exact iteF (st_next ⟨_, rfl, fun b o e => s6 b o (s5 b o (sJ b o e))⟩)
      rintro σ H2 ⟨k20, rfl, s1⟩
      dsimp only
      refine st_ret (te_c ?_)
      exact kend _
end
end Kl

namespace Kl
open PySem L2 Kd Kx
theorem cls_some {K : PySem.W.Frag} {C : Addr} (h : PySem.W.hasDictIn K C = true) : (PySem.W.clsIn K C).isSome = true := by
  obtain ⟨cd, hc, _⟩ := PySem.W.any_some h
  rw [hc]
  rfl
theorem all_mk {l : PySem.W.OpenLaw} {w : World} {K : PySem.W.Frag} {h : Heap} {mg : Str → Option Value} {fa fSq fRw fSh fWd fPt fSg fCt fAs fFi fCk fDi fTl fAo fRa fBt fTo fAl fAp fBy fTu fGi fSo fNu fDr fTk fLo fLw fLp fLn fLq fLx fOw fEn fDe fLr fLc fTx fEx fRr fSr fCo fPr fOr fGr fTr fLe fLd fLb fLt fOl fLa fM C fI fP fE pF TI eI CB fgF : Addr} (X : K.In h) (G : h.Ns mainGlobals mg) (hfa : mg "law" = some (.ref fa))
    {odSq anSq odRw anRw odSh anSh odWd anWd odPt anPt odSg anSg odCt anCt odAs anAs odFi anFi odCk anCk odDi anDi odTl anTl odAo anAo odRa anRa odBt anBt odTo anTo odAl anAl odAp anAp odBy anBy odTu anTu odGi anGi odSo anSo odNu anNu odDr anDr odTk anTk odLo anLo odLw anLw odLp anLp odLn anLn odLq anLq odLx anLx odOw anOw odEn anEn odDe anDe odLr anLr odLc anLc odTx anTx odEx anEx odRr anRr odSr anSr odCo anCo odPr anPr odOr anOr odGr anGr odTr anTr odLe anLe odLd anLd odLb anLb odLt anLt odOl anOl odLa anLa odM anM odI anI odT odE anE odP anP odgF angF : Option Addr} {slSq slRw slSh slWd slPt slSg slCt slAs slFi slCk slDi slTl slAo slRa slBt slTo slAl slAp slBy slTu slGi slSo slNu slDr slTk slLo slLw slLp slLn slLq slLx slOw slEn slDe slLr slLc slTx slEx slRr slSr slCo slPr slOr slGr slTr slLe slLd slLb slLt slOl slLa slM slI slT slE slP slgF : Array (Option Value)} {ocSq kVSq dcSq pmSq cdSq ctSq ocRw kVRw dcRw pmRw cdRw ctRw ocSh kVSh dcSh pmSh cdSh ctSh ocWd kVWd dcWd pmWd cdWd ctWd ocPt kVPt dcPt pmPt cdPt ctPt ocSg kVSg dcSg pmSg cdSg ctSg ocCt kVCt dcCt pmCt cdCt ctCt ocAs kVAs dcAs pmAs cdAs ctAs ocFi kVFi dcFi pmFi cdFi ctFi ocCk kVCk dcCk pmCk cdCk ctCk ocDi kVDi dcDi pmDi cdDi ctDi ocTl kVTl dcTl pmTl cdTl ctTl ocAo kVAo dcAo pmAo cdAo ctAo ocRa kVRa dcRa pmRa cdRa ctRa ocBt kVBt dcBt pmBt cdBt ctBt ocTo kVTo dcTo pmTo cdTo ctTo ocAl kVAl dcAl pmAl cdAl ctAl ocAp kVAp dcAp pmAp cdAp ctAp ocBy kVBy dcBy pmBy cdBy ctBy ocTu kVTu dcTu pmTu cdTu ctTu ocGi kVGi dcGi pmGi cdGi ctGi ocSo kVSo dcSo pmSo cdSo ctSo ocNu kVNu dcNu pmNu cdNu ctNu ocDr kVDr dcDr pmDr cdDr ctDr ocTk kVTk dcTk pmTk cdTk ctTk ocLo kVLo dcLo pmLo cdLo ctLo ocLw kVLw dcLw pmLw cdLw ctLw ocLp kVLp dcLp pmLp cdLp ctLp ocLn kVLn dcLn pmLn cdLn ctLn ocLq kVLq dcLq pmLq cdLq ctLq ocLx kVLx dcLx pmLx cdLx ctLx ocOw kVOw dcOw pmOw cdOw ctOw ocEn kVEn dcEn pmEn cdEn ctEn ocDe kVDe dcDe pmDe cdDe ctDe ocLr kVLr dcLr pmLr cdLr ctLr ocLc kVLc dcLc pmLc cdLc ctLc ocTx kVTx dcTx pmTx cdTx ctTx ocEx kVEx dcEx pmEx cdEx ctEx ocRr kVRr dcRr pmRr cdRr ctRr ocSr kVSr dcSr pmSr cdSr ctSr ocCo kVCo dcCo pmCo cdCo ctCo ocPr kVPr dcPr pmPr cdPr ctPr ocOr kVOr dcOr pmOr cdOr ctOr ocGr kVGr dcGr pmGr cdGr ctGr ocTr kVTr dcTr pmTr cdTr ctTr ocLe kVLe dcLe pmLe cdLe ctLe ocLd kVLd dcLd pmLd cdLd ctLd ocLb kVLb dcLb pmLb cdLb ctLb ocLt kVLt dcLt pmLt cdLt ctLt ocOl kVOl dcOl pmOl cdOl ctOl ocLa kVLa dcLa pmLa cdLa ctLa ocM kVM dcM pmM cdM ctM ocI kVI dcI pmI cdI ctI ocT ocE kVE dcE pmE cdE ctE ocP kVP dcP pmP cdP ctP ocgF kVgF dcgF pmgF cdgF ctgF : Value} {tk_MOST_WORD_SIGNS tk_MOST_PATH_WORDS tk_MOST_CONTENT_SIGNS tk_PERCENT_NUMBER tk_MOST_FILES tk_MOST_APPROVALS tk_MOST_OWNERS tk_MOST_GIVEN : Tok} {nT : Nat} {rest : List Value}
    (aSq : PySem.W.nsIn K mainGlobals "is_sequence" = some (some (.ref fSq)))
    (aRw : PySem.W.nsIn K mainGlobals "is_row" = some (some (.ref fRw)))
    (aSh : PySem.W.nsIn K mainGlobals "is_shown" = some (some (.ref fSh)))
    (aWd : PySem.W.nsIn K mainGlobals "is_word" = some (some (.ref fWd)))
    (aPt : PySem.W.nsIn K mainGlobals "is_path" = some (some (.ref fPt)))
    (aSg : PySem.W.nsIn K mainGlobals "is_signs" = some (some (.ref fSg)))
    (aCt : PySem.W.nsIn K mainGlobals "is_content" = some (some (.ref fCt)))
    (aAs : PySem.W.nsIn K mainGlobals "is_ascending" = some (some (.ref fAs)))
    (aFi : PySem.W.nsIn K mainGlobals "is_files" = some (some (.ref fFi)))
    (aCk : PySem.W.nsIn K mainGlobals "check_tree" = some (some (.ref fCk)))
    (aDi : PySem.W.nsIn K mainGlobals "digit_of" = some (some (.ref fDi)))
    (aTl : PySem.W.nsIn K mainGlobals "told_lines" = some (some (.ref fTl)))
    (aAo : PySem.W.nsIn K mainGlobals "approval_of" = some (some (.ref fAo)))
    (aRa : PySem.W.nsIn K mainGlobals "read_approvals" = some (some (.ref fRa)))
    (aBt : PySem.W.nsIn K mainGlobals "between" = some (some (.ref fBt)))
    (aTo : PySem.W.nsIn K mainGlobals "touched" = some (some (.ref fTo)))
    (aAl : PySem.W.nsIn K mainGlobals "approvals" = some (some (.ref fAl)))
    (aAp : PySem.W.nsIn K mainGlobals "approved" = some (some (.ref fAp)))
    (aBy : PySem.W.nsIn K mainGlobals "approved_by" = some (some (.ref fBy)))
    (aTu : PySem.W.nsIn K mainGlobals "touches" = some (some (.ref fTu)))
    (aGi : PySem.W.nsIn K mainGlobals "is_given" = some (some (.ref fGi)))
    (aSo : PySem.W.nsIn K mainGlobals "_law_so" = some (some (.ref fSo)))
    (aNu : PySem.W.nsIn K mainGlobals "_law_numbers" = some (some (.ref fNu)))
    (aDr : PySem.W.nsIn K mainGlobals "_law_draw" = some (some (.ref fDr)))
    (aTk : PySem.W.nsIn K mainGlobals "_law_take" = some (some (.ref fTk)))
    (aLo : PySem.W.nsIn K mainGlobals "_law_loose" = some (some (.ref fLo)))
    (aLw : PySem.W.nsIn K mainGlobals "_law_is_word" = some (some (.ref fLw)))
    (aLp : PySem.W.nsIn K mainGlobals "_law_is_path" = some (some (.ref fLp)))
    (aLn : PySem.W.nsIn K mainGlobals "_law_lines" = some (some (.ref fLn)))
    (aLq : PySem.W.nsIn K mainGlobals "_law_parts" = some (some (.ref fLq)))
    (aLx : PySem.W.nsIn K mainGlobals "_law_wrong_words" = some (some (.ref fLx)))
    (aOw : PySem.W.nsIn K mainGlobals "_law_own_wrong" = some (some (.ref fOw)))
    (aEn : PySem.W.nsIn K mainGlobals "_law_end_of" = some (some (.ref fEn)))
    (aDe : PySem.W.nsIn K mainGlobals "_law_deps" = some (some (.ref fDe)))
    (aLr : PySem.W.nsIn K mainGlobals "_law_rules" = some (some (.ref fLr)))
    (aLc : PySem.W.nsIn K mainGlobals "_law_check" = some (some (.ref fLc)))
    (aTx : PySem.W.nsIn K mainGlobals "_law_text" = some (some (.ref fTx)))
    (aEx : PySem.W.nsIn K mainGlobals "_law_expression" = some (some (.ref fEx)))
    (aRr : PySem.W.nsIn K mainGlobals "_law_rule_rows" = some (some (.ref fRr)))
    (aSr : PySem.W.nsIn K mainGlobals "_law_setting_rows" = some (some (.ref fSr)))
    (aCo : PySem.W.nsIn K mainGlobals "_law_content" = some (some (.ref fCo)))
    (aPr : PySem.W.nsIn K mainGlobals "_law_place_rows" = some (some (.ref fPr)))
    (aOr : PySem.W.nsIn K mainGlobals "_law_own_rows" = some (some (.ref fOr)))
    (aGr : PySem.W.nsIn K mainGlobals "_law_goal_rows" = some (some (.ref fGr)))
    (aTr : PySem.W.nsIn K mainGlobals "_law_tree" = some (some (.ref fTr)))
    (aLe : PySem.W.nsIn K mainGlobals "_law_edit" = some (some (.ref fLe)))
    (aLd : PySem.W.nsIn K mainGlobals "_law_edited" = some (some (.ref fLd)))
    (aLb : PySem.W.nsIn K mainGlobals "_law_between" = some (some (.ref fLb)))
    (aLt : PySem.W.nsIn K mainGlobals "_law_touches" = some (some (.ref fLt)))
    (aOl : PySem.W.nsIn K mainGlobals "_law_own_lines" = some (some (.ref fOl)))
    (aLa : PySem.W.nsIn K mainGlobals "_law_approved" = some (some (.ref fLa)))
    (aM : PySem.W.nsIn K mainGlobals "law" = some (some (.ref fM)))
    (m0_MOST_WORD_SIGNS : PySem.W.nsIn K mainGlobals "MOST_WORD_SIGNS" = some (some (.int 12 tk_MOST_WORD_SIGNS)))
    (m0_MOST_PATH_WORDS : PySem.W.nsIn K mainGlobals "MOST_PATH_WORDS" = some (some (.int 4 tk_MOST_PATH_WORDS)))
    (m0_MOST_CONTENT_SIGNS : PySem.W.nsIn K mainGlobals "MOST_CONTENT_SIGNS" = some (some (.int 1000 tk_MOST_CONTENT_SIGNS)))
    (m0_PERCENT_NUMBER : PySem.W.nsIn K mainGlobals "PERCENT_NUMBER" = some (some (.int 37 tk_PERCENT_NUMBER)))
    (m0_MOST_FILES : PySem.W.nsIn K mainGlobals "MOST_FILES" = some (some (.int 60 tk_MOST_FILES)))
    (m0_MOST_APPROVALS : PySem.W.nsIn K mainGlobals "MOST_APPROVALS" = some (some (.int 3 tk_MOST_APPROVALS)))
    (m0_MOST_OWNERS : PySem.W.nsIn K mainGlobals "MOST_OWNERS" = some (some (.int 6 tk_MOST_OWNERS)))
    (m0_MOST_GIVEN : PySem.W.nsIn K mainGlobals "MOST_GIVEN" = some (some (.int 8 tk_MOST_GIVEN)))
    (aC : PySem.W.nsIn K mainGlobals "Tree" = some (some (.ref C)))
    (z_len : PySem.W.nsIn K mainGlobals "len" = some none)
    (z_int : PySem.W.nsIn K mainGlobals "int" = some none)
    (z_range : PySem.W.nsIn K mainGlobals "range" = some none)
    (z_isinstance : PySem.W.nsIn K mainGlobals "isinstance" = some none)
    (z_tuple : PySem.W.nsIn K mainGlobals "tuple" = some none)
    (z_list : PySem.W.nsIn K mainGlobals "list" = some none)
    (z_bool : PySem.W.nsIn K mainGlobals "bool" = some none)
    (z_str : PySem.W.nsIn K mainGlobals "str" = some none)
    (z_dict : PySem.W.nsIn K mainGlobals "dict" = some none)
    (z_sorted : PySem.W.nsIn K mainGlobals "sorted" = some none)
    (z_all : PySem.W.nsIn K mainGlobals "all" = some none)
    (z_ord : PySem.W.nsIn K mainGlobals "ord" = some none)
    (z_zip : PySem.W.nsIn K mainGlobals "zip" = some none)
    (z_max : PySem.W.nsIn K mainGlobals "max" = some none)
    (z_min : PySem.W.nsIn K mainGlobals "min" = some none)
    (z_enumerate : PySem.W.nsIn K mainGlobals "enumerate" = some none)
    (z_any : PySem.W.nsIn K mainGlobals "any" = some none)
    (z_set : PySem.W.nsIn K mainGlobals "set" = some none)
    (agF : PySem.W.nsIn K mainGlobals "BadFile" = some (some (.ref CB)))
    (lSq : K.lookup fSq = some ⟨ocSq, odSq, .func (PySem.W.fnOf "is_sequence" "is_sequence" (defArgs s_is_sequence) (defBody s_is_sequence) (defScope s_is_sequence) .none kVSq dcSq pmSq anSq cdSq ctSq), slSq⟩)
    (cSq : PySem.W.codeIn K cdSq "is_sequence" = true)
    (kSq : PySem.W.keepIn K (.ref fSq) = true)
    (lRw : K.lookup fRw = some ⟨ocRw, odRw, .func (PySem.W.fnOf "is_row" "is_row" (defArgs s_is_row) (defBody s_is_row) (defScope s_is_row) .none kVRw dcRw pmRw anRw cdRw ctRw), slRw⟩)
    (cRw : PySem.W.codeIn K cdRw "is_row" = true)
    (kRw : PySem.W.keepIn K (.ref fRw) = true)
    (lSh : K.lookup fSh = some ⟨ocSh, odSh, .func (PySem.W.fnOf "is_shown" "is_shown" (defArgs s_is_shown) (defBody s_is_shown) (defScope s_is_shown) .none kVSh dcSh pmSh anSh cdSh ctSh), slSh⟩)
    (cSh : PySem.W.codeIn K cdSh "is_shown" = true)
    (kSh : PySem.W.keepIn K (.ref fSh) = true)
    (lWd : K.lookup fWd = some ⟨ocWd, odWd, .func (PySem.W.fnOf "is_word" "is_word" (defArgs s_is_word) (defBody s_is_word) (defScope s_is_word) .none kVWd dcWd pmWd anWd cdWd ctWd), slWd⟩)
    (cWd : PySem.W.codeIn K cdWd "is_word" = true)
    (kWd : PySem.W.keepIn K (.ref fWd) = true)
    (lPt : K.lookup fPt = some ⟨ocPt, odPt, .func (PySem.W.fnOf "is_path" "is_path" (defArgs s_is_path) (defBody s_is_path) (defScope s_is_path) .none kVPt dcPt pmPt anPt cdPt ctPt), slPt⟩)
    (cPt : PySem.W.codeIn K cdPt "is_path" = true)
    (kPt : PySem.W.keepIn K (.ref fPt) = true)
    (lSg : K.lookup fSg = some ⟨ocSg, odSg, .func (PySem.W.fnOf "is_signs" "is_signs" (defArgs s_is_signs) (defBody s_is_signs) (defScope s_is_signs) .none kVSg dcSg pmSg anSg cdSg ctSg), slSg⟩)
    (cSg : PySem.W.codeIn K cdSg "is_signs" = true)
    (kSg : PySem.W.keepIn K (.ref fSg) = true)
    (lCt : K.lookup fCt = some ⟨ocCt, odCt, .func (PySem.W.fnOf "is_content" "is_content" (defArgs s_is_content) (defBody s_is_content) (defScope s_is_content) .none kVCt dcCt pmCt anCt cdCt ctCt), slCt⟩)
    (cCt : PySem.W.codeIn K cdCt "is_content" = true)
    (kCt : PySem.W.keepIn K (.ref fCt) = true)
    (lAs : K.lookup fAs = some ⟨ocAs, odAs, .func (PySem.W.fnOf "is_ascending" "is_ascending" (defArgs s_is_ascending) (defBody s_is_ascending) (defScope s_is_ascending) .none kVAs dcAs pmAs anAs cdAs ctAs), slAs⟩)
    (cAs : PySem.W.codeIn K cdAs "is_ascending" = true)
    (kAs : PySem.W.keepIn K (.ref fAs) = true)
    (lFi : K.lookup fFi = some ⟨ocFi, odFi, .func (PySem.W.fnOf "is_files" "is_files" (defArgs s_is_files) (defBody s_is_files) (defScope s_is_files) .none kVFi dcFi pmFi anFi cdFi ctFi), slFi⟩)
    (cFi : PySem.W.codeIn K cdFi "is_files" = true)
    (kFi : PySem.W.keepIn K (.ref fFi) = true)
    (lCk : K.lookup fCk = some ⟨ocCk, odCk, .func (PySem.W.fnOf "check_tree" "check_tree" (defArgs s_check_tree) (defBody s_check_tree) (defScope s_check_tree) .none kVCk dcCk pmCk anCk cdCk ctCk), slCk⟩)
    (cCk : PySem.W.codeIn K cdCk "check_tree" = true)
    (kCk : PySem.W.keepIn K (.ref fCk) = true)
    (lDi : K.lookup fDi = some ⟨ocDi, odDi, .func (PySem.W.fnOf "digit_of" "digit_of" (defArgs s_digit_of) (defBody s_digit_of) (defScope s_digit_of) .none kVDi dcDi pmDi anDi cdDi ctDi), slDi⟩)
    (cDi : PySem.W.codeIn K cdDi "digit_of" = true)
    (kDi : PySem.W.keepIn K (.ref fDi) = true)
    (lTl : K.lookup fTl = some ⟨ocTl, odTl, .func (PySem.W.fnOf "told_lines" "told_lines" (defArgs s_told_lines) (defBody s_told_lines) (defScope s_told_lines) .none kVTl dcTl pmTl anTl cdTl ctTl), slTl⟩)
    (cTl : PySem.W.codeIn K cdTl "told_lines" = true)
    (kTl : PySem.W.keepIn K (.ref fTl) = true)
    (lAo : K.lookup fAo = some ⟨ocAo, odAo, .func (PySem.W.fnOf "approval_of" "approval_of" (defArgs s_approval_of) (defBody s_approval_of) (defScope s_approval_of) .none kVAo dcAo pmAo anAo cdAo ctAo), slAo⟩)
    (cAo : PySem.W.codeIn K cdAo "approval_of" = true)
    (kAo : PySem.W.keepIn K (.ref fAo) = true)
    (lRa : K.lookup fRa = some ⟨ocRa, odRa, .func (PySem.W.fnOf "read_approvals" "read_approvals" (defArgs s_read_approvals) (defBody s_read_approvals) (defScope s_read_approvals) .none kVRa dcRa pmRa anRa cdRa ctRa), slRa⟩)
    (cRa : PySem.W.codeIn K cdRa "read_approvals" = true)
    (kRa : PySem.W.keepIn K (.ref fRa) = true)
    (lBt : K.lookup fBt = some ⟨ocBt, odBt, .func (PySem.W.fnOf "between" "between" (defArgs s_between) (defBody s_between) (defScope s_between) .none kVBt dcBt pmBt anBt cdBt ctBt), slBt⟩)
    (cBt : PySem.W.codeIn K cdBt "between" = true)
    (kBt : PySem.W.keepIn K (.ref fBt) = true)
    (lTo : K.lookup fTo = some ⟨ocTo, odTo, .func (PySem.W.fnOf "touched" "touched" (defArgs s_touched) (defBody s_touched) (defScope s_touched) .none kVTo dcTo pmTo anTo cdTo ctTo), slTo⟩)
    (cTo : PySem.W.codeIn K cdTo "touched" = true)
    (kTo : PySem.W.keepIn K (.ref fTo) = true)
    (lAl : K.lookup fAl = some ⟨ocAl, odAl, .func (PySem.W.fnOf "approvals" "approvals" (defArgs s_approvals) (defBody s_approvals) (defScope s_approvals) .none kVAl dcAl pmAl anAl cdAl ctAl), slAl⟩)
    (cAl : PySem.W.codeIn K cdAl "approvals" = true)
    (kAl : PySem.W.keepIn K (.ref fAl) = true)
    (lAp : K.lookup fAp = some ⟨ocAp, odAp, .func (PySem.W.fnOf "approved" "approved" (defArgs s_approved) (defBody s_approved) (defScope s_approved) .none kVAp dcAp pmAp anAp cdAp ctAp), slAp⟩)
    (cAp : PySem.W.codeIn K cdAp "approved" = true)
    (kAp : PySem.W.keepIn K (.ref fAp) = true)
    (lBy : K.lookup fBy = some ⟨ocBy, odBy, .func (PySem.W.fnOf "approved_by" "approved_by" (defArgs s_approved_by) (defBody s_approved_by) (defScope s_approved_by) .none kVBy dcBy pmBy anBy cdBy ctBy), slBy⟩)
    (cBy : PySem.W.codeIn K cdBy "approved_by" = true)
    (kBy : PySem.W.keepIn K (.ref fBy) = true)
    (lTu : K.lookup fTu = some ⟨ocTu, odTu, .func (PySem.W.fnOf "touches" "touches" (defArgs s_touches) (defBody s_touches) (defScope s_touches) .none kVTu dcTu pmTu anTu cdTu ctTu), slTu⟩)
    (cTu : PySem.W.codeIn K cdTu "touches" = true)
    (kTu : PySem.W.keepIn K (.ref fTu) = true)
    (lGi : K.lookup fGi = some ⟨ocGi, odGi, .func (PySem.W.fnOf "is_given" "is_given" (defArgs s_is_given) (defBody s_is_given) (defScope s_is_given) .none kVGi dcGi pmGi anGi cdGi ctGi), slGi⟩)
    (cGi : PySem.W.codeIn K cdGi "is_given" = true)
    (kGi : PySem.W.keepIn K (.ref fGi) = true)
    (lSo : K.lookup fSo = some ⟨ocSo, odSo, .func (PySem.W.fnOf "_law_so" "_law_so" (defArgs sSo) (defBody sSo) (defScope sSo) .none kVSo dcSo pmSo anSo cdSo ctSo), slSo⟩)
    (cSo : PySem.W.codeIn K cdSo "_law_so" = true)
    (kSo : PySem.W.keepIn K (.ref fSo) = true)
    (lNu : K.lookup fNu = some ⟨ocNu, odNu, .func (PySem.W.fnOf "_law_numbers" "_law_numbers" (defArgs sNum) (defBody sNum) (defScope sNum) .none kVNu dcNu pmNu anNu cdNu ctNu), slNu⟩)
    (cNu : PySem.W.codeIn K cdNu "_law_numbers" = true)
    (kNu : PySem.W.keepIn K (.ref fNu) = true)
    (lDr : K.lookup fDr = some ⟨ocDr, odDr, .func (PySem.W.fnOf "_law_draw" "_law_draw" (defArgs sDraw) (defBody sDraw) (defScope sDraw) .none kVDr dcDr pmDr anDr cdDr ctDr), slDr⟩)
    (cDr : PySem.W.codeIn K cdDr "_law_draw" = true)
    (kDr : PySem.W.keepIn K (.ref fDr) = true)
    (lTk : K.lookup fTk = some ⟨ocTk, odTk, .func (PySem.W.fnOf "_law_take" "_law_take" (defArgs sTake) (defBody sTake) (defScope sTake) .none kVTk dcTk pmTk anTk cdTk ctTk), slTk⟩)
    (cTk : PySem.W.codeIn K cdTk "_law_take" = true)
    (kTk : PySem.W.keepIn K (.ref fTk) = true)
    (lLo : K.lookup fLo = some ⟨ocLo, odLo, .func (PySem.W.fnOf "_law_loose" "_law_loose" (defArgs s_l_loose) (defBody s_l_loose) (defScope s_l_loose) .none kVLo dcLo pmLo anLo cdLo ctLo), slLo⟩)
    (cLo : PySem.W.codeIn K cdLo "_law_loose" = true)
    (kLo : PySem.W.keepIn K (.ref fLo) = true)
    (lLw : K.lookup fLw = some ⟨ocLw, odLw, .func (PySem.W.fnOf "_law_is_word" "_law_is_word" (defArgs s_l_is_word) (defBody s_l_is_word) (defScope s_l_is_word) .none kVLw dcLw pmLw anLw cdLw ctLw), slLw⟩)
    (cLw : PySem.W.codeIn K cdLw "_law_is_word" = true)
    (kLw : PySem.W.keepIn K (.ref fLw) = true)
    (lLp : K.lookup fLp = some ⟨ocLp, odLp, .func (PySem.W.fnOf "_law_is_path" "_law_is_path" (defArgs s_l_is_path) (defBody s_l_is_path) (defScope s_l_is_path) .none kVLp dcLp pmLp anLp cdLp ctLp), slLp⟩)
    (cLp : PySem.W.codeIn K cdLp "_law_is_path" = true)
    (kLp : PySem.W.keepIn K (.ref fLp) = true)
    (lLn : K.lookup fLn = some ⟨ocLn, odLn, .func (PySem.W.fnOf "_law_lines" "_law_lines" (defArgs s_l_lines) (defBody s_l_lines) (defScope s_l_lines) .none kVLn dcLn pmLn anLn cdLn ctLn), slLn⟩)
    (cLn : PySem.W.codeIn K cdLn "_law_lines" = true)
    (kLn : PySem.W.keepIn K (.ref fLn) = true)
    (lLq : K.lookup fLq = some ⟨ocLq, odLq, .func (PySem.W.fnOf "_law_parts" "_law_parts" (defArgs s_l_parts) (defBody s_l_parts) (defScope s_l_parts) .none kVLq dcLq pmLq anLq cdLq ctLq), slLq⟩)
    (cLq : PySem.W.codeIn K cdLq "_law_parts" = true)
    (kLq : PySem.W.keepIn K (.ref fLq) = true)
    (lLx : K.lookup fLx = some ⟨ocLx, odLx, .func (PySem.W.fnOf "_law_wrong_words" "_law_wrong_words" (defArgs s_l_wrong_words) (defBody s_l_wrong_words) (defScope s_l_wrong_words) .none kVLx dcLx pmLx anLx cdLx ctLx), slLx⟩)
    (cLx : PySem.W.codeIn K cdLx "_law_wrong_words" = true)
    (kLx : PySem.W.keepIn K (.ref fLx) = true)
    (lOw : K.lookup fOw = some ⟨ocOw, odOw, .func (PySem.W.fnOf "_law_own_wrong" "_law_own_wrong" (defArgs s_l_own_wrong) (defBody s_l_own_wrong) (defScope s_l_own_wrong) .none kVOw dcOw pmOw anOw cdOw ctOw), slOw⟩)
    (cOw : PySem.W.codeIn K cdOw "_law_own_wrong" = true)
    (kOw : PySem.W.keepIn K (.ref fOw) = true)
    (lEn : K.lookup fEn = some ⟨ocEn, odEn, .func (PySem.W.fnOf "_law_end_of" "_law_end_of" (defArgs s_l_end_of) (defBody s_l_end_of) (defScope s_l_end_of) .none kVEn dcEn pmEn anEn cdEn ctEn), slEn⟩)
    (cEn : PySem.W.codeIn K cdEn "_law_end_of" = true)
    (kEn : PySem.W.keepIn K (.ref fEn) = true)
    (lDe : K.lookup fDe = some ⟨ocDe, odDe, .func (PySem.W.fnOf "_law_deps" "_law_deps" (defArgs s_l_deps) (defBody s_l_deps) (defScope s_l_deps) .none kVDe dcDe pmDe anDe cdDe ctDe), slDe⟩)
    (cDe : PySem.W.codeIn K cdDe "_law_deps" = true)
    (kDe : PySem.W.keepIn K (.ref fDe) = true)
    (lLr : K.lookup fLr = some ⟨ocLr, odLr, .func (PySem.W.fnOf "_law_rules" "_law_rules" (defArgs s_l_rules) (defBody s_l_rules) (defScope s_l_rules) .none kVLr dcLr pmLr anLr cdLr ctLr), slLr⟩)
    (cLr : PySem.W.codeIn K cdLr "_law_rules" = true)
    (kLr : PySem.W.keepIn K (.ref fLr) = true)
    (lLc : K.lookup fLc = some ⟨ocLc, odLc, .func (PySem.W.fnOf "_law_check" "_law_check" (defArgs s_l_check) (defBody s_l_check) (defScope s_l_check) .none kVLc dcLc pmLc anLc cdLc ctLc), slLc⟩)
    (cLc : PySem.W.codeIn K cdLc "_law_check" = true)
    (kLc : PySem.W.keepIn K (.ref fLc) = true)
    (lTx : K.lookup fTx = some ⟨ocTx, odTx, .func (PySem.W.fnOf "_law_text" "_law_text" (defArgs s_l_text) (defBody s_l_text) (defScope s_l_text) .none kVTx dcTx pmTx anTx cdTx ctTx), slTx⟩)
    (cTx : PySem.W.codeIn K cdTx "_law_text" = true)
    (kTx : PySem.W.keepIn K (.ref fTx) = true)
    (lEx : K.lookup fEx = some ⟨ocEx, odEx, .func (PySem.W.fnOf "_law_expression" "_law_expression" (defArgs s_l_expression) (defBody s_l_expression) (defScope s_l_expression) .none kVEx dcEx pmEx anEx cdEx ctEx), slEx⟩)
    (cEx : PySem.W.codeIn K cdEx "_law_expression" = true)
    (kEx : PySem.W.keepIn K (.ref fEx) = true)
    (lRr : K.lookup fRr = some ⟨ocRr, odRr, .func (PySem.W.fnOf "_law_rule_rows" "_law_rule_rows" (defArgs s_l_rule_rows) (defBody s_l_rule_rows) (defScope s_l_rule_rows) .none kVRr dcRr pmRr anRr cdRr ctRr), slRr⟩)
    (cRr : PySem.W.codeIn K cdRr "_law_rule_rows" = true)
    (kRr : PySem.W.keepIn K (.ref fRr) = true)
    (lSr : K.lookup fSr = some ⟨ocSr, odSr, .func (PySem.W.fnOf "_law_setting_rows" "_law_setting_rows" (defArgs s_l_setting_rows) (defBody s_l_setting_rows) (defScope s_l_setting_rows) .none kVSr dcSr pmSr anSr cdSr ctSr), slSr⟩)
    (cSr : PySem.W.codeIn K cdSr "_law_setting_rows" = true)
    (kSr : PySem.W.keepIn K (.ref fSr) = true)
    (lCo : K.lookup fCo = some ⟨ocCo, odCo, .func (PySem.W.fnOf "_law_content" "_law_content" (defArgs s_l_content) (defBody s_l_content) (defScope s_l_content) .none kVCo dcCo pmCo anCo cdCo ctCo), slCo⟩)
    (cCo : PySem.W.codeIn K cdCo "_law_content" = true)
    (kCo : PySem.W.keepIn K (.ref fCo) = true)
    (lPr : K.lookup fPr = some ⟨ocPr, odPr, .func (PySem.W.fnOf "_law_place_rows" "_law_place_rows" (defArgs s_l_place_rows) (defBody s_l_place_rows) (defScope s_l_place_rows) .none kVPr dcPr pmPr anPr cdPr ctPr), slPr⟩)
    (cPr : PySem.W.codeIn K cdPr "_law_place_rows" = true)
    (kPr : PySem.W.keepIn K (.ref fPr) = true)
    (lOr : K.lookup fOr = some ⟨ocOr, odOr, .func (PySem.W.fnOf "_law_own_rows" "_law_own_rows" (defArgs s_l_own_rows) (defBody s_l_own_rows) (defScope s_l_own_rows) .none kVOr dcOr pmOr anOr cdOr ctOr), slOr⟩)
    (cOr : PySem.W.codeIn K cdOr "_law_own_rows" = true)
    (kOr : PySem.W.keepIn K (.ref fOr) = true)
    (lGr : K.lookup fGr = some ⟨ocGr, odGr, .func (PySem.W.fnOf "_law_goal_rows" "_law_goal_rows" (defArgs s_l_goal_rows) (defBody s_l_goal_rows) (defScope s_l_goal_rows) .none kVGr dcGr pmGr anGr cdGr ctGr), slGr⟩)
    (cGr : PySem.W.codeIn K cdGr "_law_goal_rows" = true)
    (kGr : PySem.W.keepIn K (.ref fGr) = true)
    (lTr : K.lookup fTr = some ⟨ocTr, odTr, .func (PySem.W.fnOf "_law_tree" "_law_tree" (defArgs s_l_tree) (defBody s_l_tree) (defScope s_l_tree) .none kVTr dcTr pmTr anTr cdTr ctTr), slTr⟩)
    (cTr : PySem.W.codeIn K cdTr "_law_tree" = true)
    (kTr : PySem.W.keepIn K (.ref fTr) = true)
    (lLe : K.lookup fLe = some ⟨ocLe, odLe, .func (PySem.W.fnOf "_law_edit" "_law_edit" (defArgs s_l_edit) (defBody s_l_edit) (defScope s_l_edit) .none kVLe dcLe pmLe anLe cdLe ctLe), slLe⟩)
    (cLe : PySem.W.codeIn K cdLe "_law_edit" = true)
    (kLe : PySem.W.keepIn K (.ref fLe) = true)
    (lLd : K.lookup fLd = some ⟨ocLd, odLd, .func (PySem.W.fnOf "_law_edited" "_law_edited" (defArgs s_l_edited) (defBody s_l_edited) (defScope s_l_edited) .none kVLd dcLd pmLd anLd cdLd ctLd), slLd⟩)
    (cLd : PySem.W.codeIn K cdLd "_law_edited" = true)
    (kLd : PySem.W.keepIn K (.ref fLd) = true)
    (lLb : K.lookup fLb = some ⟨ocLb, odLb, .func (PySem.W.fnOf "_law_between" "_law_between" (defArgs s_l_between) (defBody s_l_between) (defScope s_l_between) .none kVLb dcLb pmLb anLb cdLb ctLb), slLb⟩)
    (cLb : PySem.W.codeIn K cdLb "_law_between" = true)
    (kLb : PySem.W.keepIn K (.ref fLb) = true)
    (lLt : K.lookup fLt = some ⟨ocLt, odLt, .func (PySem.W.fnOf "_law_touches" "_law_touches" (defArgs s_l_touches) (defBody s_l_touches) (defScope s_l_touches) .none kVLt dcLt pmLt anLt cdLt ctLt), slLt⟩)
    (cLt : PySem.W.codeIn K cdLt "_law_touches" = true)
    (kLt : PySem.W.keepIn K (.ref fLt) = true)
    (lOl : K.lookup fOl = some ⟨ocOl, odOl, .func (PySem.W.fnOf "_law_own_lines" "_law_own_lines" (defArgs s_l_own_lines) (defBody s_l_own_lines) (defScope s_l_own_lines) .none kVOl dcOl pmOl anOl cdOl ctOl), slOl⟩)
    (cOl : PySem.W.codeIn K cdOl "_law_own_lines" = true)
    (kOl : PySem.W.keepIn K (.ref fOl) = true)
    (lLa : K.lookup fLa = some ⟨ocLa, odLa, .func (PySem.W.fnOf "_law_approved" "_law_approved" (defArgs s_l_approved) (defBody s_l_approved) (defScope s_l_approved) .none kVLa dcLa pmLa anLa cdLa ctLa), slLa⟩)
    (cLa : PySem.W.codeIn K cdLa "_law_approved" = true)
    (kLa : PySem.W.keepIn K (.ref fLa) = true)
    (lM : K.lookup fM = some ⟨ocM, odM, .func (PySem.W.fnOf "law" "law" (defArgs s_law) (defBody s_law) (defScope s_law) .none kVM dcM pmM anM cdM ctM), slM⟩)
    (cM : PySem.W.codeIn K cdM "law" = true)
    (kM : PySem.W.keepIn K (.ref fM) = true)
    (iI : PySem.W.findIn K (.ref C) "__init__" = some (some (.ref fI)))
    (tI : PySem.W.isFn K (.ref fI) = true)
    (lI : K.lookup fI = some ⟨ocI, odI, .func (PySem.W.fnOf "__init__" "Tree.__init__" (defArgs s_Tree_init) (defBody s_Tree_init) (defScope s_Tree_init) (.ref TI) kVI dcI pmI anI cdI ctI), slI⟩)
    (cI : PySem.W.codeIn K cdI "Tree.__init__" = true)
    (kI : PySem.W.keepIn K (.ref fI) = true)
    (lT : K.lookup TI = some ⟨ocT, odT, .seq #[.ref eI] nT, slT⟩)
    (iE : PySem.W.findIn K (.ref C) "__eq__" = some (some (.ref fE)))
    (tE : PySem.W.isFn K (.ref fE) = true)
    (lE : K.lookup fE = some ⟨ocE, odE, .func (PySem.W.fnOf "__eq__" "Tree.__eq__" (defArgs s_Tree_eq) (defBody s_Tree_eq) (defScope s_Tree_eq) .none kVE dcE pmE anE cdE ctE), slE⟩)
    (cE : PySem.W.codeIn K cdE "Tree.__eq__" = true)
    (kE : PySem.W.keepIn K (.ref fE) = true)
    (iP : PySem.W.findIn K (.ref C) "files" = some (some (.ref pF)))
    (gP : PySem.W.specialIn K (.ref pF) "__get__" = some (some (.builtin "property.__get__")))
    (tP : PySem.W.takesIn K (.ref pF) = some true)
    (rP : PySem.W.recIn K pF "property" = some (.ref fP :: rest))
    (lP : K.lookup fP = some ⟨ocP, odP, .func (PySem.W.fnOf "files" "Tree.files" (defArgs s_Tree_files) (defBody s_Tree_files) (defScope s_Tree_files) .none kVP dcP pmP anP cdP ctP), slP⟩)
    (cP : PySem.W.codeIn K cdP "Tree.files" = true)
    (kP : PySem.W.keepIn K (.ref fP) = true)
    (x_pg : PySem.W.plainGet K C Str.empty = true)
    (x_hd : PySem.W.hasDictIn K C = true)
    (x_po : PySem.W.plainOver K C = true)
    (x_sa : PySem.W.findIn K (.ref C) "__setattr__" = some (some (.builtin "object.__setattr__")))
    (x_ca : PySem.W.findIn K (.ref C) "__class__" = some (some (.builtin "object.__class__")))
    (x_cg : PySem.W.specialIn K (.builtin "object.__class__") "__get__" = some (some (.builtin "getset_descriptor.__get__")))
    (x_ct : PySem.W.takesIn K (.builtin "object.__class__") = some true)
    (x_cm : PySem.W.mroIn K C (.type "object") = some true)
    (x_nf : PySem.W.findIn K (.ref C) "_files" = some none)
    (x_mk : PySem.W.makesIn K C = true)
    (x_kp : PySem.W.keepIn K (.ref C) = true)
    (x_kC : PySem.W.kitOne K (.ref C) (.ref C) = some true)
    (x_kT : PySem.W.kitOne K (.type "tuple") (.ref C) = some false)
    (x_kN : PySem.W.kitOne K (.type "NoneType") (.ref C) = some false)
    (x_fT : PySem.W.notFirst K C (.type "tuple") = true)
    (x_fN : PySem.W.notFirst K C (.type "NoneType") = true)
    (igF : PySem.W.findIn K (.ref CB) "__init__" = some (some (.ref fgF)))
    (tgF : PySem.W.typeIn K (.ref fgF) = some (.type "function"))
    (lgF : K.lookup fgF = some ⟨ocgF, odgF, .func (PySem.W.fnOf "__init__" "BadFile.__init__" (defArgs iBF) (defBody iBF) (defScope iBF) .none kVgF dcgF pmgF angF cdgF ctgF), slgF⟩)
    (cgF : PySem.W.codeIn K cdgF "BadFile.__init__" = true)
    (kgF : PySem.W.keepIn K (.ref fgF) = true)
    (x1gF : PySem.W.excInitIn K CB exMro "Exception.__new__" = true)
    (x2gF : PySem.W.excOver K CB exMro = true)
    (x3gF : PySem.W.hasDictIn K CB = true)
    (x4gF : PySem.W.findIn K (.ref CB) "__setattr__" = some (some (.builtin "object.__setattr__")))
    (x5gF : PySem.W.subIn K (.ref CB) (.type "BaseException") = some true)
    (x6gF : PySem.W.typeIn K (.ref CB) = some (.type "type"))
    (x7gF : PySem.W.keepIn K (.ref CB) = true)
    (x8gF : PySem.W.findIn K (.ref CB) "__getattribute__" = some (some (.builtin "BaseException.__getattribute__")))
    (x9gF : PySem.W.findIn K (.ref CB) "__getattr__" = some none)
    (y2gF : PySem.W.findIn K (.ref CB) "__class__" = some (some (.builtin "object.__class__")))
    (y3gF : PySem.W.mroIn K CB (.type "object") = some true)
    (hCBgF : PySem.W.exmOne K (.ref CB) (.ref CB) = some true)
    (natgF : PySem.W.findIn K (.ref CB) "at" = some none)
    (npathgF : PySem.W.findIn K (.ref CB) "path" = some none)
    : ∃ fd : FuncData, (∀ (s : Shared) (v : Value), BindsTo s fd ⟨[v], []⟩ [("script", v)]) ∧ ∀ base : Heap, K.In base → base.Ns mainGlobals mg → FnOk l.prog w K mg base CX0 67 fa fd ["script"] (spLaw K) := by
  have e := hfa.symm.trans (PySem.W.mg_of X G aM)
  cases e
  have T : Glo mg := ⟨PySem.W.mg_none_of X G z_len, PySem.W.mg_none_of X G z_int, PySem.W.mg_none_of X G z_range, PySem.W.mg_none_of X G z_isinstance, PySem.W.mg_none_of X G z_tuple, PySem.W.mg_none_of X G z_list, PySem.W.mg_none_of X G z_bool, PySem.W.mg_none_of X G z_str, PySem.W.mg_none_of X G z_dict, PySem.W.mg_none_of X G z_sorted, PySem.W.mg_none_of X G z_all, PySem.W.mg_none_of X G z_ord, PySem.W.mg_none_of X G z_zip, PySem.W.mg_none_of X G z_max, PySem.W.mg_none_of X G z_min⟩
  have FSq := fun_mk (st := s_is_sequence) lSq cSq kSq
  have ASq : At K mg "is_sequence" s_is_sequence ["value"] fSq _ := ⟨FSq, PySem.W.mg_of X G aSq, FSq.binds fun _ _ _ _ _ _ us hl => match us, hl with | [_], _ => rfl⟩
  have FRw := fun_mk (st := s_is_row) lRw cRw kRw
  have ARw : At K mg "is_row" s_is_row ["value", "length"] fRw _ := ⟨FRw, PySem.W.mg_of X G aRw, FRw.binds fun _ _ _ _ _ _ us hl => match us, hl with | [_, _], _ => rfl⟩
  have FSh := fun_mk (st := s_is_shown) lSh cSh kSh
  have ASh : At K mg "is_shown" s_is_shown ["value"] fSh _ := ⟨FSh, PySem.W.mg_of X G aSh, FSh.binds fun _ _ _ _ _ _ us hl => match us, hl with | [_], _ => rfl⟩
  have FWd := fun_mk (st := s_is_word) lWd cWd kWd
  have AWd : At K mg "is_word" s_is_word ["value"] fWd _ := ⟨FWd, PySem.W.mg_of X G aWd, FWd.binds fun _ _ _ _ _ _ us hl => match us, hl with | [_], _ => rfl⟩
  have FPt := fun_mk (st := s_is_path) lPt cPt kPt
  have APt : At K mg "is_path" s_is_path ["value"] fPt _ := ⟨FPt, PySem.W.mg_of X G aPt, FPt.binds fun _ _ _ _ _ _ us hl => match us, hl with | [_], _ => rfl⟩
  have FSg := fun_mk (st := s_is_signs) lSg cSg kSg
  have ASg : At K mg "is_signs" s_is_signs ["value", "most"] fSg _ := ⟨FSg, PySem.W.mg_of X G aSg, FSg.binds fun _ _ _ _ _ _ us hl => match us, hl with | [_, _], _ => rfl⟩
  have FCt := fun_mk (st := s_is_content) lCt cCt kCt
  have ACt : At K mg "is_content" s_is_content ["value"] fCt _ := ⟨FCt, PySem.W.mg_of X G aCt, FCt.binds fun _ _ _ _ _ _ us hl => match us, hl with | [_], _ => rfl⟩
  have FAs := fun_mk (st := s_is_ascending) lAs cAs kAs
  have AAs : At K mg "is_ascending" s_is_ascending ["keys"] fAs _ := ⟨FAs, PySem.W.mg_of X G aAs, FAs.binds fun _ _ _ _ _ _ us hl => match us, hl with | [_], _ => rfl⟩
  have FFi := fun_mk (st := s_is_files) lFi cFi kFi
  have AFi : At K mg "is_files" s_is_files ["value"] fFi _ := ⟨FFi, PySem.W.mg_of X G aFi, FFi.binds fun _ _ _ _ _ _ us hl => match us, hl with | [_], _ => rfl⟩
  have FCk := fun_mk (st := s_check_tree) lCk cCk kCk
  have ACk : At K mg "check_tree" s_check_tree ["value", "at"] fCk _ := ⟨FCk, PySem.W.mg_of X G aCk, FCk.binds fun _ _ _ _ _ _ us hl => match us, hl with | [_, _], _ => rfl⟩
  have FDi := fun_mk (st := s_digit_of) lDi cDi kDi
  have ADi : At K mg "digit_of" s_digit_of ["text"] fDi _ := ⟨FDi, PySem.W.mg_of X G aDi, FDi.binds fun _ _ _ _ _ _ us hl => match us, hl with | [_], _ => rfl⟩
  have FTl := fun_mk (st := s_told_lines) lTl cTl kTl
  have ATl : At K mg "told_lines" s_told_lines ["files", "start"] fTl _ := ⟨FTl, PySem.W.mg_of X G aTl, FTl.binds fun _ _ _ _ _ _ us hl => match us, hl with | [_, _], _ => rfl⟩
  have FAo := fun_mk (st := s_approval_of) lAo cAo kAo
  have AAo : At K mg "approval_of" s_approval_of ["parts"] fAo _ := ⟨FAo, PySem.W.mg_of X G aAo, FAo.binds fun _ _ _ _ _ _ us hl => match us, hl with | [_], _ => rfl⟩
  have FRa := fun_mk (st := s_read_approvals) lRa cRa kRa
  have ARa : At K mg "read_approvals" s_read_approvals ["files"] fRa _ := ⟨FRa, PySem.W.mg_of X G aRa, FRa.binds fun _ _ _ _ _ _ us hl => match us, hl with | [_], _ => rfl⟩
  have FBt := fun_mk (st := s_between) lBt cBt kBt
  have ABt : At K mg "between" s_between ["old", "new"] fBt _ := ⟨FBt, PySem.W.mg_of X G aBt, FBt.binds fun _ _ _ _ _ _ us hl => match us, hl with | [_, _], _ => rfl⟩
  have FTo := fun_mk (st := s_touched) lTo cTo kTo
  have ATo : At K mg "touched" s_touched ["old", "new"] fTo _ := ⟨FTo, PySem.W.mg_of X G aTo, FTo.binds fun _ _ _ _ _ _ us hl => match us, hl with | [_, _], _ => rfl⟩
  have FAl := fun_mk (st := s_approvals) lAl cAl kAl
  have AAl : At K mg "approvals" s_approvals ["tree", "path"] fAl _ := ⟨FAl, PySem.W.mg_of X G aAl, FAl.binds fun _ _ _ _ _ _ us hl => match us, hl with | [_, _], _ => rfl⟩
  have FAp := fun_mk (st := s_approved) lAp cAp kAp
  have AAp : At K mg "approved" s_approved ["old", "new", "author", "given"] fAp _ := ⟨FAp, PySem.W.mg_of X G aAp, FAp.binds fun _ _ _ _ _ _ us hl => match us, hl with | [_, _, _, _], _ => rfl⟩
  have FBy := fun_mk (st := s_approved_by) lBy cBy kBy
  have ABy : At K mg "approved_by" s_approved_by ["sides", "paths", "author", "given"] fBy _ := ⟨FBy, PySem.W.mg_of X G aBy, FBy.binds fun _ _ _ _ _ _ us hl => match us, hl with | [_, _, _, _], _ => rfl⟩
  have FTu := fun_mk (st := s_touches) lTu cTu kTu
  have ATu : At K mg "touches" s_touches ["prefix", "path"] fTu _ := ⟨FTu, PySem.W.mg_of X G aTu, FTu.binds fun _ _ _ _ _ _ us hl => match us, hl with | [_, _], _ => rfl⟩
  have FGi := fun_mk (st := s_is_given) lGi cGi kGi
  have AGi : At K mg "is_given" s_is_given ["value"] fGi _ := ⟨FGi, PySem.W.mg_of X G aGi, FGi.binds fun _ _ _ _ _ _ us hl => match us, hl with | [_], _ => rfl⟩
  have FSo := fun_mk (st := sSo) lSo cSo kSo
  have ASo : At K mg "_law_so" sSo ["found", "meant"] fSo _ := ⟨FSo, PySem.W.mg_of X G aSo, FSo.binds fun _ _ _ _ _ _ us hl => match us, hl with | [_, _], _ => rfl⟩
  have FNu := fun_mk (st := sNum) lNu cNu kNu
  have ANu : At K mg "_law_numbers" sNum ["script"] fNu _ := ⟨FNu, PySem.W.mg_of X G aNu, FNu.binds fun _ _ _ _ _ _ us hl => match us, hl with | [_], _ => rfl⟩
  have FDr := fun_mk (st := sDraw) lDr cDr kDr
  have ADr : At K mg "_law_draw" sDraw ["row", "at", "limit"] fDr _ := ⟨FDr, PySem.W.mg_of X G aDr, FDr.binds fun _ _ _ _ _ _ us hl => match us, hl with | [_, _, _], _ => rfl⟩
  have FTk := fun_mk (st := sTake) lTk cTk kTk
  have ATk : At K mg "_law_take" sTake ["row", "spot", "limit"] fTk _ := ⟨FTk, PySem.W.mg_of X G aTk, FTk.binds fun _ _ _ _ _ _ us hl => match us, hl with | [_, _, _], _ => rfl⟩
  have FLo := fun_mk (st := s_l_loose) lLo cLo kLo
  have ALo : At K mg "_law_loose" s_l_loose ["value", "turn"] fLo _ := ⟨FLo, PySem.W.mg_of X G aLo, FLo.binds fun _ _ _ _ _ _ us hl => match us, hl with | [_, _], _ => rfl⟩
  have FLw := fun_mk (st := s_l_is_word) lLw cLw kLw
  have ALw : At K mg "_law_is_word" s_l_is_word ["value"] fLw _ := ⟨FLw, PySem.W.mg_of X G aLw, FLw.binds fun _ _ _ _ _ _ us hl => match us, hl with | [_], _ => rfl⟩
  have FLp := fun_mk (st := s_l_is_path) lLp cLp kLp
  have ALp : At K mg "_law_is_path" s_l_is_path ["value"] fLp _ := ⟨FLp, PySem.W.mg_of X G aLp, FLp.binds fun _ _ _ _ _ _ us hl => match us, hl with | [_], _ => rfl⟩
  have FLn := fun_mk (st := s_l_lines) lLn cLn kLn
  have ALn : At K mg "_law_lines" s_l_lines ["content"] fLn _ := ⟨FLn, PySem.W.mg_of X G aLn, FLn.binds fun _ _ _ _ _ _ us hl => match us, hl with | [_], _ => rfl⟩
  have FLq := fun_mk (st := s_l_parts) lLq cLq kLq
  have ALq : At K mg "_law_parts" s_l_parts ["line"] fLq _ := ⟨FLq, PySem.W.mg_of X G aLq, FLq.binds fun _ _ _ _ _ _ us hl => match us, hl with | [_], _ => rfl⟩
  have FLx := fun_mk (st := s_l_wrong_words) lLx cLx kLx
  have ALx : At K mg "_law_wrong_words" s_l_wrong_words ["words"] fLx _ := ⟨FLx, PySem.W.mg_of X G aLx, FLx.binds fun _ _ _ _ _ _ us hl => match us, hl with | [_], _ => rfl⟩
  have FOw := fun_mk (st := s_l_own_wrong) lOw cOw kOw
  have AOw : At K mg "_law_own_wrong" s_l_own_wrong ["content"] fOw _ := ⟨FOw, PySem.W.mg_of X G aOw, FOw.binds fun _ _ _ _ _ _ us hl => match us, hl with | [_], _ => rfl⟩
  have FEn := fun_mk (st := s_l_end_of) lEn cEn kEn
  have AEn : At K mg "_law_end_of" s_l_end_of ["words", "at"] fEn _ := ⟨FEn, PySem.W.mg_of X G aEn, FEn.binds fun _ _ _ _ _ _ us hl => match us, hl with | [_, _], _ => rfl⟩
  have FDe := fun_mk (st := s_l_deps) lDe cDe kDe
  have ADe : At K mg "_law_deps" s_l_deps ["words", "at"] fDe _ := ⟨FDe, PySem.W.mg_of X G aDe, FDe.binds fun _ _ _ _ _ _ us hl => match us, hl with | [_, _], _ => rfl⟩
  have FLr := fun_mk (st := s_l_rules) lLr cLr kLr
  have ALr : At K mg "_law_rules" s_l_rules ["files"] fLr _ := ⟨FLr, PySem.W.mg_of X G aLr, FLr.binds fun _ _ _ _ _ _ us hl => match us, hl with | [_], _ => rfl⟩
  have FLc := fun_mk (st := s_l_check) lLc cLc kLc
  have ALc : At K mg "_law_check" s_l_check ["files", "heads"] fLc _ := ⟨FLc, PySem.W.mg_of X G aLc, FLc.binds fun _ _ _ _ _ _ us hl => match us, hl with | [_, _], _ => rfl⟩
  have FTx := fun_mk (st := s_l_text) lTx cTx kTx
  have ATx : At K mg "_law_text" s_l_text ["row", "spot"] fTx _ := ⟨FTx, PySem.W.mg_of X G aTx, FTx.binds fun _ _ _ _ _ _ us hl => match us, hl with | [_, _], _ => rfl⟩
  have FEx := fun_mk (st := s_l_expression) lEx cEx kEx
  have AEx : At K mg "_law_expression" s_l_expression ["row", "spot", "targets", "deep"] fEx _ := ⟨FEx, PySem.W.mg_of X G aEx, FEx.binds fun _ _ _ _ _ _ us hl => match us, hl with | [_, _, _, _], _ => rfl⟩
  have FRr := fun_mk (st := s_l_rule_rows) lRr cRr kRr
  have ARr : At K mg "_law_rule_rows" s_l_rule_rows ["row", "spot", "many"] fRr _ := ⟨FRr, PySem.W.mg_of X G aRr, FRr.binds fun _ _ _ _ _ _ us hl => match us, hl with | [_, _, _], _ => rfl⟩
  have FSr := fun_mk (st := s_l_setting_rows) lSr cSr kSr
  have ASr : At K mg "_law_setting_rows" s_l_setting_rows ["row", "spot"] fSr _ := ⟨FSr, PySem.W.mg_of X G aSr, FSr.binds fun _ _ _ _ _ _ us hl => match us, hl with | [_, _], _ => rfl⟩
  have FCo := fun_mk (st := s_l_content) lCo cCo kCo
  have ACo : At K mg "_law_content" s_l_content ["rows"] fCo _ := ⟨FCo, PySem.W.mg_of X G aCo, FCo.binds fun _ _ _ _ _ _ us hl => match us, hl with | [_], _ => rfl⟩
  have FPr := fun_mk (st := s_l_place_rows) lPr cPr kPr
  have APr : At K mg "_law_place_rows" s_l_place_rows ["row", "spot"] fPr _ := ⟨FPr, PySem.W.mg_of X G aPr, FPr.binds fun _ _ _ _ _ _ us hl => match us, hl with | [_, _], _ => rfl⟩
  have FOr := fun_mk (st := s_l_own_rows) lOr cOr kOr
  have AOr : At K mg "_law_own_rows" s_l_own_rows ["row", "spot"] fOr _ := ⟨FOr, PySem.W.mg_of X G aOr, FOr.binds fun _ _ _ _ _ _ us hl => match us, hl with | [_, _], _ => rfl⟩
  have FGr := fun_mk (st := s_l_goal_rows) lGr cGr kGr
  have AGr : At K mg "_law_goal_rows" s_l_goal_rows ["row", "spot"] fGr _ := ⟨FGr, PySem.W.mg_of X G aGr, FGr.binds fun _ _ _ _ _ _ us hl => match us, hl with | [_, _], _ => rfl⟩
  have FTr := fun_mk (st := s_l_tree) lTr cTr kTr
  have ATr : At K mg "_law_tree" s_l_tree ["row", "spot"] fTr _ := ⟨FTr, PySem.W.mg_of X G aTr, FTr.binds fun _ _ _ _ _ _ us hl => match us, hl with | [_, _], _ => rfl⟩
  have FLe := fun_mk (st := s_l_edit) lLe cLe kLe
  have ALe : At K mg "_law_edit" s_l_edit ["row", "spot", "files"] fLe _ := ⟨FLe, PySem.W.mg_of X G aLe, FLe.binds fun _ _ _ _ _ _ us hl => match us, hl with | [_, _, _], _ => rfl⟩
  have FLd := fun_mk (st := s_l_edited) lLd cLd kLd
  have ALd : At K mg "_law_edited" s_l_edited ["files", "edit"] fLd _ := ⟨FLd, PySem.W.mg_of X G aLd, FLd.binds fun _ _ _ _ _ _ us hl => match us, hl with | [_, _], _ => rfl⟩
  have FLb := fun_mk (st := s_l_between) lLb cLb kLb
  have ALb : At K mg "_law_between" s_l_between ["old", "new"] fLb _ := ⟨FLb, PySem.W.mg_of X G aLb, FLb.binds fun _ _ _ _ _ _ us hl => match us, hl with | [_, _], _ => rfl⟩
  have FLt := fun_mk (st := s_l_touches) lLt cLt kLt
  have ALt : At K mg "_law_touches" s_l_touches ["prefix", "path"] fLt _ := ⟨FLt, PySem.W.mg_of X G aLt, FLt.binds fun _ _ _ _ _ _ us hl => match us, hl with | [_, _], _ => rfl⟩
  have FOl := fun_mk (st := s_l_own_lines) lOl cOl kOl
  have AOl : At K mg "_law_own_lines" s_l_own_lines ["files", "paths"] fOl _ := ⟨FOl, PySem.W.mg_of X G aOl, FOl.binds fun _ _ _ _ _ _ us hl => match us, hl with | [_, _], _ => rfl⟩
  have FLa := fun_mk (st := s_l_approved) lLa cLa kLa
  have ALa : At K mg "_law_approved" s_l_approved ["old", "new", "author", "given"] fLa _ := ⟨FLa, PySem.W.mg_of X G aLa, FLa.binds fun _ _ _ _ _ _ us hl => match us, hl with | [_, _, _, _], _ => rfl⟩
  have FM := fun_mk (st := s_law) lM cM kM
  have AM : At K mg "law" s_law ["script"] fa _ := ⟨FM, PySem.W.mg_of X G aM, FM.binds fun _ _ _ _ _ _ us hl => match us, hl with | [_], _ => rfl⟩
  have m_MOST_WORD_SIGNS := PySem.W.mg_of X G m0_MOST_WORD_SIGNS
  have m_MOST_PATH_WORDS := PySem.W.mg_of X G m0_MOST_PATH_WORDS
  have m_MOST_CONTENT_SIGNS := PySem.W.mg_of X G m0_MOST_CONTENT_SIGNS
  have m_PERCENT_NUMBER := PySem.W.mg_of X G m0_PERCENT_NUMBER
  have m_MOST_FILES := PySem.W.mg_of X G m0_MOST_FILES
  have m_MOST_APPROVALS := PySem.W.mg_of X G m0_MOST_APPROVALS
  have m_MOST_OWNERS := PySem.W.mg_of X G m0_MOST_OWNERS
  have m_MOST_GIVEN := PySem.W.mg_of X G m0_MOST_GIVEN
  have TF : TreeF K mg C := ⟨⟨x_pg, x_hd, x_po, x_sa⟩, x_ca, x_cg, x_ct, x_cm, PySem.W.mg_of X G aC, x_nf, x_kC, x_kT, x_kN, x_fT, x_fN⟩
  have FI : FunD K "__init__" "Tree.__init__" (defArgs s_Tree_init) (defBody s_Tree_init) (defScope s_Tree_init) [V.ref eI] [] fI _ := ⟨⟨_, _, _, _, _, _, _, _, _, _, rfl, lI, cI, .inr ⟨(fun z => nomatch z), TI, _, [.ref eI], nT, rfl, lT, rfl, .cons rfl .nil⟩, .inl rfl⟩, kI⟩
  have BI0 := FI.binds1 (ps := ["self", "files"]) 2 1 (fun z => nomatch z) rfl (fun _ _ _ _ _ _ _ us its hl hi => match us, its, hl, hi with | [_, _], [_], _, _ => ⟨_, rfl, rfl⟩)
  obtain ⟨dsI, hdI, BI⟩ := BI0
  cases hdI
  have KI := FI.kbindsD (ps := ["self", "files"]) 1 ["files"] (fun us _ ws => us ++ ws) (fun z => nomatch z) (fun r1 _ r3 => r1.append r3) (fun _ _ _ _ _ _ _ us its ws hl hi hw => match us, its, ws, hl, hi, hw with | [_], [_], [_], _, _, _ => ⟨_, rfl, rfl⟩)
  have MI : Mk K C fI := ⟨x_mk, iI, tI, x_kp⟩
  have FE := fun_mk (st := s_Tree_eq) lE cE kE
  have BE : Binds K _ ["self", "other"] [] := FE.binds fun _ _ _ _ _ _ us hl => match us, hl with | [_, _], _ => rfl
  have FP := fun_mk (st := s_Tree_files) lP cP kP
  have BP : Binds K _ ["self"] [] := FP.binds fun _ _ _ _ _ _ us hl => match us, hl with | [_], _ => rfl
  have FgF := fun_mk (st := iBF) lgF cgF kgF
  have bgF := FgF.binds (ps := ["self", "path", "at"]) fun _ _ _ _ _ _ us hl => match us, hl with | [_, _, _], _ => rfl
  have EgF : Err K mg "BadFile" CB fgF := ⟨⟨x1gF, x2gF, x3gF, x4gF, x5gF, x6gF, x7gF⟩, igF, tgF, PySem.W.mg_of X G agF, ⟨x8gF, x9gF, x5gF, x3gF⟩, ⟨cls_some x3gF, x8gF, x9gF, x5gF, y2gF, x_cg, x_ct, y3gF⟩⟩
  refine ⟨PySem.W.fnOf "law" "law" (defArgs s_law) (defBody s_law) (defScope s_law) .none kVM dcM pmM anM cdM ctM, fun s v => .of_eq rfl, fun base _ _ => ?_⟩
  have Te := PySem.W.mg_none_of X G z_enumerate
  have Ta := PySem.W.mg_none_of X G z_any
  have Ts := PySem.W.mg_none_of X G z_set
  have c_sq := cal_of (P := l.prog) (w := w) (base := base) ASq (ok_sequence FSq T)
  have c_rw := cal_of ARw (ok_row FRw T c_sq)
  have c_sh := cal_of (P := l.prog) (w := w) (base := base) ASh (ok_shown FSh T m_PERCENT_NUMBER)
  have c_wd := cal_of (P := l.prog) (w := w) (base := base) AWd (ok_word FWd T m_MOST_WORD_SIGNS)
  have c_pt := cal_of APt (ok_path FPt T m_MOST_PATH_WORDS c_wd)
  have c_wdG := cal_of (P := l.prog) (w := w) (base := base) AWd (ok_wordG FWd T m_MOST_WORD_SIGNS)
  have c_ptG := cal_of APt (ok_pathG FPt T m_MOST_PATH_WORDS c_wdG)
  have c_sg := cal_of ASg (ok_signs FSg T c_sh)
  have c_ct := cal_of ACt (ok_cont FCt m_MOST_CONTENT_SIGNS c_sg)
  have c_as := cal_of (P := l.prog) (w := w) (base := base) AAs (ok_asc FAs T)
  have c_asG := cal_of (P := l.prog) (w := w) (base := base) AAs (ok_ascG FAs T)
  have c_fi := cal_of AFi (ok_isfiles FFi T m_MOST_FILES c_sq c_rw c_pt c_ct c_as)
  have GI : FnOk l.prog w K mg base CX0 5 fI _ ["self", "files"] (spInit K C) := ok_init FI T TF c_fi
  have tp : TreeP l.prog w K mg base C := ⟨TF, pF, fP, _, ⟨iP, gP, tP, _, rP⟩, ok_files FP TF, BP⟩
  have mk_Tree : C8.Mak l.prog w K mg base 5 "Tree" C (spInit K C) [] := ⟨fI, _, _, [], MI, GI, PySem.W.mg_of X G aC, BI, .nil⟩
  have c_ck := cal_of (P := l.prog) (w := w) (base := base) ACk (ok_check FCk T TF)
  have c_bt := cal_of ABt (ok_pbetween FBt T tp c_ck)
  have c_to := cal_of ATo (ok_touched FTo T c_bt)
  have c_di := cal_of (P := l.prog) (w := w) (base := base) ADi (ok_digit FDi T)
  have c_tl := cal_of (P := l.prog) (w := w) (base := base) ATl (ok_told FTl Te)
  have c_ao := cal_of AAo (ok_approval FAo T Ts m_MOST_OWNERS m_MOST_APPROVALS c_ptG c_di c_wdG)
  have GRa := ok_read FRa T EgF (ok_iBF FgF EgF.ex natgF npathgF) bgF c_tl c_ao
  have c_tu := cal_of (P := l.prog) (w := w) (base := base) ATu (ok_touches FTu)
  have c_gi := cal_of AGi (ok_given FGi T m_MOST_GIVEN c_sq c_wdG c_asG)
  have c_by := cal_of ABy (ok_by FBy T Te Ta c_tu)
  have GAp := ok_approved FAp tp ARa GRa c_ck c_wdG c_gi c_to c_by
  have GAl := ok_approvals FAl T tp ARa GRa c_ck c_ptG c_tu
  have GApG := ok_approvedG GAp
  have c_tk := cal_of (P := l.prog) (w := w) (base := base) ATk (take_tk (ok_take FTk T ADr))
  have c_tx := cal_of ATx (ok_text FTx c_tk)
  have c_ex := cal_of AEx (ok_ex AEx T c_tk 3 (by decide))
  have c_rr := cal_of ARr (ok_rule_rows FRr T c_tk c_ex)
  have c_sr := cal_of ASr (ok_setting_rows FSr T c_tk)
  have c_co := cal_of (P := l.prog) (w := w) (base := base) ACo (ok_content FCo)
  have c_pr := cal_of APr (ok_place_rows FPr T c_tk)
  have c_or := cal_of AOr (ok_own_rows FOr T c_tk)
  have c_gr := cal_of AGr (ok_goal_rows FGr T c_tk)
  have c_lw := cal_of (P := l.prog) (w := w) (base := base) ALw (ok_l_is_word FLw T)
  have c_lp := cal_of ALp (ok_l_is_path FLp T c_lw)
  have c_ln := cal_of (P := l.prog) (w := w) (base := base) ALn (ok_l_lines FLn)
  have c_lq := cal_of (P := l.prog) (w := w) (base := base) ALq (ok_l_parts FLq)
  have c_lx := cal_of ALx (ok_l_wrong FLx T c_lw)
  have c_ow := cal_of AOw (ok_l_own_wrong FOw T c_ln c_lq c_lp c_lx)
  have c_en := cal_of AEn (ok_l_end AEn T c_lp c_lw 61)
  have c_de := cal_of (P := l.prog) (w := w) (base := base) ADe (ok_l_deps FDe T)
  have c_lr := cal_of ALr (ok_l_rules FLr T c_ln c_lq c_lw c_en c_de)
  have c_lc := cal_of ALc (ok_l_check FLc c_lr c_ow)
  have c_lb := cal_of (P := l.prog) (w := w) (base := base) ALb (ok_between FLb T)
  have c_lt := cal_of (P := l.prog) (w := w) (base := base) ALt (ok_l_touches FLt T)
  have c_ol := cal_of AOl (ok_l_own_lines FOl T c_ln c_lt)
  exact ok_law FM T {
    c_l_numbers := cal_of ANu (ok_num FNu T)
    c_l_take := c_tk
    c_l_tree := cal_of ATr (ok_tree FTr T c_tk c_tx c_rr c_co c_sr c_pr c_or c_gr)
    c_l_edit := cal_of ALe (ok_edit FLe T c_tk c_tx c_ex c_co c_sr c_pr c_or c_gr)
    c_l_loose := cal_of ALo (ok_loose ALo T 5)
    c_l_so := cal_of ASo (ok_so ASo T 5)
    c_l_edited := cal_of ALd (ok_edited FLd T)
    c_l_check := c_lc
    c_l_approved := cal_of ALa (ok_l_approved FLa T c_lb c_ol)
    c_l_own_lines := c_ol
    c_approved := cal_of AAp GApG
    c_approvals := cal_of AAl (ok_approvalsG GAl)
    ck_approved := ⟨fAp, _, _, GApG, AAp.mf, AAp.fn.kp, fun s ws _ hl => match ws, hl with | [_, _, _, _], _ => .of_eq rfl⟩
    mk_Tree := mk_Tree } EgF natgF npathgF hCBgF AAp GAp
theorem walk {l : PySem.W.OpenLaw} {q : Program} {loose : List Str} {XP : (Str → Option Value) → Heap → Prop} {YP : World → Heap → Prop} {d : DefRec} {K : Params → PySem.W.Frag} (hn : l.most = some 63) (hdf : d.params.defaults = [])
    (hY : ∀ (w : World) (h : Heap), YP w h → (K w.params).In h)
    (F : ∀ (w : World) (mg : Str → Option Value) (fa : Addr) (h : Heap), (K w.params).In h → h.Ns mainGlobals mg → mg d.name = some (.ref fa) →
      ∃ fd : FuncData, (∀ (s : Shared) (u : Value), BindsTo s fd ⟨[u], []⟩ [("script", u)]) ∧ ∀ base : Heap, (K w.params).In base → base.Ns mainGlobals mg → FnOk l.prog w (K w.params) mg base CX0 67 fa fd ["script"] (spLaw (K w.params))) :
    PySem.W.WalkO q loose XP YP l.row.toRowW d [] (fun f vs => PySem.call f vs) :=
  L2.walk_of (n := 63) (k := 67) (x := "script") (CX := fun _ => CX0) (sp := fun w => spLaw (K w.params)) hn (by decide) hdf ⟨rfl, by decide, by decide⟩ hY F (fun _ _ a ns hl _ hS => ⟨a, ns, rfl, hS, hl, fun _ => rfl⟩) fun _ _ _ _ _ z => z
end Kl

open PySem PySem.W PyProof.Rows
set_option maxRecDepth 100000 in
set_option maxHeartbeats 0 in
theorem PySem.Challenge.cw_releasehouse_k18_approvals_of_both_sides_holds : PySem.Challenge.rw_releasehouse_k18_approvals_of_both_sides.Holds := by
  w_on; o_law; k_head; (case hw => w_witness2)
  k_fill
  refine Kl.walk (l := PySem.Challenge.rw_releasehouse_k18_approvals_of_both_sides) rfl rfl (fun w h Y => PySem.W.kIn_of Y) ?F
  case F =>
    intro w mg fa h KX G hmg
    refine' Kl.all_mk KX G hmg ?aSq ?aRw ?aSh ?aWd ?aPt ?aSg ?aCt ?aAs ?aFi ?aCk ?aDi ?aTl ?aAo ?aRa ?aBt ?aTo ?aAl ?aAp ?aBy ?aTu ?aGi ?aSo ?aNu ?aDr ?aTk ?aLo ?aLw ?aLp ?aLn ?aLq ?aLx ?aOw ?aEn ?aDe ?aLr ?aLc ?aTx ?aEx ?aRr ?aSr ?aCo ?aPr ?aOr ?aGr ?aTr ?aLe ?aLd ?aLb ?aLt ?aOl ?aLa ?aM ?m0_MOST_WORD_SIGNS ?m0_MOST_PATH_WORDS ?m0_MOST_CONTENT_SIGNS ?m0_PERCENT_NUMBER ?m0_MOST_FILES ?m0_MOST_APPROVALS ?m0_MOST_OWNERS ?m0_MOST_GIVEN ?aC ?z_len ?z_int ?z_range ?z_isinstance ?z_tuple ?z_list ?z_bool ?z_str ?z_dict ?z_sorted ?z_all ?z_ord ?z_zip ?z_max ?z_min ?z_enumerate ?z_any ?z_set ?agF ?lSq ?cSq ?kSq ?lRw ?cRw ?kRw ?lSh ?cSh ?kSh ?lWd ?cWd ?kWd ?lPt ?cPt ?kPt ?lSg ?cSg ?kSg ?lCt ?cCt ?kCt ?lAs ?cAs ?kAs ?lFi ?cFi ?kFi ?lCk ?cCk ?kCk ?lDi ?cDi ?kDi ?lTl ?cTl ?kTl ?lAo ?cAo ?kAo ?lRa ?cRa ?kRa ?lBt ?cBt ?kBt ?lTo ?cTo ?kTo ?lAl ?cAl ?kAl ?lAp ?cAp ?kAp ?lBy ?cBy ?kBy ?lTu ?cTu ?kTu ?lGi ?cGi ?kGi ?lSo ?cSo ?kSo ?lNu ?cNu ?kNu ?lDr ?cDr ?kDr ?lTk ?cTk ?kTk ?lLo ?cLo ?kLo ?lLw ?cLw ?kLw ?lLp ?cLp ?kLp ?lLn ?cLn ?kLn ?lLq ?cLq ?kLq ?lLx ?cLx ?kLx ?lOw ?cOw ?kOw ?lEn ?cEn ?kEn ?lDe ?cDe ?kDe ?lLr ?cLr ?kLr ?lLc ?cLc ?kLc ?lTx ?cTx ?kTx ?lEx ?cEx ?kEx ?lRr ?cRr ?kRr ?lSr ?cSr ?kSr ?lCo ?cCo ?kCo ?lPr ?cPr ?kPr ?lOr ?cOr ?kOr ?lGr ?cGr ?kGr ?lTr ?cTr ?kTr ?lLe ?cLe ?kLe ?lLd ?cLd ?kLd ?lLb ?cLb ?kLb ?lLt ?cLt ?kLt ?lOl ?cOl ?kOl ?lLa ?cLa ?kLa ?lM ?cM ?kM ?iI ?tI ?lI ?cI ?kI ?lT ?iE ?tE ?lE ?cE ?kE ?iP ?gP ?tP ?rP ?lP ?cP ?kP ?x_pg ?x_hd ?x_po ?x_sa ?x_ca ?x_cg ?x_ct ?x_cm ?x_nf ?x_mk ?x_kp ?x_kC ?x_kT ?x_kN ?x_fT ?x_fN ?igF ?tgF ?lgF ?cgF ?kgF ?x1gF ?x2gF ?x3gF ?x4gF ?x5gF ?x6gF ?x7gF ?x8gF ?x9gF ?y2gF ?y3gF ?hCBgF ?natgF ?npathgF
    (case aSq => k_is)
    (case aRw => k_is)
    (case aSh => k_is)
    (case aWd => k_is)
    (case aPt => k_is)
    (case aSg => k_is)
    (case aCt => k_is)
    (case aAs => k_is)
    (case aFi => k_is)
    (case aCk => k_is)
    (case aDi => k_is)
    (case aTl => k_is)
    (case aAo => k_is)
    (case aRa => k_is)
    (case aBt => k_is)
    (case aTo => k_is)
    (case aAl => k_is)
    (case aAp => k_is)
    (case aBy => k_is)
    (case aTu => k_is)
    (case aGi => k_is)
    (case aSo => k_is)
    (case aNu => k_is)
    (case aDr => k_is)
    (case aTk => k_is)
    (case aLo => k_is)
    (case aLw => k_is)
    (case aLp => k_is)
    (case aLn => k_is)
    (case aLq => k_is)
    (case aLx => k_is)
    (case aOw => k_is)
    (case aEn => k_is)
    (case aDe => k_is)
    (case aLr => k_is)
    (case aLc => k_is)
    (case aTx => k_is)
    (case aEx => k_is)
    (case aRr => k_is)
    (case aSr => k_is)
    (case aCo => k_is)
    (case aPr => k_is)
    (case aOr => k_is)
    (case aGr => k_is)
    (case aTr => k_is)
    (case aLe => k_is)
    (case aLd => k_is)
    (case aLb => k_is)
    (case aLt => k_is)
    (case aOl => k_is)
    (case aLa => k_is)
    (case aM => k_is)
    (case m0_MOST_WORD_SIGNS => k_is)
    (case m0_MOST_PATH_WORDS => k_is)
    (case m0_MOST_CONTENT_SIGNS => k_is)
    (case m0_PERCENT_NUMBER => k_is)
    (case m0_MOST_FILES => k_is)
    (case m0_MOST_APPROVALS => k_is)
    (case m0_MOST_OWNERS => k_is)
    (case m0_MOST_GIVEN => k_is)
    (case aC => k_is)
    (case z_len => k_is)
    (case z_int => k_is)
    (case z_range => k_is)
    (case z_isinstance => k_is)
    (case z_tuple => k_is)
    (case z_list => k_is)
    (case z_bool => k_is)
    (case z_str => k_is)
    (case z_dict => k_is)
    (case z_sorted => k_is)
    (case z_all => k_is)
    (case z_ord => k_is)
    (case z_zip => k_is)
    (case z_max => k_is)
    (case z_min => k_is)
    (case z_enumerate => k_is)
    (case z_any => k_is)
    (case z_set => k_is)
    (case agF => k_is)
    (case lSq => k_is)
    (case cSq => k_is)
    (case kSq => k_is)
    (case lRw => k_is)
    (case cRw => k_is)
    (case kRw => k_is)
    (case lSh => k_is)
    (case cSh => k_is)
    (case kSh => k_is)
    (case lWd => k_is)
    (case cWd => k_is)
    (case kWd => k_is)
    (case lPt => k_is)
    (case cPt => k_is)
    (case kPt => k_is)
    (case lSg => k_is)
    (case cSg => k_is)
    (case kSg => k_is)
    (case lCt => k_is)
    (case cCt => k_is)
    (case kCt => k_is)
    (case lAs => k_is)
    (case cAs => k_is)
    (case kAs => k_is)
    (case lFi => k_is)
    (case cFi => k_is)
    (case kFi => k_is)
    (case lCk => k_is)
    (case cCk => k_is)
    (case kCk => k_is)
    (case lDi => k_is)
    (case cDi => k_is)
    (case kDi => k_is)
    (case lTl => k_is)
    (case cTl => k_is)
    (case kTl => k_is)
    (case lAo => k_is)
    (case cAo => k_is)
    (case kAo => k_is)
    (case lRa => k_is)
    (case cRa => k_is)
    (case kRa => k_is)
    (case lBt => k_is)
    (case cBt => k_is)
    (case kBt => k_is)
    (case lTo => k_is)
    (case cTo => k_is)
    (case kTo => k_is)
    (case lAl => k_is)
    (case cAl => k_is)
    (case kAl => k_is)
    (case lAp => k_is)
    (case cAp => k_is)
    (case kAp => k_is)
    (case lBy => k_is)
    (case cBy => k_is)
    (case kBy => k_is)
    (case lTu => k_is)
    (case cTu => k_is)
    (case kTu => k_is)
    (case lGi => k_is)
    (case cGi => k_is)
    (case kGi => k_is)
    (case lSo => k_is)
    (case cSo => k_is)
    (case kSo => k_is)
    (case lNu => k_is)
    (case cNu => k_is)
    (case kNu => k_is)
    (case lDr => k_is)
    (case cDr => k_is)
    (case kDr => k_is)
    (case lTk => k_is)
    (case cTk => k_is)
    (case kTk => k_is)
    (case lLo => k_is)
    (case cLo => k_is)
    (case kLo => k_is)
    (case lLw => k_is)
    (case cLw => k_is)
    (case kLw => k_is)
    (case lLp => k_is)
    (case cLp => k_is)
    (case kLp => k_is)
    (case lLn => k_is)
    (case cLn => k_is)
    (case kLn => k_is)
    (case lLq => k_is)
    (case cLq => k_is)
    (case kLq => k_is)
    (case lLx => k_is)
    (case cLx => k_is)
    (case kLx => k_is)
    (case lOw => k_is)
    (case cOw => k_is)
    (case kOw => k_is)
    (case lEn => k_is)
    (case cEn => k_is)
    (case kEn => k_is)
    (case lDe => k_is)
    (case cDe => k_is)
    (case kDe => k_is)
    (case lLr => k_is)
    (case cLr => k_is)
    (case kLr => k_is)
    (case lLc => k_is)
    (case cLc => k_is)
    (case kLc => k_is)
    (case lTx => k_is)
    (case cTx => k_is)
    (case kTx => k_is)
    (case lEx => k_is)
    (case cEx => k_is)
    (case kEx => k_is)
    (case lRr => k_is)
    (case cRr => k_is)
    (case kRr => k_is)
    (case lSr => k_is)
    (case cSr => k_is)
    (case kSr => k_is)
    (case lCo => k_is)
    (case cCo => k_is)
    (case kCo => k_is)
    (case lPr => k_is)
    (case cPr => k_is)
    (case kPr => k_is)
    (case lOr => k_is)
    (case cOr => k_is)
    (case kOr => k_is)
    (case lGr => k_is)
    (case cGr => k_is)
    (case kGr => k_is)
    (case lTr => k_is)
    (case cTr => k_is)
    (case kTr => k_is)
    (case lLe => k_is)
    (case cLe => k_is)
    (case kLe => k_is)
    (case lLd => k_is)
    (case cLd => k_is)
    (case kLd => k_is)
    (case lLb => k_is)
    (case cLb => k_is)
    (case kLb => k_is)
    (case lLt => k_is)
    (case cLt => k_is)
    (case kLt => k_is)
    (case lOl => k_is)
    (case cOl => k_is)
    (case kOl => k_is)
    (case lLa => k_is)
    (case cLa => k_is)
    (case kLa => k_is)
    (case lM => k_is)
    (case cM => k_is)
    (case kM => k_is)
    (case iI => k_is)
    (case tI => k_is)
    (case lI => k_is)
    (case cI => k_is)
    (case kI => k_is)
    (case lT => k_is)
    (case iE => k_is)
    (case tE => k_is)
    (case lE => k_is)
    (case cE => k_is)
    (case kE => k_is)
    (case iP => k_is)
    (case gP => k_is)
    (case tP => k_is)
    (case rP => k_is)
    (case lP => k_is)
    (case cP => k_is)
    (case kP => k_is)
    (case x_pg => k_is)
    (case x_hd => k_is)
    (case x_po => k_is)
    (case x_sa => k_is)
    (case x_ca => k_is)
    (case x_cg => k_is)
    (case x_ct => k_is)
    (case x_cm => k_is)
    (case x_nf => k_is)
    (case x_mk => k_is)
    (case x_kp => k_is)
    (case x_kC => kit_is)
    (case x_kT => kit_is)
    (case x_kN => kit_is)
    (case x_fT => k_is)
    (case x_fN => k_is)
    (case igF => k_is)
    (case tgF => k_is)
    (case lgF => k_is)
    (case cgF => k_is)
    (case kgF => k_is)
    (case x1gF => kx_is)
    (case x2gF => kx_is)
    (case x3gF => k_is)
    (case x4gF => k_is)
    (case x5gF => k_is)
    (case x6gF => k_is)
    (case x7gF => k_is)
    (case x8gF => k_is)
    (case x9gF => k_is)
    (case y2gF => k_is)
    (case y3gF => k_is)
    (case hCBgF => kts_exm)
    (case natgF => k_is)
    (case npathgF => k_is)
