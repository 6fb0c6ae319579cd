import PyProof.Rows.All
import Wide.All
import OpenK.AllK
import Wide.FinOn
import HandS.ForMost
import HandS.ForExc
import HandS.IsInst
import HandS.Codes
import HandS.TupAny
import HandS.More
import HandS.MakeKwOnly
import HandS.Walk
import HandS.Zip
import HandS.StrMore
import HandS.ReplaceLit
import HandS.ReplaceDef
import PyProof.Rows.StrStrike
import PyProof.Rows.StrAscii
import KE.KExcTry
import KE.KExcStr
import KE.KExcIs
import HandS.ExcInit
import HandS.ExcField
import HandS.ExcIs
import HandS.ExcCtx
import HandS.HotCalls
import HandS.ExcInitHot
import PyProof.DictUpdate
import KE.KDictPairs
import HandS.Property
import HandS.MakeKw
import HandS.NoneIn
import HandS.Strs
import HandS.FStr
import PySem.Challenge.RW_releasehouse_k25_texts_of_trees_edits_an
set_option Elab.async false
set_option linter.all false
set_option maxRecDepth 100000
set_option maxHeartbeats 4000000
namespace Kd
open PySem L2
inductive D where
  | non
  | bl (b : Bool)
  | int (i : Int)
  | str (x : Str)
  | tup (ds : List D)
mutual
def Rep (H : Hp) : D → V → Prop
  | .non, v => v = .non
  | .bl b, v => v = .bl b
  | .int i, v => v = .int i
  | .str x, v => v = .str x
  | .tup ds, v => ∃ (a : Addr) (vs : List V), v = .ref a ∧ Rd H a (.tup vs) ∧ vs.length ≤ sizeLine ∧ Reps H ds vs
def Reps (H : Hp) : List D → List V → Prop
  | [], vs => vs = []
  | d :: ds, vs => ∃ (v : V) (r : List V), vs = v :: r ∧ Rep H d v ∧ Reps H ds r
end
/-- tuples stand still -/
def Tk (H H' : Hp) : Prop := ∀ a xs, Rd H a (.tup xs) → Rd H' a (.tup xs)
theorem Tk.refl (H : Hp) : Tk H H := fun _ _ h => h
theorem Tk.trans {H H1 H2 : Hp} (a : Tk H H1) (b : Tk H1 H2) : Tk H H2 := fun x o h => b x o (a x o h)
theorem Rd.same {H H' : Hp} {a : Addr} {u : HO} (s : Same H H') (h : Rd H a u) : Rd H' a u := h.imp (s _ _) fun ⟨o, e⟩ => ⟨o, s _ _ e⟩
theorem Tk.same {H H' : Hp} (s : Same H H') : Tk H H' := fun a xs h => Rd.same s h
theorem Tk.lst {H : Hp} {p : Addr} {xs : List V} {o : HO} (h : H p = some (.lst xs)) : Tk H (upd H p o) := fun a ys e => e.imp
    (fun e => by rw [upd_ne (ne_of e h (fun z => nomatch z))]; exact e)
    (fun ⟨o, e⟩ => ⟨o, by rw [upd_ne (ne_of e h (fun z => nomatch z))]; exact e⟩)
theorem Tk.new {H : Hp} {p : Addr} {o : HO} (h : H p = none) : Tk H (upd H p o) := fun a ys e => e.imp
    (fun e => by rw [upd_ne (ne_of_none e h)]; exact e)
    (fun ⟨o, e⟩ => ⟨o, by rw [upd_ne (ne_of_none e h)]; exact e⟩)
mutual
theorem Rep.keep {H H' : Hp} (k : Tk H H') : ∀ {d : D} {v : V}, Rep H d v → Rep H' d v
  | .non, _, h => h
  | .bl _, _, h => h
  | .int _, _, h => h
  | .str _, _, h => h
  | .tup _, _, ⟨a, vs, e, h, l, r⟩ => ⟨a, vs, e, k a vs h, l, Reps.keep k r⟩
theorem Reps.keep {H H' : Hp} (k : Tk H H') : ∀ {ds : List D} {vs : List V}, Reps H ds vs → Reps H' ds vs
  | [], _, h => h
  | _ :: _, _, ⟨v, r, e, h, q⟩ => ⟨v, r, e, Rep.keep k h, Reps.keep k q⟩
end
theorem Reps.len {H : Hp} : ∀ {ds : List D} {vs : List V}, Reps H ds vs → vs.length = ds.length
  | [], _, h => by cases (show _ = [] from h); rfl
  | d :: ds, _, ⟨v, r, e, h, q⟩ => by subst e; exact congrArg (· + 1) (Reps.len q)
theorem Reps.get {H : Hp} : ∀ {ds : List D} {vs : List V} {i : Nat} {d : D}, Reps H ds vs → ds[i]? = some d → ∃ v, vs[i]? = some v ∧ Rep H d v
  | [], _, i, d, _, e => by simp at e
  | c :: ds, _, 0, d, ⟨v, r, e1, h, q⟩, e => by
    subst e1
    obtain rfl : c = d := Option.some.inj e
    exact ⟨v, rfl, h⟩
  | c :: ds, _, i + 1, d, ⟨v, r, e1, h, q⟩, e => by
    subst e1
    exact Reps.get (ds := ds) (i := i) q e
theorem Reps.snoc {H : Hp} : ∀ {ds : List D} {vs : List V} {d : D} {v : V}, Reps H ds vs → Rep H d v → Reps H (ds ++ [d]) (vs ++ [v])
  | [], _, d, v, h, r => by
    cases (show _ = [] from h)
    exact ⟨v, [], rfl, r, rfl⟩
  | c :: ds, _, d, v, ⟨u, r, e, h, q⟩, rv => by
    subst e
    exact ⟨u, r ++ [v], rfl, h, Reps.snoc q rv⟩
def D.ty : D → String
  | .non => "NoneType"
  | .bl _ => "bool"
  | .int _ => "int"
  | .str _ => "str"
  | .tup _ => "tuple"
theorem Rep.ty {K : PySem.W.Frag} {H : Hp} : ∀ {d : D} {v : V}, Rep H d v → TyX K H v (.type d.ty)
  | .non, _, h => by cases (show _ = V.non from h); exact .base .non
  | .bl b, _, h => by cases (show _ = V.bl b from h); exact .base (.bl _)
  | .int i, _, h => by cases (show _ = V.int i from h); exact .base (.int _)
  | .str x, _, h => by cases (show _ = V.str x from h); exact .base (.str _)
  | .tup ds, _, ⟨a, vs, e, h, l, r⟩ => by cases e; exact h.elim (fun h => .base (.tup h)) (fun ⟨_, h⟩ => .fTuple h)
mutual
def D.eqb : D → D → Bool
  | .non, .non => true
  | .bl a, .bl b => a == b
  | .int a, .int b => decide (a = b)
  | .str a, .str b => decide (a = b)
  | .tup a, .tup b => D.eqbs a b
  | _, _ => false
def D.eqbs : List D → List D → Bool
  | [], [] => true
  | a :: r, b :: q => D.eqb a b && D.eqbs r q
  | _, _ => false
end
mutual
theorem D.eqb_refl : ∀ d : D, D.eqb d d = true
  | .non => rfl
  | .bl b => by simp [D.eqb]
  | .int i => by simp [D.eqb]
  | .str x => by simp [D.eqb]
  | .tup ds => by simp only [D.eqb]; exact D.eqbs_refl ds
theorem D.eqbs_refl : ∀ ds : List D, D.eqbs ds ds = true
  | [] => rfl
  | d :: ds => by simp only [D.eqbs, Bool.and_eq_true]; exact ⟨D.eqb_refl d, D.eqbs_refl ds⟩
end
mutual
def D.dep : D → Nat
  | .tup ds => D.deps ds + 1
  | _ => 0
def D.deps : List D → Nat
  | [] => 0
  | d :: ds => max (D.dep d) (D.deps ds)
end
theorem D.dep_mem : ∀ {ds : List D} {i : Nat} {d : D}, ds[i]? = some d → D.dep d ≤ D.deps ds
  | [], i, d, e => by simp at e
  | c :: ds, 0, d, e => by
    obtain rfl : c = d := Option.some.inj e
    simp only [D.deps]
    omega
  | c :: ds, i + 1, d, e => by
    have := D.dep_mem (ds := ds) (i := i) (d := d) e
    simp only [D.deps]
    omega
theorem D.eqbs_len : ∀ {a b : List D}, D.eqbs a b = true → a.length = b.length
  | [], [], _ => rfl
  | [], _ :: _, h => by simp [D.eqbs] at h
  | _ :: _, [], h => by simp [D.eqbs] at h
  | x :: a, y :: b, h => by
    simp only [D.eqbs, Bool.and_eq_true] at h
    exact congrArg (· + 1) (D.eqbs_len h.2)
/-- part by part -/
theorem D.eqbs_take : ∀ {a b : List D} {i : Nat} {x y : D}, a[i]? = some x → b[i]? = some y → D.eqbs (a.take (i + 1)) (b.take (i + 1)) = (D.eqbs (a.take i) (b.take i) && D.eqb x y)
  | [], _, i, x, y, h, _ => by simp at h
  | _ :: _, [], i, x, y, _, h => by simp at h
  | c :: a, d :: b, 0, x, y, h, g => by
    obtain rfl : c = x := Option.some.inj h
    obtain rfl : d = y := Option.some.inj g
    simp [D.eqbs]
  | c :: a, d :: b, i + 1, x, y, h, g => by
    have ih := D.eqbs_take (a := a) (b := b) (i := i) (x := x) (y := y) h g
    simp only [List.take_succ_cons, D.eqbs] at ih ⊢
    rw [ih, Bool.and_assoc]
theorem D.eqbs_cut : ∀ {a b : List D} {i : Nat} {x y : D}, a[i]? = some x → b[i]? = some y → D.eqb x y = false → D.eqbs a b = false
  | [], _, i, x, y, h, _, _ => by simp at h
  | _ :: _, [], i, x, y, _, h, _ => by simp at h
  | c :: a, d :: b, 0, x, y, h, g, e => by
    obtain rfl : c = x := Option.some.inj h
    obtain rfl : d = y := Option.some.inj g
    simp [D.eqbs, e]
  | c :: a, d :: b, i + 1, x, y, h, g, e => by
    have ih := D.eqbs_cut (a := a) (b := b) (i := i) (x := x) (y := y) h g e
    simp [D.eqbs, ih]
theorem kOne {K : PySem.W.Frag} {a b : String} {r : Bool} (h : kitB a b = some r) : PySem.W.kitOne K (.type a) (.type b) = some r := kit_ty h
def D.isTup : D → Bool
  | .tup _ => true
  | _ => false
def D.isBl : D → Bool
  | .bl _ => true
  | _ => false
def D.isInt : D → Bool
  | .int _ => true
  | .bl _ => true
  | _ => false
def D.isStr : D → Bool
  | .str _ => true
  | _ => false
theorem D.kTup {K : PySem.W.Frag} : ∀ d : D, PySem.W.kitOne K (.type d.ty) (.type "tuple") = some d.isTup
  | .non => kit_ty (show kitB "NoneType" "tuple" = some false by decide +kernel)
  | .bl _ => kit_ty (show kitB "bool" "tuple" = some false by decide +kernel)
  | .int _ => kit_ty (show kitB "int" "tuple" = some false by decide +kernel)
  | .str _ => kit_ty (show kitB "str" "tuple" = some false by decide +kernel)
  | .tup _ => kit_ty (show kitB "tuple" "tuple" = some true by decide +kernel)
theorem D.kList {K : PySem.W.Frag} : ∀ d : D, PySem.W.kitOne K (.type d.ty) (.type "list") = some false
  | .non => kit_ty (show kitB "NoneType" "list" = some false by decide +kernel)
  | .bl _ => kit_ty (show kitB "bool" "list" = some false by decide +kernel)
  | .int _ => kit_ty (show kitB "int" "list" = some false by decide +kernel)
  | .str _ => kit_ty (show kitB "str" "list" = some false by decide +kernel)
  | .tup _ => kit_ty (show kitB "tuple" "list" = some false by decide +kernel)
theorem D.kBl {K : PySem.W.Frag} : ∀ d : D, PySem.W.kitOne K (.type d.ty) (.type "bool") = some d.isBl
  | .non => kit_ty (show kitB "NoneType" "bool" = some false by decide +kernel)
  | .bl _ => kit_ty (show kitB "bool" "bool" = some true by decide +kernel)
  | .int _ => kit_ty (show kitB "int" "bool" = some false by decide +kernel)
  | .str _ => kit_ty (show kitB "str" "bool" = some false by decide +kernel)
  | .tup _ => kit_ty (show kitB "tuple" "bool" = some false by decide +kernel)
theorem D.kInt {K : PySem.W.Frag} : ∀ d : D, PySem.W.kitOne K (.type d.ty) (.type "int") = some d.isInt
  | .non => kit_ty (show kitB "NoneType" "int" = some false by decide +kernel)
  | .bl _ => kit_ty (show kitB "bool" "int" = some true by decide +kernel)
  | .int _ => kit_ty (show kitB "int" "int" = some true by decide +kernel)
  | .str _ => kit_ty (show kitB "str" "int" = some false by decide +kernel)
  | .tup _ => kit_ty (show kitB "tuple" "int" = some false by decide +kernel)
theorem D.kStr {K : PySem.W.Frag} : ∀ d : D, PySem.W.kitOne K (.type d.ty) (.type "str") = some d.isStr
  | .non => kit_ty (show kitB "NoneType" "str" = some false by decide +kernel)
  | .bl _ => kit_ty (show kitB "bool" "str" = some false by decide +kernel)
  | .int _ => kit_ty (show kitB "int" "str" = some false by decide +kernel)
  | .str _ => kit_ty (show kitB "str" "str" = some true by decide +kernel)
  | .tup _ => kit_ty (show kitB "tuple" "str" = some false by decide +kernel)
end Kd

namespace Kl
open PySem L2 Kd
def topS (i : Nat) : Stmt := PySem.Challenge.pw_releasehouse_k25_texts_of_trees_edits_an.main.body.getD i (.Pass ⟨0, 0, 0, 0⟩)
/-- the built-in names that no text of ours hides -/
structure Glo (mg : Str → Option Value) : Prop where
  len : mg "len" = none
  int : mg "int" = none
  range : mg "range" = none
  isi : mg "isinstance" = none
  tuple : mg "tuple" = none
  list : mg "list" = none
  bool : mg "bool" = none
  str : mg "str" = none
  dict : mg "dict" = none
  sorted : mg "sorted" = none
  all : mg "all" = none
  ord : mg "ord" = none
  zip : mg "zip" = none
  max : mg "max" = none
  min : mg "min" = none
/-- a def at its name -/
structure At (K : PySem.W.Frag) (mg : Str → Option Value) (x : Str) (st : Stmt) (ps : List Str) (f : Addr) (fd : FuncData) : Prop where
  fn : Fun K x x st f fd
  mf : mg x = some (.ref f)
  bd : Binds K fd ps []
theorem Same.new {H : Hp} {p : Addr} {o : HO} (h : H p = none) : Same H (upd H p o) := fun b u e => by
  rw [upd_ne (ne_of_none e h)]
  exact e
/-- what is new may change -/
theorem Same.mut {H H' : Hp} {p : Addr} {o : HO} (s : Same H H') (h : H p = none) : Same H (upd H' p o) := fun b u e => by
  rw [upd_ne (ne_of_none e h)]
  exact s b u e
end Kl

namespace Kl
open PySem L2 Kd
/-- a list of ints at a -/
abbrev Ints (K : PySem.W.Frag) (H : Hp) (a : Addr) (ns : List Int) : Prop := SqL K H a (ns.map V.int)
theorem at_int {ns : List Int} {z : Int} (h0 : 0 ≤ z) (h1 : z < (ns.length : Int)) : ∃ y : Int, atI (ns.map V.int) z = some (V.int y) := by
  have hl : z.toNat < ns.length := by omega
  refine ⟨ns[z.toNat], at_of (j := z.toNat) (by omega) ?_⟩
  rw [List.getElem?_map, List.getElem?_eq_getElem hl]
  rfl
def spDraw (K : PySem.W.Frag) : Sp := fun vs H Q _ => ∃ (a : Addr) (ns : List Int) (i m : Int), vs = [.ref a, .int i, .int m] ∧ Ints K H a ns ∧ 0 < ns.length ∧ 0 ≤ i ∧ 0 < m ∧
  ∀ d : Int, 0 ≤ d → d < m → Q (.int d) H
def spTake (K : PySem.W.Frag) : Sp := fun vs H Q _ => ∃ (a b : Addr) (ns : List Int) (i m : Int), vs = [.ref a, .ref b, .int m] ∧ a ≠ b ∧ Ints K H a ns ∧ H b = some (.lst [.int i]) ∧ 0 < ns.length ∧ 0 ≤ i ∧ 0 < m ∧
  ∀ d : Int, 0 ≤ d → d < m → Q (.int d) (upd H b (.lst [.int (i + 1)]))
section
variable {P : Program} {w : World} {K : PySem.W.Frag} {mg : Str → Option Value} {base : Heap}
abbrev sDraw : Stmt := topS 49
abbrev sTake : Stmt := topS 50
theorem scDraw : FnScope ["row", "at", "limit", "mixed"] ["row", "at", "limit"] (defScope sDraw) := ⟨rfl, rfl, rfl, by decide +kernel, rfl, by decide +kernel, by decide +kernel⟩
theorem ok_draw {f : Addr} {fd : FuncData} (F : Fun K "_law_draw" "_law_draw" sDraw f fd) (T : Glo mg) : FnOk P w K mg base CX0 1 f fd ["row", "at", "limit"] (spDraw K) := by
  refine F.ok scDraw (fun vs H Q E h => ?_) (fun cdv A outer s H vs Q E hr h => ?_)
  · obtain ⟨a, ns, i, m, rfl, _⟩ := h
    rfl
  · obtain ⟨a, ns, i, m, rfl, hS, hn, hi, hm, k⟩ := h
    refine ⟨_, pss_cons (ps_if (pt_cmpR op_lt (pv 1) (pe_callB call_len_seq (by rfl) T.len PySem.boot_len (pa_cons (pv 0) pa_nil)) (nomark _))
        (pss_one (ps_ret (pe_op op_mod (pe_callTy call_int1 (by rfl) T.int PyProof.Rows.boot_int (pa_cons (pe_ix ix_list (pv 0) (pv 1) (fun _ _ => rfl)) pa_nil)) (pv 2)))) pss_nil)
      (pss_cons (ps_set (i := 3) scDraw.nd rfl (.inl rfl) (pe_op op_mod (pe_callTy call_int1 (by rfl) T.int PyProof.Rows.boot_int (pa_cons
          (pe_op op_add (pe_op op_add (pe_op op_mul (pe_ix ix_list (pv 0) (pe_op op_mod (pe_callTy call_int1 (by rfl) T.int PyProof.Rows.boot_int (pa_cons (pv 1) pa_nil)) (pe_callB call_len_seq (by rfl) T.len PySem.boot_len (pa_cons (pv 0) pa_nil))) (fun _ _ => rfl)) pe_int)
            (pe_op op_mul (pv 1) pe_int)) pe_int) pa_nil)) pe_int))
      (pss_one (ps_ret (pe_op op_mod (pe_callTy call_int1 (by rfl) T.int PyProof.Rows.boot_int (pa_cons
          (pe_op op_mod (pe_callTy call_int1 (by rfl) T.int PyProof.Rows.boot_int (pa_cons (pe_op op_add (pe_op op_mul (pv 3) pe_int) (pv 1)) pa_nil)) pe_int) pa_nil)) (pv 2))))), ?_⟩
    have hl : (ns.map V.int).length = ns.length := List.length_map _
    refine ⟨_, rfl, _, rfl, a, _, rfl, .inl hS, _, _, rfl, rfl, _, rfl, ?_⟩
    refine ite2 (fun c => ?_) (fun c => ?_)
    · have c' : i < ((ns.map V.int).length : Int) := of_decide_eq_true c
      rw [hl] at c'
      obtain ⟨y, hy⟩ := at_int (ns := ns) hi c'
      exact ⟨_, rfl, _, rfl, a, _, i, _, rfl, rfl, hS, hy, .inl ⟨_, rfl, _, rfl, _, _, rfl, rfl, hm, k _ (Int.emod_nonneg _ (by omega)) (Int.emod_lt_of_pos _ hm)⟩⟩
    · have hp : (0 : Int) < ((ns.map V.int).length : Int) := by rw [hl]; omega
      obtain ⟨y, hy⟩ := at_int (ns := ns) (z := i % ((ns.map V.int).length : Int)) (Int.emod_nonneg _ (by omega)) (by rw [← hl]; exact Int.emod_lt_of_pos _ hp)
      refine ⟨_, rfl, _, rfl, .inl ⟨_, rfl, _, rfl, a, _, rfl, .inl hS, _, _, rfl, rfl, hp, a, _, _, _, rfl, rfl, hS, hy, _, _, rfl, rfl, .inr ⟨by decide, by decide⟩, ?_⟩⟩
      refine ⟨_, rfl, _, _, rfl, rfl, .inr ⟨by decide, by decide⟩, _, _, rfl, rfl, _, _, rfl, rfl, .inl ⟨_, rfl, _, _, rfl, rfl, (by show (0 : Int) < 2147483399; decide), ?_⟩⟩
      exact ⟨_, rfl, _, _, rfl, rfl, .inr ⟨by decide, by decide⟩, _, rfl, _, _, rfl, rfl, .inl ⟨_, rfl, _, _, rfl, rfl, (by show (0 : Int) < 2147483647; decide), .inl ⟨_, rfl, _, rfl, _, _, rfl, rfl, hm, k _ (Int.emod_nonneg _ (by omega)) (Int.emod_lt_of_pos _ hm)⟩⟩⟩
theorem scTake : FnScope ["row", "spot", "limit"] ["row", "spot", "limit"] (defScope sTake) := ⟨rfl, rfl, rfl, by decide +kernel, rfl, by decide +kernel, by decide +kernel⟩
theorem ok_take {f fD : Addr} {fd fdD : FuncData} (F : Fun K "_law_take" "_law_take" sTake f fd) (T : Glo mg) (D : At K mg "_law_draw" sDraw ["row", "at", "limit"] fD fdD) : FnOk P w K mg base CX0 2 f fd ["row", "spot", "limit"] (spTake K) := by
  have GD : FnOk P w K mg base CX0 1 fD fdD _ _ := ok_draw D.fn T
  refine F.ok scTake (fun vs H Q E h => ?_) (fun cdv A outer s H vs Q E hr h => ?_)
  · obtain ⟨a, b, ns, i, m, rfl, _⟩ := h
    rfl
  · obtain ⟨a, b, ns, i, m, rfl, hab, hS, hb, hn, hi, hm, k⟩ := h
    refine ⟨_, pss_cons (ps_asg (pe_op op_add (pe_ix ix_list (pv 1) pe_int (fun _ _ => rfl)) pe_int) (pg_sub (pv 1) pe_int set_list))
      (pss_one (ps_ret (pe_call GD hr (by rfl) D.mf D.fn.kp D.bd .nil pass0 (pa_cons (pv 0) (pa_cons (pe_op op_sub (pe_ix ix_list (pv 1) pe_int (fun _ _ => rfl)) pe_int) (pa_cons (pv 2) pa_nil)))))), ?_⟩
    refine ⟨_, rfl, b, _, 0, _, rfl, rfl, SqL.of hb, atI_nat (j := 0) rfl, _, _, rfl, rfl, _, rfl, b, _, 0, 0, rfl, rfl, hb, rfl, ?_⟩
    refine ⟨_, rfl, _, rfl, b, _, 0, _, rfl, rfl, SqL.of upd_same, atI_nat (j := 0) rfl, _, _, rfl, rfl, _, rfl, ?_⟩
    refine ⟨a, ns, _, m, rfl, ?_, hn, ?_, hm, k⟩
    · rcases hS with (h | ⟨o, h⟩) | h
      · exact .inl (.inl (by rw [upd_ne hab]; exact h))
      · exact .inl (.inr ⟨o, by rw [upd_ne hab]; exact h⟩)
      · exact .inr h
    · omega

abbrev sNum : Stmt := topS 48
theorem scNum : FnScope ["script", "row", "cell", "left", "k", "mixed"] ["script"] (defScope sNum) := ⟨rfl, rfl, rfl, by decide +kernel, rfl, by decide +kernel, by decide +kernel⟩
def spNum (K : PySem.W.Frag) : Sp := fun vs H Q _ => ∃ (a : Addr) (ns : List Int), vs = [.ref a] ∧ Ints K H a ns ∧ ns.length ≤ 63 ∧
  ∀ (p : Addr) (row : List Int) (H' : Hp), Same H H' → H p = none → H' p = some (.lst (row.map V.int)) → 0 < row.length → Q (.ref p) H'
theorem cut_ints (ns : List Int) (lo hi : Option Int) : ∃ ms : List Int, cutV (ns.map V.int) lo hi = ms.map V.int ∧ ms.length ≤ ns.length := by
  have e := cutV_length (ns.map V.int) lo hi
  unfold cutV at e ⊢
  rw [← List.map_drop, ← List.map_take] at e ⊢
  exact ⟨_, rfl, by simpa using e⟩
/-- the frame within _law_numbers -/
structure NumSt (a p q : Addr) (H0 : Hp) (ms : List Int) (n : Nat) (row : List Int) (H : Hp) : Prop where
  rw : H p = some (.lst (row.map V.int))
  q : H q = some (.lst (ms.map V.int))
  sm : Same H0 H
  ln : row.length ≤ n
theorem NumSt.app {a p q : Addr} {H0 H : Hp} {ms row : List Int} {n : Nat} (h : NumSt a p q H0 ms n row H) (hp : H0 p = none) (hqp : q ≠ p) (z : Int) : NumSt a p q H0 ms (n + 1) (row ++ [z]) (upd H p (.lst (row.map V.int ++ [V.int z]))) :=
  ⟨by rw [upd_same, List.map_append]; rfl, by rw [upd_ne hqp]; exact h.q, fun b o e => by rw [upd_ne (ne_of_none e hp)]; exact h.sm b o e, by rw [List.length_append]; exact Nat.succ_le_succ h.ln⟩
theorem NumSt.mono {a p q : Addr} {H0 H : Hp} {ms row : List Int} {n m : Nat} (h : NumSt a p q H0 ms n row H) (hm : n ≤ m) : NumSt a p q H0 ms m row H := ⟨h.rw, h.q, h.sm, Nat.le_trans h.ln hm⟩
theorem ok_num {f : Addr} {fd : FuncData} (F : Fun K "_law_numbers" "_law_numbers" sNum f fd) (T : Glo mg) : FnOk P w K mg base CX0 1 f fd ["script"] (spNum K) := by
  refine F.ok scNum (fun vs H Q E h => ?_) (fun cdv A outer s H vs Q E hr h => ?_)
  · obtain ⟨a, ns, rfl, _⟩ := h
    rfl
  · obtain ⟨a, ns, rfl, hS, hn, k⟩ := h
    refine ⟨_, pss_cons (ps_set (i := 1) scNum.nd rfl (.inl rfl) (pe_lst pa_nil))
      (pss_cons (ps_for PassesOwn.never rfl (pi_list (pe_slice sl_list (pv 0) po_none (po_some pe_int))) (pg_name (i := 2) scNum.nd rfl (.inl rfl))
        (pss_one (ps_if (pt_cmpR op_ge (pv 2) (pe_op op_pow pe_int pe_int) (nomark _))
          (pss_cons (ps_set (i := 3) scNum.nd rfl (.inl rfl) (pv 2))
          (pss_one (ps_for PassesOwn.never rfl (pi_range1 (by rfl) T.range (pa_cons pe_int pa_nil)) (pg_name (i := 4) scNum.nd rfl (.inl rfl))
            (pss_cons (ps_if (pt_cmpR op_eq (pv 3) pe_int (nomark _)) (pss_one ps_break) pss_nil)
            (pss_cons (ps_expr (pe_bm PySem.F.plainAttrs_list PySem.F.slot_list_append PySem.F.type_list_append mt_append (pv 1) (pa_cons (pe_op op_mod (pe_callTy call_int1 (by rfl) T.int PyProof.Rows.boot_int (pa_cons (pv 3) pa_nil)) pe_int) pa_nil)))
            (pss_one (ps_set (i := 3) scNum.nd rfl (.inl rfl) (pe_op op_fdiv (pv 3) pe_int))))))))
          (pss_one (ps_for PassesOwn.never rfl (pi_range1 (by rfl) T.range (pa_cons pe_int pa_nil)) (pg_name (i := 4) scNum.nd rfl (.inl rfl))
            (pss_cons (ps_set (i := 5) scNum.nd rfl (.inl rfl) (pe_op op_mod (pe_callTy call_int1 (by rfl) T.int PyProof.Rows.boot_int (pa_cons (pe_op op_add (pe_op op_add (pe_op op_mul (pv 2) pe_int) (pe_op op_mul (pv 4) pe_int)) pe_int) pa_nil)) pe_int))
            (pss_one (ps_expr (pe_bm PySem.F.plainAttrs_list PySem.F.slot_list_append PySem.F.type_list_append mt_append (pv 1) (pa_cons (pe_op op_mod (pe_callTy call_int1 (by rfl) T.int PyProof.Rows.boot_int (pa_cons (pe_op op_add (pe_op op_mul (pv 5) pe_int) (pv 4)) pa_nil)) pe_int) pa_nil))))))))))
      (pss_cons (ps_if (pt_cmpR op_eq (pe_callB call_len_seq (by rfl) T.len PySem.boot_len (pa_cons (pv 1) pa_nil)) pe_int (nomark _))
        (pss_one (ps_expr (pe_bm PySem.F.plainAttrs_list PySem.F.slot_list_append PySem.F.type_list_append mt_append (pv 1) (pa_cons pe_int pa_nil)))) pss_nil)
      (pss_one (ps_ret (pv 1))))), ?_⟩
    refine ⟨(by decide), fun p hp => ?_⟩
    have s1 : Same H (upd H p (.lst [])) := fun b o e => by rw [upd_ne (ne_of_none e hp)]; exact e
    refine ⟨_, rfl, _, rfl, a, _, rfl, s1.seq hS, fun q hq => ?_⟩
    obtain ⟨ms, em, hms⟩ := cut_ints ns none (some 63)
    rw [em]
    have hqp : q ≠ p := fun z => by
      rw [z, upd_same] at hq
      cases hq
    have hq0 : H q = none := by rw [upd_ne hqp] at hq; exact hq
    have S0 : NumSt a p q H ms 0 [] (upd (upd H p (.lst [])) q (.lst (ms.map V.int))) := ⟨by rw [upd_ne (Ne.symm hqp), upd_same]; rfl, upd_same, fun b o e => by rw [upd_ne (ne_of_none e hq0), upd_ne (ne_of_none e hp)]; exact e, Nat.le_refl _⟩
    refine ⟨q, rfl, ⟨_, SqL.of S0.q⟩, for_list (K := K) (a := q) (xs := ms.map V.int) (fun i σ H2 => ∃ (row : List Int) (c l k m : Option V), σ = [some (.ref a), some (.ref p), c, l, k, m] ∧ NumSt a p q H ms (60 * i) row H2)
      ⟨[], none, none, none, none, rfl, S0⟩ (fun i σ H2 _ ⟨_, _, _, _, _, _, h2⟩ => SqL.of h2.q) ?_ ?_⟩
    · rintro i y σ H2 hi ⟨row, c, l, kk, m, rfl, h2⟩
      have hil : i < ms.length := by
        have := (List.getElem?_eq_some_iff.mp hi).1
        simpa using this
      obtain ⟨z, rfl⟩ : ∃ z, y = V.int z := by
        rw [List.getElem?_map] at hi
        cases e : ms[i]? with
        | none => rw [e] at hi; cases hi
        | some z => rw [e] at hi; exact ⟨z, (Option.some.inj hi).symm⟩
      refine ⟨_, rfl, _, _, rfl, rfl, ⟨by decide, by decide, by decide⟩, _, _, rfl, rfl, _, rfl, ?_⟩
      refine ite2 (fun _ => ?_) (fun _ => ?_)
      · refine ⟨_, rfl, 60, rfl, by decide, by decide, for_range (n := 60) (fun j σ H3 => ∃ (row : List Int) (c k m : Option V) (l : Int), σ = [some (.ref a), some (.ref p), c, some (.int l), k, m] ∧ NumSt a p q H ms (60 * i + j) row H3)
          ⟨row, _, _, _, z, rfl, h2⟩ ?_ ?_⟩
        · rintro j σ H3 hj ⟨row, c, k3, m3, l3, rfl, h3⟩
          refine ⟨_, rfl, rfl, _, rfl, ?_⟩
          refine ite2 (fun _ => ?_) (fun _ => ?_)
          · exact ⟨row, _, _, _, _, rfl, h3.mono (by omega)⟩
          · refine ⟨_, rfl, .inl ⟨rfl, _, SqL.of h3.rw⟩, _, rfl, .inl ⟨_, rfl, _, _, rfl, rfl, (by show (0 : Int) < 997; decide), p, _, _, rfl, rfl, h3.rw, ?_, ?_⟩⟩
            · have := h3.ln
              rw [List.length_map]
              exact Nat.lt_of_le_of_lt (by omega : _ ≤ 4000) (by decide)
            · exact ⟨_, rfl, _, _, rfl, rfl, ⟨by decide, by decide⟩, row ++ [_], _, _, _, _, rfl, h3.app hp hqp _⟩
        · rintro σ H3 ⟨row, c, k3, m3, l3, rfl, h3⟩
          exact ⟨row, _, _, _, _, rfl, h3.mono (by omega)⟩
      · refine ⟨4, rfl, by decide, by decide, for_range (n := 4) (fun j σ H3 => ∃ (row : List Int) (l k m : Option V), σ = [some (.ref a), some (.ref p), some (.int z), l, k, m] ∧ NumSt a p q H ms (60 * i + j) row H3)
          ⟨row, _, _, _, rfl, h2⟩ ?_ ?_⟩
        · rintro j σ H3 hj ⟨row, l3, k3, m3, rfl, h3⟩
          refine ⟨_, rfl, _, _, rfl, rfl, .inr ⟨by decide, by decide⟩, _, rfl, _, _, rfl, rfl, .inr ⟨by decide, by decide⟩, _, _, rfl, rfl, _, _, rfl, rfl, .inl ⟨_, rfl, _, _, rfl, rfl, (by show (0 : Int) < 2147483647; decide), ?_⟩⟩
          refine ⟨_, rfl, .inl ⟨rfl, _, SqL.of h3.rw⟩, _, rfl, _, _, rfl, rfl, .inr ⟨by decide, by decide⟩, _, rfl, _, _, rfl, rfl, .inl ⟨_, rfl, _, _, rfl, rfl, (by show (0 : Int) < 2147483629; decide), p, _, _, rfl, rfl, h3.rw, ?_, ?_⟩⟩
          · have := h3.ln
            rw [List.length_map]
            exact Nat.lt_of_le_of_lt (by omega : _ ≤ 4000) (by decide)
          · exact ⟨row ++ [_], _, _, _, rfl, h3.app hp hqp _⟩
        · rintro σ H3 ⟨row, l3, k3, m3, rfl, h3⟩
          exact ⟨row, _, _, _, _, rfl, h3.mono (by omega)⟩
    · rintro σ H2 ⟨row, c, l, kk, m, rfl, h2⟩
      refine ⟨_, rfl, p, _, rfl, .inl (SqL.of h2.rw), rfl, _, rfl, ?_⟩
      refine ite2 (fun c0 => ?_) (fun c0 => ?_)
      · refine ⟨_, rfl, .inl ⟨rfl, _, SqL.of h2.rw⟩, p, _, _, rfl, rfl, h2.rw, ?_, ?_⟩
        · have := h2.ln
          rw [List.length_map]
          exact Nat.lt_of_le_of_lt (Nat.le_trans this (by omega : 60 * (ms.map V.int).length ≤ 60 * (ms.map V.int).length)) (by
            rw [List.length_map]
            exact Nat.lt_of_le_of_lt (by omega : 60 * ms.length ≤ 4000) (by decide))
        · exact ⟨_, rfl, k p (row ++ [0]) _ (h2.app hp hqp 0).sm hp (h2.app hp hqp 0).rw (by rw [List.length_append]; exact Nat.succ_pos _)⟩
      · have hr0 : 0 < row.length := by
          rcases Nat.eq_zero_or_pos row.length with e | e
          · exfalso
            apply c0
            rw [List.length_map, e]
            decide
          · exact e
        exact ⟨_, rfl, k p row _ h2.sm hp h2.rw hr0⟩
end
end Kl

namespace Kl
open PySem L2 Kd
/-! the draws' frame: the row of numbers at a, the place at b; all else stands -/
structure Sp0 (K : PySem.W.Frag) (a b : Addr) (ns : List Int) (H : Hp) : Prop where
  nums : Ints K H a ns
  pos : 0 < ns.length
  ne : a ≠ b
  cell : ∃ i : Int, 0 ≤ i ∧ H b = some (.lst [.int i])
structure Go (b : Addr) (H H' : Hp) : Prop where
  keep : ∀ c o, c ≠ b → H c = some o → H' c = some o
  cell : ∃ i : Int, 0 ≤ i ∧ H' b = some (.lst [.int i])
theorem Go.refl {b : Addr} {H : Hp} (h : ∃ i : Int, 0 ≤ i ∧ H b = some (.lst [.int i])) : Go b H H := ⟨fun _ _ _ e => e, h⟩
theorem Sp0.refl {K : PySem.W.Frag} {a b : Addr} {ns : List Int} {H : Hp} (s : Sp0 K a b ns H) : Go b H H := Go.refl s.cell
theorem Go.trans {b : Addr} {H H1 H2 : Hp} (g : Go b H H1) (k : Go b H1 H2) : Go b H H2 := ⟨fun c o n e => k.keep c o n (g.keep c o n e), k.cell⟩
theorem Go.free {b : Addr} {H H1 : Hp} {p : Addr} (g : Go b H H1) (h : H1 p = none) : H p = none := by
  cases e : H p with
  | none => rfl
  | some o =>
    by_cases n : p = b
    · obtain ⟨i, _, q⟩ := g.cell
      rw [n, q] at h
      cases h
    · rw [g.keep p o n e] at h
      cases h
theorem Go.new {b : Addr} {H H1 : Hp} {p : Addr} {o : HO} (g : Go b H H1) (h : H1 p = none) : Go b H (upd H1 p o) := by
  obtain ⟨i, hi, q⟩ := g.cell
  exact ⟨fun c u n e => by rw [upd_ne (ne_of_none (g.keep c u n e) h)]; exact g.keep c u n e, i, hi, by rw [upd_ne (ne_of_none q h)]; exact q⟩
/-- what is new may change -/
theorem Go.mut {b : Addr} {H H1 : Hp} {p : Addr} {o : HO} (g : Go b H H1) (h : H p = none) (n : b ≠ p) : Go b H (upd H1 p o) := by
  obtain ⟨i, hi, q⟩ := g.cell
  exact ⟨fun c u m e => by rw [upd_ne (ne_of_none e h)]; exact g.keep c u m e, i, hi, by rw [upd_ne n]; exact q⟩
theorem Go.tk {b : Addr} {H H1 : Hp} (g : Go b H H1) (h : ∃ i : Int, 0 ≤ i ∧ H b = some (.lst [.int i])) : Tk H H1 := fun c xs e => by
  obtain ⟨i, _, q⟩ := h
  exact e.imp (fun e => g.keep c _ (fun z => by rw [z, q] at e; cases e) e) fun ⟨o, e⟩ => ⟨o, g.keep c _ (fun z => by rw [z, q] at e; cases e) e⟩
theorem Sp0.go {K : PySem.W.Frag} {a b : Addr} {ns : List Int} {H H' : Hp} (s : Sp0 K a b ns H) (g : Go b H H') : Sp0 K a b ns H' := by
  refine ⟨?_, s.pos, s.ne, g.cell⟩
  rcases s.nums with (h | ⟨o, h⟩) | h
  · exact .inl (.inl (g.keep _ _ s.ne h))
  · exact .inl (.inr ⟨o, g.keep _ _ s.ne h⟩)
  · exact .inr h
theorem none_of {H H' : Hp} {a : Addr} (s : Same H H') (h : H' a = none) : H a = none := by
  cases e : H a with
  | none => rfl
  | some o =>
    rw [s _ _ e] at h
    cases h
/-- a list of texts at p -/
abbrev Strs (H : Hp) (p : Addr) (xs : List Str) : Prop := H p = some (.lst (xs.map V.str))
theorem Strs.ne {H : Hp} {p b : Addr} {xs : List Str} (h : Strs H p xs) (c : ∃ i : Int, 0 ≤ i ∧ H b = some (.lst [.int i])) : p ≠ b := fun z => by
  obtain ⟨i, _, q⟩ := c
  unfold Strs at h
  rw [z, q] at h
  cases xs with
  | nil => simp at h
  | cons x r => simp at h
theorem Strs.go {H H' : Hp} {p b : Addr} {xs : List Str} (h : Strs H p xs) (c : ∃ i : Int, 0 ≤ i ∧ H b = some (.lst [.int i])) (g : Go b H H') : Strs H' p xs := g.keep _ _ (h.ne c) h
theorem strs_at {xs : List Str} {d : Int} (h0 : 0 ≤ d) (h1 : d < (xs.length : Int)) : ∃ x ∈ xs, atI (xs.map V.str) d = some (V.str x) := by
  have hl : d.toNat < xs.length := by omega
  refine ⟨xs[d.toNat], List.getElem_mem hl, at_of (j := d.toNat) (by omega) ?_⟩
  rw [List.getElem?_map, List.getElem?_eq_getElem hl]
  rfl
theorem small_of {n : Nat} (h : n ≤ 100000) : n ≤ sizeLine := Nat.le_trans h (by decide)
theorem small_lt {n : Nat} (h : n < 100000) : n < sizeLine := Nat.lt_of_lt_of_le h (by decide)
/-- a display of written texts -/
def strsOf : List Expr → Option (List Str)
  | [] => some []
  | .Constant (.str x) _ _ :: r => (strsOf r).map (x :: ·)
  | _ => none
def tStrs (xs : List Str) : TA := fun _ H Q => Q (xs.map V.str) H
theorem pa_strs {X : Cx} : ∀ {es : List Expr} {xs : List Str}, strsOf es = some xs → PA X es (tStrs xs)
  | [], xs, h => by
    obtain rfl : [] = xs := Option.some.inj h
    exact pa_nil
  | .Constant (.str x) j p :: r, xs, h => by
    simp only [strsOf, Option.map_eq_some_iff] at h
    obtain ⟨ys, hy, rfl⟩ := h
    exact pa_cons pe_str (pa_strs hy)
/-- take, once more -/
def spTk (K : PySem.W.Frag) : Sp := fun vs H Q _ => ∃ (a b : Addr) (ns : List Int) (m : Int), vs = [.ref a, .ref b, .int m] ∧ Sp0 K a b ns H ∧ 0 < m ∧ ∀ (d : Int) (H' : Hp), Go b H H' → 0 ≤ d → d < m → Q (.int d) H'
section
variable {P : Program} {w : World} {K : PySem.W.Frag} {mg : Str → Option Value} {base : Heap}
theorem cal_of {k : Nat} {x : Str} {st : Stmt} {ps : List Str} {f : Addr} {fd : FuncData} {sp : Sp} (A : At K mg x st ps f fd) (G : FnOk P w K mg base CX0 k f fd ps sp) : C8.Cal P w K mg base k x sp [] :=
  ⟨f, fd, ps, [], G, A.mf, A.fn.kp, A.bd, .nil⟩
theorem take_tk {k : Nat} {f : Addr} {fd : FuncData} {ps : List Str} (G : FnOk P w K mg base CX0 k f fd ps (spTake K)) : FnOk P w K mg base CX0 k f fd ps (spTk K) := G.imp fun vs H Q E h => by
  obtain ⟨a, b, ns, m, rfl, s, hm, k⟩ := h
  obtain ⟨i, hi, hb⟩ := s.cell
  exact ⟨a, b, ns, i, m, rfl, s.ne, s.nums, hb, s.pos, hi, hm, fun d h0 h1 => k d _ ⟨fun c o n e => by rw [upd_ne n]; exact e, i + 1, by omega, upd_same⟩ h0 h1⟩
end
end Kl

namespace Kl
open PySem L2 Kd
abbrev lawTexts : List Str := ["a", "bb", "run", "zzz", "Mix", "x y", "", "one\ntwo", "end\n"]
def spText (K : PySem.W.Frag) : Sp := fun vs H Q _ => ∃ (a b : Addr) (ns : List Int), vs = [.ref a, .ref b] ∧ Sp0 K a b ns H ∧ ∀ (x : Str) (H' : Hp), Go b H H' → x ∈ lawTexts → Q (.str x) H'
abbrev lawPaths : List Str := ["app/main", "app/side", "app/sub/deep", "doc/note", "app/none", "app", "doc", "app/sub"]
/-- the expressions that the law draws -/
inductive LawEx (ts : List Str) : Nat → List Str → Prop
  | path {n : Nat} {w x : Str} (h : w ∈ (["file", "each", "names"] : List Str)) (k : x ∈ lawPaths) : LawEx ts n [w, x]
  | pack {n : Nat} {w x : Str} (h : w ∈ (["pack", "version"] : List Str)) (k : x ∈ (["util", "core", "net"] : List Str)) : LawEx ts n [w, x]
  | set {n : Nat} {x : Str} (k : x ∈ (["color", "mode", "sizes"] : List Str)) : LawEx ts n ["set", x]
  | lit {n : Nat} {x : Str} (k : x ∈ (["a", "run", "zz", "7", "=+=", "k"] : List Str)) : LawEx ts n ["lit", x]
  | dep {n : Nat} {x : Str} (k : x ∈ ts) : LawEx ts n ["dep", x]
  | line {n : Nat} : LawEx ts n ["line"]
  | un {n : Nat} {w : Str} {e : List Str} (h : w ∈ (["up", "size", "not"] : List Str)) (k : LawEx ts n e) : LawEx ts (n + 1) (w :: e)
  | bin {n : Nat} {w : Str} {e f : List Str} (h : w ∈ (["cat", "has", "same"] : List Str)) (k : LawEx ts n e) (l : LawEx ts n f) : LawEx ts (n + 1) (w :: (e ++ f))
  | tri {n : Nat} {e f g : List Str} (k : LawEx ts n e) (l : LawEx ts n f) (m : LawEx ts n g) : LawEx ts (n + 1) ("if" :: (e ++ f ++ g))
/-- expressions of depth up to n - 1 -/
def spEx (K : PySem.W.Frag) (n : Nat) : Sp := fun vs H Q _ => ∃ (a b t : Addr) (ns : List Int) (ts : List Str) (d : Nat), vs = [.ref a, .ref b, .ref t, .int (d : Int)] ∧ Sp0 K a b ns H ∧ Strs H t ts ∧ ts.length ≤ 1000 ∧ d < n ∧
  ∀ (p : Addr) (xs : List Str) (H' : Hp), Go b H H' → H p = none → Strs H' p xs → LawEx ts d xs → Q (.ref p) H'
def exB : Nat → Nat
  | 0 => 2
  | n + 1 => 1 + 3 * exB n
theorem exB_two : ∀ n : Nat, 2 ≤ exB n
  | 0 => Nat.le_refl _
  | n + 1 => by
    have := exB_two n
    simp only [exB]
    omega
theorem exB_mono {m : Nat} : ∀ {n : Nat}, m ≤ n → exB m ≤ exB n
  | 0, h => by
    obtain rfl : m = 0 := by omega
    exact Nat.le_refl _
  | n + 1, h => by
    by_cases e : m = n + 1
    · subst e
      exact Nat.le_refl _
    · have := exB_mono (m := m) (n := n) (by omega)
      simp only [exB]
      omega
theorem LawEx.small {ts : List Str} {n : Nat} {e : List Str} (h : LawEx ts n e) : e.length ≤ exB n := by
  induction h with
  | path => exact exB_two _
  | pack => exact exB_two _
  | set => exact exB_two _
  | lit => exact exB_two _
  | dep => exact exB_two _
  | line => exact Nat.le_trans (by decide) (exB_two _)
  | un h k ih =>
    simp only [exB, List.length_cons]
    omega
  | bin h k l i1 i2 =>
    simp only [exB, List.length_cons, List.length_append]
    omega
  | tri k l m i1 i2 i3 =>
    simp only [exB, List.length_cons, List.length_append]
    omega
section
variable {P : Program} {w : World} {K : PySem.W.Frag} {mg : Str → Option Value} {base : Heap}
abbrev s_l_text : Stmt := topS 52
theorem sc_l_text : FnScope ["row", "spot"] ["row", "spot"] (defScope s_l_text) := ⟨rfl, rfl, rfl, by decide +kernel, rfl, by decide +kernel, by decide +kernel⟩
theorem ok_text {f : Addr} {fd : FuncData} (F : Fun K "_law_text" "_law_text" s_l_text f fd) (c_l_take : C8.Cal P w K mg base 2 "_law_take" (spTk K) []) : FnOk P w K mg base CX0 3 f fd ["row", "spot"] (spText K) := by
  refine F.ok sc_l_text (fun vs H Q E h => ?_) (fun cdv A outer s H vs Q E hr h => ?_)
  · obtain ⟨a, b, ns, rfl, _⟩ := h
    rfl
  · obtain ⟨a, b, ns, rfl, S, k⟩ := h
    refine ⟨_, (pss_one (ps_ret (pe_ix ix_list (pe_lst (pa_strs rfl)) (C8.pe_c c_l_take hr (by omega) (by rfl) (pa_cons (pv 0) (pa_cons (pv 1) (pa_cons pe_int pa_nil)))) (fun _ _ => rfl)))), ?_⟩
    refine ⟨(by show 9 ≤ sizeLine; decide), fun l hl => ?_⟩
    have S1 := S.go (S.refl.new (o := .lst (lawTexts.map V.str)) hl)
    refine ⟨_, rfl, _, rfl, a, b, ns, 9, rfl, S1, by decide, fun d H' g h0 h1 => ?_⟩
    have hs : Strs H' l lawTexts := Strs.go (H := upd H l (.lst (lawTexts.map V.str))) upd_same S1.cell g
    obtain ⟨x, hx, e⟩ := strs_at (xs := lawTexts) h0 h1
    exact ⟨l, _, d, _, rfl, rfl, SqL.of hs, e, k x H' ((S.refl.new hl).trans g) hx⟩
abbrev s_l_expression : Stmt := topS 53
theorem sc_l_expression : FnScope ["row", "spot", "targets", "deep", "style", "word", "made"] ["row", "spot", "targets", "deep"] (defScope s_l_expression) := ⟨rfl, rfl, rfl, by decide +kernel, rfl, by decide +kernel, by decide +kernel⟩
/-- an item of a written list of texts, drawn -/
theorem pick_ok {K : PySem.W.Frag} {a b : Addr} {ns : List Int} {m : List Str} {σ : L2.St} {H : Hp} {Q : VK} {n : Int} (h0 : σ[0]? = some (some (.ref a))) (h1 : σ[1]? = some (some (.ref b))) (S : Sp0 K a b ns H) (hn : n = (m.length : Int)) (hm : 0 < m.length ∧ m.length ≤ 1000)
    (q : ∀ (x : Str) (H2 : Hp), Go b H H2 → x ∈ m → Q (.str x) H2) : tOp (rIxL K) (tLst (tStrs m)) (tCall (spTk K) [] E0 (tCons (tVar 0) (tCons (tVar 1) (tCons (tC (.int n)) tNil)))) σ H Q := by
  subst hn
  refine ⟨by rw [List.length_map]; exact small_of (by omega), fun l hl => ⟨_, h0, _, h1, a, b, ns, m.length, rfl, S.go (S.refl.new hl), by omega, fun d H' g2 l0 l1 => ?_⟩⟩
  have g1 := S.refl.new (o := .lst (m.map V.str)) hl
  have hs : Strs H' l m := Strs.go (H := upd H l (.lst (m.map V.str))) upd_same g1.cell g2
  obtain ⟨x, hx, e⟩ := strs_at (xs := m) l0 l1
  exact ⟨l, _, d, _, rfl, rfl, SqL.of hs, e, q x H' (g1.trans g2) hx⟩
/-- .. of a list that stands -/
theorem pick_of {K : PySem.W.Frag} {a b t : Addr} {ns : List Int} {m : List Str} {σ : L2.St} {H : Hp} {Q : VK} {ta tn : TE} (h0 : σ[0]? = some (some (.ref a))) (h1 : σ[1]? = some (some (.ref b))) (S : Sp0 K a b ns H) (ht : Strs H t m) (hm : 0 < m.length)
    (et : ∀ Q1 : VK, Q1 (.ref t) H → ta σ H Q1) (en : ∀ Q1 : VK, Q1 (.int (m.length : Int)) H → tn σ H Q1)
    (q : ∀ (x : Str) (H2 : Hp), Go b H H2 → x ∈ m → Q (.str x) H2) : tOp (rIxL K) ta (tCall (spTk K) [] E0 (tCons (tVar 0) (tCons (tVar 1) (tCons tn tNil)))) σ H Q := by
  refine et _ ⟨_, h0, _, h1, en _ ⟨a, b, ns, m.length, rfl, S, by omega, fun d H' g2 l0 l1 => ?_⟩⟩
  obtain ⟨x, hx, e⟩ := strs_at (xs := m) l0 l1
  exact ⟨t, _, d, _, rfl, rfl, SqL.of (ht.go S.cell g2), e, q x H' g2 hx⟩
/-- a call of itself, one lower -/
theorem again_ok {K : PySem.W.Frag} {n : Nat} {a b t : Addr} {ns : List Int} {ts : List Str} {d : Nat} {σ : L2.St} {H : Hp} {Q : VK} (h0 : σ[0]? = some (some (.ref a))) (h1 : σ[1]? = some (some (.ref b))) (h2 : σ[2]? = some (some (.ref t))) (h3 : σ[3]? = some (some (.int ((d + 1 : Nat) : Int))))
    (S : Sp0 K a b ns H) (ht : Strs H t ts) (hz : ts.length ≤ 1000) (hd : d < n)
    (q : ∀ (p : Addr) (xs : List Str) (H' : Hp), Go b H H' → H p = none → Strs H' p xs → LawEx ts d xs → Q (.ref p) H') :
    tCall (spEx K n) [] C8.E0 (tCons (tVar 0) (tCons (tVar 1) (tCons (tVar 2) (tCons (tOp (rI0 fun i j => V.int (i - j)) (tVar 3) (tC (V.int 1))) tNil)))) σ H Q := by
  refine ⟨_, h0, _, h1, _, h2, _, h3, _, _, rfl, rfl, a, b, t, ns, ts, d, ?_, S, ht, hz, hd, q⟩
  show [V.ref a, V.ref b, V.ref t, V.int (((d + 1 : Nat) : Int) - 1)] = _
  rw [show ((d + 1 : Nat) : Int) - 1 = (d : Int) by omega]
theorem cat_ok {b p q : Addr} {xs ys : List Str} {H : Hp} {Q : VK} (c : ∃ i : Int, 0 ≤ i ∧ H b = some (.lst [.int i])) (hp : Strs H p xs) (hq : Strs H q ys) (hz : xs.length + ys.length ≤ 100000)
    (k : ∀ (r : Addr) (H' : Hp), Go b H H' → H r = none → Strs H' r (xs ++ ys) → Q (.ref r) H') : rCat (.ref p) (.ref q) H Q :=
  ⟨p, q, _, _, rfl, rfl, hp, hq, by rw [List.length_map, List.length_map]; exact small_of hz, fun r hr => k r _ ((Go.refl c).new hr) hr (by unfold Strs; rw [upd_same, List.map_append])⟩
theorem mem_sub {m m' : List Str} (h : ∀ y ∈ m, y ∈ m') {x : Str} (hx : x ∈ m) : x ∈ m' := h x hx
theorem lt_cases {d : Int} {n : Nat} (h0 : 0 ≤ d) (h1 : d < (n : Int)) : ∃ i : Nat, i < n ∧ d = (i : Int) := ⟨d.toNat, by omega, by omega⟩
theorem ok_ex {f : Addr} {fd : FuncData} (A : At K mg "_law_expression" s_l_expression ["row", "spot", "targets", "deep"] f fd) (T : Glo mg) (c_l_take : C8.Cal P w K mg base 2 "_law_take" (spTk K) []) :
    ∀ n : Nat, n ≤ 10 → FnOk P w K mg base CX0 (n + 3) f fd ["row", "spot", "targets", "deep"] (spEx K n)
  | 0, _ => ⟨fun vs H Q E ⟨a, b, t, ns, ts, d, e, _⟩ => by subst e; rfl, fun A outer s H args us vs Q E hr he hb hv ⟨a, b, t, ns, ts, d, e, _, _, _, z, _⟩ => absurd z (Nat.not_lt_zero _)⟩
  | n + 1, hn => by
    have c_l_expression : C8.Cal P w K mg base (n + 3) "_law_expression" (spEx K n) [] := cal_of A (ok_ex A T c_l_take n (by omega))
    refine A.fn.ok sc_l_expression (fun vs H Q E h => ?_) (fun cdv A outer s H vs Q E hr h => ?_)
    · obtain ⟨a, b, t, ns, ts, d, rfl, _⟩ := h
      rfl
    · obtain ⟨a, b, t, ns, ts, d, rfl, S, ht, hz, hd, k⟩ := h
      refine ⟨_, (pss_cons (ps_set (i := 4) sc_l_expression.nd rfl (.inl rfl) (C8.pe_c c_l_take hr (by omega) (by rfl) (pa_cons (pv 0) (pa_cons (pv 1) (pa_cons (pe_ifExp (pt_cmpR op_gt (pv 3) pe_int (nomark _)) pe_int pe_int) pa_nil)))))
        (pss_cons (ps_if (pt_cmpR op_in_seq (pv 4) (pe_lst (pa_cons pe_int (pa_cons pe_int pa_nil))) (by rfl))
        (pss_one (ps_ret (pe_lst (pa_cons pe_str (pa_cons (pe_ix ix_list (pe_lst (pa_strs rfl)) (C8.pe_c c_l_take hr (by omega) (by rfl) (pa_cons (pv 0) (pa_cons (pv 1) (pa_cons pe_int pa_nil)))) (fun _ _ => rfl)) pa_nil)))))
        pss_nil)
        (pss_cons (ps_if (pt_cmpR op_eq (pv 4) pe_int (nomark _))
        (pss_one (ps_ret (pe_lst (pa_cons (pe_ix ix_list (pe_lst (pa_strs rfl)) (C8.pe_c c_l_take hr (by omega) (by rfl) (pa_cons (pv 0) (pa_cons (pv 1) (pa_cons pe_int pa_nil)))) (fun _ _ => rfl)) (pa_cons (pe_ix ix_list (pe_lst (pa_strs rfl)) (C8.pe_c c_l_take hr (by omega) (by rfl) (pa_cons (pv 0) (pa_cons (pv 1) (pa_cons pe_int pa_nil)))) (fun _ _ => rfl)) pa_nil)))))
        pss_nil)
        (pss_cons (ps_if (pt_cmpR op_eq (pv 4) pe_int (nomark _))
        (pss_one (ps_ret (pe_lst (pa_cons (pe_ix ix_list (pe_lst (pa_strs rfl)) (C8.pe_c c_l_take hr (by omega) (by rfl) (pa_cons (pv 0) (pa_cons (pv 1) (pa_cons pe_int pa_nil)))) (fun _ _ => rfl)) (pa_cons (pe_ix ix_list (pe_lst (pa_strs rfl)) (C8.pe_c c_l_take hr (by omega) (by rfl) (pa_cons (pv 0) (pa_cons (pv 1) (pa_cons pe_int pa_nil)))) (fun _ _ => rfl)) pa_nil)))))
        pss_nil)
        (pss_cons (ps_if (pt_cmpR op_eq (pv 4) pe_int (nomark _))
        (pss_one (ps_ret (pe_lst (pa_cons pe_str (pa_cons (pe_ix ix_list (pe_lst (pa_strs rfl)) (C8.pe_c c_l_take hr (by omega) (by rfl) (pa_cons (pv 0) (pa_cons (pv 1) (pa_cons pe_int pa_nil)))) (fun _ _ => rfl)) pa_nil)))))
        pss_nil)
        (pss_cons (ps_if (pt_cmpR op_eq (pv 4) pe_int (nomark _))
        (pss_one (ps_ret (pe_lst (pa_cons pe_str (pa_cons (pe_ix ix_list (pe_lst (pa_strs rfl)) (C8.pe_c c_l_take hr (by omega) (by rfl) (pa_cons (pv 0) (pa_cons (pv 1) (pa_cons pe_int pa_nil)))) (fun _ _ => rfl)) pa_nil)))))
        pss_nil)
        (C8.pss_cut (ps_if (PW.pt (pw_and (pt_cmpR op_in_seq (pv 4) (pe_lst (pa_cons pe_int (pa_cons pe_int pa_nil))) (by rfl)) (pw_and1 (pt_cmpR op_gt (pe_callB call_len_seq (by rfl) T.len PySem.boot_len (pa_cons (pv 2) pa_nil)) pe_int (nomark _)))))
        (pss_one (ps_ret (pe_lst (pa_cons pe_str (pa_cons (pe_ix ix_list (pv 2) (C8.pe_c c_l_take hr (by omega) (by rfl) (pa_cons (pv 0) (pa_cons (pv 1) (pa_cons (pe_callB call_len_seq (by rfl) T.len PySem.boot_len (pa_cons (pv 2) pa_nil)) pa_nil)))) (fun _ _ => rfl)) pa_nil)))))
        pss_nil)
        (pss_cons (ps_if (pt_cmpR op_le (pv 4) pe_int (nomark _))
        (pss_one (ps_ret (pe_ifExp (pt_cmpR op_eq (C8.pe_c c_l_take hr (by omega) (by rfl) (pa_cons (pv 0) (pa_cons (pv 1) (pa_cons pe_int pa_nil)))) pe_int (nomark _)) (pe_lst (pa_strs rfl)) (pe_lst (pa_strs rfl)))))
        pss_nil)
        (pss_cons (ps_if (pt_cmpR op_eq (pv 4) pe_int (nomark _))
        (pss_one (ps_ret (pe_op op_cat (pe_lst (pa_cons (pe_ix ix_list (pe_lst (pa_strs rfl)) (C8.pe_c c_l_take hr (by omega) (by rfl) (pa_cons (pv 0) (pa_cons (pv 1) (pa_cons pe_int pa_nil)))) (fun _ _ => rfl)) pa_nil)) (C8.pe_c c_l_expression hr (by omega) (by rfl) (pa_cons (pv 0) (pa_cons (pv 1) (pa_cons (pv 2) (pa_cons (pe_op op_sub (pv 3) pe_int) pa_nil))))))))
        pss_nil)
        (pss_cons (ps_set (i := 5) sc_l_expression.nd rfl (.inl rfl) (pe_ix ix_list (pe_lst (pa_strs rfl)) (pe_op op_sub (pv 4) pe_int) (fun _ _ => rfl)))
        (pss_cons (ps_set (i := 6) sc_l_expression.nd rfl (.inl rfl) (pe_op op_cat (pe_op op_cat (pe_lst (pa_cons (pv 5) pa_nil)) (C8.pe_c c_l_expression hr (by omega) (by rfl) (pa_cons (pv 0) (pa_cons (pv 1) (pa_cons (pv 2) (pa_cons (pe_op op_sub (pv 3) pe_int) pa_nil)))))) (C8.pe_c c_l_expression hr (by omega) (by rfl) (pa_cons (pv 0) (pa_cons (pv 1) (pa_cons (pv 2) (pa_cons (pe_op op_sub (pv 3) pe_int) pa_nil)))))))
        (pss_one (ps_ret (pe_ifExp (pt_cmpR op_eq (pv 5) pe_str (nomark _)) (pe_op op_cat (pv 6) (C8.pe_c c_l_expression hr (by omega) (by rfl) (pa_cons (pv 0) (pa_cons (pv 1) (pa_cons (pv 2) (pa_cons (pe_op op_sub (pv 3) pe_int) pa_nil)))))) (pv 6))))))))))))))), ?_⟩
      refine ⟨_, rfl, _, rfl, _, rfl, _, _, rfl, rfl, _, rfl, ?_⟩
      refine ite2 (fun c => ?_) (fun c => ?_)
      all_goals
        refine ⟨a, b, ns, _, rfl, S, by decide, fun st H1 g1 h0 h1 => ?_⟩
        have h16 : st < 16 := by omega
        have h9 : 9 ≤ st → 0 < d := by
          have c' := c
          simp at c'
          omega
        refine ⟨_, rfl, (by show 2 ≤ sizeLine; decide), fun l hl => ?_⟩
        have g2 := g1.new (o := .lst [.int 0, .int 1]) hl
        have S2 := S.go g2
        have t2 := ht.go S.cell g2
        refine ⟨l, _, rfl, .inl (SqL.of upd_same), rfl, rfl, _, rfl, ?_⟩
        refine ite2 (fun _ => ?_) (fun _ => ?_)
        · refine pick_ok (m := ["app/main", "app/side", "app/sub/deep", "doc/note", "app/none"]) rfl rfl S2 rfl (by decide) fun x H3 g3 hx => ?_
          have g4 := g2.trans g3
          exact ⟨(by show 2 ≤ sizeLine; decide), fun p hp => k p ["file", x] _ (g4.new hp) (g4.free hp) upd_same (.path (by decide) (mem_sub (by decide) hx))⟩
        refine ⟨_, rfl, rfl, _, rfl, ite2 (fun _ => ?_) (fun _ => ?_)⟩
        · refine pick_ok (m := ["each", "names"]) rfl rfl S2 rfl (by decide) fun w0 H3 g3 hw => ?_
          refine pick_ok (m := ["app", "doc", "app/sub"]) rfl rfl (S2.go g3) rfl (by decide) fun x H4 g4 hx => ?_
          have g5 := (g2.trans g3).trans g4
          exact ⟨(by show 2 ≤ sizeLine; decide), fun p hp => k p [w0, x] _ (g5.new hp) (g5.free hp) upd_same (.path (mem_sub (by decide) hw) (mem_sub (by decide) hx))⟩
        refine ⟨_, rfl, rfl, _, rfl, ite2 (fun _ => ?_) (fun _ => ?_)⟩
        · refine pick_ok (m := ["pack", "version"]) rfl rfl S2 rfl (by decide) fun w0 H3 g3 hw => ?_
          refine pick_ok (m := ["util", "core", "net"]) rfl rfl (S2.go g3) rfl (by decide) fun x H4 g4 hx => ?_
          have g5 := (g2.trans g3).trans g4
          exact ⟨(by show 2 ≤ sizeLine; decide), fun p hp => k p [w0, x] _ (g5.new hp) (g5.free hp) upd_same (.pack hw hx)⟩
        refine ⟨_, rfl, rfl, _, rfl, ite2 (fun _ => ?_) (fun _ => ?_)⟩
        · refine pick_ok (m := ["color", "mode", "sizes"]) rfl rfl S2 rfl (by decide) fun x H3 g3 hx => ?_
          have g4 := g2.trans g3
          exact ⟨(by show 2 ≤ sizeLine; decide), fun p hp => k p ["set", x] _ (g4.new hp) (g4.free hp) upd_same (.set hx)⟩
        refine ⟨_, rfl, rfl, _, rfl, ite2 (fun _ => ?_) (fun _ => ?_)⟩
        · refine pick_ok (m := ["a", "run", "zz", "7", "=+="]) rfl rfl S2 rfl (by decide) fun x H3 g3 hx => ?_
          have g4 := g2.trans g3
          exact ⟨(by show 2 ≤ sizeLine; decide), fun p hp => k p ["lit", x] _ (g4.new hp) (g4.free hp) upd_same (.lit (mem_sub (by decide) hx))⟩
        -- if style in [6, 7] and len(targets) > 0
        refine ⟨fun σ' H' => σ' = [some (.ref a), some (.ref b), some (.ref t), some (.int (d : Int)), some (.int st), none, none] ∧ Go b H H', ?_, ?_⟩
        · refine ⟨_, rfl, (by show 2 ≤ sizeLine; decide), fun l2 hl2 => ?_⟩
          have g3 := g2.new (o := .lst [.int 6, .int 7]) hl2
          have t3 := ht.go S.cell g3
          refine ⟨l2, _, rfl, .inl (SqL.of upd_same), rfl, rfl, _, rfl, ?_⟩
          refine ite2 (fun _ => ?_) (fun _ => iteF ⟨rfl, g3⟩)
          refine ⟨_, rfl, t, _, rfl, .inl (SqL.of t3), _, _, rfl, rfl, _, rfl, ?_⟩
          refine ite2 (fun c3 => ?_) (fun _ => ⟨rfl, g3⟩)
          have hp3 : 0 < ts.length := by
            simp at c3
            omega
          refine pick_of rfl rfl (S.go g3) t3 hp3 (fun Q1 q1 => ⟨_, rfl, q1⟩) (fun Q1 q1 => ⟨_, rfl, t, _, rfl, .inl (SqL.of t3), by rw [List.length_map]; exact q1⟩) fun x H4 g4 hx => ?_
          have g5 := g3.trans g4
          exact ⟨(by show 2 ≤ sizeLine; decide), fun p hp => k p ["dep", x] _ (g5.new hp) (g5.free hp) upd_same (.dep hx)⟩
        rintro σ' H3 ⟨rfl, g3⟩
        have S3 := S.go g3
        refine ⟨_, rfl, _, _, rfl, rfl, _, rfl, ite2 (fun _ => ?_) (fun c8 => ?_)⟩
        · refine ⟨_, rfl, _, rfl, a, b, ns, 3, rfl, S3, by decide, fun e H4 g4 _ _ => ?_⟩
          have g5 := g3.trans g4
          refine ⟨rfl, _, rfl, ite2 (fun _ => ?_) (fun _ => ?_)⟩
          · exact ⟨(by show 1 ≤ sizeLine; decide), fun p hp => k p ["line"] _ (g5.new hp) (g5.free hp) upd_same .line⟩
          · exact ⟨(by show 2 ≤ sizeLine; decide), fun p hp => k p ["lit", "k"] _ (g5.new hp) (g5.free hp) upd_same (.lit (by decide))⟩
        have c8' : 9 ≤ st := by
          simp at c8
          omega
        obtain ⟨d', rfl⟩ : ∃ d', d = d' + 1 := ⟨d - 1, by have := h9 c8'; omega⟩
        have hd2 : d' < n := by omega
        refine ⟨_, rfl, rfl, _, rfl, ite2 (fun _ => ?_) (fun c9 => ?_)⟩
        · refine pick_ok (m := ["up", "size", "not"]) rfl rfl S3 rfl (by decide) fun w0 H4 g4 hw => ?_
          have g5 := g3.trans g4
          refine ⟨(by show 1 ≤ sizeLine; decide), fun p hp => ?_⟩
          have g6 := g5.new (o := .lst [.str w0]) hp
          have hP : Strs (upd H4 p (.lst [.str w0])) p [w0] := upd_same
          have S6 := S.go g6
          refine again_ok rfl rfl rfl rfl S6 (ht.go S.cell g6) hz hd2 fun q xs H5 g7 hq hs kx => ?_
          refine ⟨p, q, [.str w0], xs.map V.str, rfl, rfl, hP.go S6.cell g7, hs, ?_, fun r hr0 => ?_⟩
          · have := kx.small
            rw [List.length_map]
            exact small_of (Nat.le_trans (Nat.add_le_add_left this 1) (Nat.le_trans (Nat.add_le_add_left (exB_mono (show d' ≤ 9 by omega)) 1) (by decide)))
          have g8 := (g6.trans g7).new (o := .lst (([V.str w0] ++ xs.map V.str))) hr0
          exact k r (w0 :: xs) _ g8 ((g6.trans g7).free hr0) upd_same (.un hw kx)
        have c10 : 10 ≤ st := by
          simp at c9
          omega
        -- the longer ones
        refine ⟨(by show 6 ≤ sizeLine; decide), fun l3 hl3 => ?_⟩
        have g4 := g3.new (o := .lst ((["cat", "cat", "has", "same", "if", "if"] : List Str).map V.str)) hl3
        obtain ⟨x, hx, e⟩ := strs_at (xs := (["cat", "cat", "has", "same", "if", "if"] : List Str)) (d := st - 10) (by omega) (by show st - 10 < 6; omega)
        refine ⟨_, rfl, _, _, rfl, rfl, l3, _, st - 10, _, rfl, rfl, SqL.of upd_same, e, _, rfl, ?_⟩
        refine ⟨(by show 1 ≤ sizeLine; decide), fun p hp => ?_⟩
        have g5 := g4.new (o := .lst [.str x]) hp
        have hP : Strs (upd (upd H3 l3 (.lst ((["cat", "cat", "has", "same", "if", "if"] : List Str).map V.str))) p (.lst [.str x])) p [x] := upd_same
        have S5 := S.go g5
        have t5 := ht.go S.cell g5
        refine again_ok rfl rfl rfl rfl S5 t5 hz hd2 fun q1 x1 H6 g6 hq1 hs1 k1 => ?_
        have zz : ∀ {y : List Str}, LawEx ts d' y → y.length ≤ 16402 := fun ky => Nat.le_trans ky.small (Nat.le_trans (exB_mono (show d' ≤ 8 by omega)) (by decide))
        have z1 := zz k1
        have g7 := g5.trans g6
        refine cat_ok (S.go g7).cell (hP.go S5.cell g6) hs1 (by simp only [List.length_cons, List.length_nil]; omega) fun r1 H7 g8 hr1 hc1 => ?_
        have g9 := g7.trans g8
        refine again_ok rfl rfl rfl rfl (S.go g9) (ht.go S.cell g9) hz hd2 fun q2 x2 H8 g10 hq2 hs2 k2 => ?_
        have z2 := zz k2
        have g11 := g9.trans g10
        refine cat_ok (S.go g11).cell (hc1.go (S.go g9).cell g10) hs2 (by simp only [List.length_append, List.length_cons, List.length_nil]; omega) fun r2 H9 g12 hr2 hc2 => ?_
        have g13 := g11.trans g12
        refine ⟨_, rfl, rfl, _, rfl, ite2 (fun ci => ?_) (fun ci => ?_)⟩
        · refine ⟨_, rfl, ?_⟩
          refine again_ok rfl rfl rfl rfl (S.go g13) (ht.go S.cell g13) hz hd2 fun q3 x3 H10 g14 hq3 hs3 k3 => ?_
          have z3 := zz k3
          have g15 := g13.trans g14
          refine cat_ok (S.go g15).cell (hc2.go (S.go g13).cell g14) hs3 (by simp only [List.length_append, List.length_cons, List.length_nil]; omega) fun r3 H11 g16 hr3 hc3 => ?_
          refine k r3 _ _ (g15.trans g16) (g15.free hr3) hc3 ?_
          obtain rfl : x = "if" := V.str.inj (of_decide_eq_true ci)
          have := LawEx.tri k1 k2 k3
          simpa using this
        · refine ⟨_, rfl, ?_⟩
          refine k r2 _ _ g13 (g11.free hr2) hc2 ?_
          have hb : x ∈ (["cat", "has", "same"] : List Str) := by
            have ci' : x ≠ "if" := fun e => ci (decide_eq_true (congrArg V.str e))
            simp only [List.mem_cons, List.not_mem_nil, or_false] at hx ⊢
            rcases hx with h | h | h | h | h | h
            · exact .inl h
            · exact .inl h
            · exact .inr (.inl h)
            · exact .inr (.inr h)
            · exact absurd h ci'
            · exact absurd h ci'
          have := LawEx.bin hb k1 k2
          simpa using this
end
end Kl

namespace Kl
open PySem L2 Kd
/-! texts by their signs: a blank, or shown and neither '!' nor '%' -/
def okc (c : Nat) : Bool := c == 32 || (34 ≤ c && c ≤ 126 && c != 37)
structure Sg (m : Nat) (x : Str) : Prop where
  len : x.length ≤ m
  all : ∀ c ∈ x.cps.toList, okc c = true
theorem cps_cat (x y : Str) : (x ++ y).cps.toList = x.cps.toList ++ y.cps.toList := TL.tl_append x y
theorem len_tl (x : Str) : x.cps.toList.length = x.length := by simp [Str.length]
theorem len_cat (x y : Str) : (x ++ y).length = x.length + y.length := by
  rw [← len_tl, cps_cat, List.length_append, len_tl, len_tl]
theorem Sg.cat {m n : Nat} {x y : Str} (a : Sg m x) (b : Sg n y) : Sg (m + n) (x ++ y) := by
  refine ⟨?_, fun c h => ?_⟩
  · have := a.len
    have := b.len
    rw [len_cat]
    omega
  · rw [cps_cat, List.mem_append] at h
    rcases h with h | h
    · exact a.all c h
    · exact b.all c h
theorem Sg.mono {m n : Nat} {x : Str} (a : Sg m x) (h : m ≤ n) : Sg n x := ⟨Nat.le_trans a.len h, a.all⟩
def sgB (m : Nat) (x : Str) : Bool := decide (x.length ≤ m) && x.cps.toList.all okc
theorem sg_of {m : Nat} {x : Str} (h : sgB m x = true) : Sg m x := by
  unfold sgB at h
  rw [Bool.and_eq_true, List.all_eq_true] at h
  exact ⟨of_decide_eq_true h.1, h.2⟩
theorem sg_mem {m : Nat} {x : Str} {l : List Str} (hx : x ∈ l) (h : (l.all (sgB m)) = true) : Sg m x := sg_of (List.all_eq_true.mp h x hx)
theorem num_fact : ∀ k : Nat, k < 20 → sgB 2 (toString (k : Int)) = true := by
  intro k hk
  have : ∀ k : Fin 20, sgB 2 (toString ((k.val : Nat) : Int)) = true := by decide +kernel
  exact this ⟨k, hk⟩
theorem sg_num {k : Nat} (hk : k < 20) : Sg 2 (toString (k : Int)) := sg_of (num_fact k hk)
theorem log_small {k : Nat} (hk : k < 1000) : ((k : Int)).natAbs.log2 < 1920 := by
  show k.log2 < 1920
  have := Nat.log2_le_self k
  omega
/-- joined -/
theorem sg_join {m n : Nat} {y : Str} (hy : Sg n y) : ∀ {xs : List Str}, (∀ x ∈ xs, Sg m x) → Sg (xs.length * (m + n)) (Str.join y xs)
  | [], _ => ⟨Nat.zero_le _, fun c h => by simp [Str.join, Str.empty] at h⟩
  | [x], h => (h x (List.mem_singleton.mpr rfl)).mono (by simp)
  | x :: z :: r, h => by
    have ih := sg_join hy (xs := z :: r) fun w hw => h w (List.mem_cons_of_mem _ hw)
    refine (((h x (List.mem_cons_self ..)).cat hy).cat ih).mono ?_
    simp only [List.length_cons, Nat.add_mul, Nat.one_mul]
    omega
theorem sum_lens {m : Nat} : ∀ {xs : List Str}, (∀ x ∈ xs, x.length ≤ m) → (xs.map (·.length)).sum ≤ xs.length * m
  | [], _ => Nat.zero_le _
  | x :: r, h => by
    have ih := sum_lens (xs := r) fun w hw => h w (List.mem_cons_of_mem _ hw)
    have := h x (List.mem_cons_self ..)
    simp only [List.map_cons, List.sum_cons, List.length_cons, Nat.add_mul, Nat.one_mul]
    omega
theorem LawEx.words {ts : List Str} {n : Nat} {e : List Str} (h : LawEx ts n e) (ht : ∀ t ∈ ts, Sg 12 t) : ∀ x ∈ e, Sg 12 x := by
  have two : ∀ {l k : List Str} {w x : Str}, w ∈ l → x ∈ k → (l.all (sgB 12)) = true → (k.all (sgB 12)) = true → ∀ z ∈ ([w, x] : List Str), Sg 12 z := fun hw hx a b z hz => by
    simp only [List.mem_cons, List.not_mem_nil, or_false] at hz
    rcases hz with rfl | rfl
    · exact sg_mem hw a
    · exact sg_mem hx b
  have one : ∀ {w : Str} {k : List Str} {x : Str}, x ∈ k → sgB 12 w = true → (k.all (sgB 12)) = true → ∀ z ∈ ([w, x] : List Str), Sg 12 z := fun {w k x} hx a b => two (l := [w]) (List.mem_singleton.mpr rfl) hx (by simpa using a) b
  induction h with
  | path h k => exact two h k (by decide +kernel) (by decide +kernel)
  | pack h k => exact two h k (by decide +kernel) (by decide +kernel)
  | set k => exact one k (by decide +kernel) (by decide +kernel)
  | lit k => exact one k (by decide +kernel) (by decide +kernel)
  | dep k => 
    intro z hz
    simp only [List.mem_cons, List.not_mem_nil, or_false] at hz
    rcases hz with rfl | rfl
    · exact sg_of (by decide +kernel)
    · exact ht _ k
  | line => 
    intro z hz
    simp only [List.mem_cons, List.not_mem_nil, or_false] at hz
    subst hz
    exact sg_of (by decide +kernel)
  | un h k ih => 
    intro z hz
    rcases List.mem_cons.mp hz with rfl | hz
    · exact sg_mem h (by decide +kernel)
    · exact ih z hz
  | bin h k l i1 i2 =>
    intro z hz
    rcases List.mem_cons.mp hz with rfl | hz
    · exact sg_mem h (by decide +kernel)
    · rcases List.mem_append.mp hz with hz | hz
      · exact i1 z hz
      · exact i2 z hz
  | tri k l m i1 i2 i3 =>
    intro z hz
    rcases List.mem_cons.mp hz with rfl | hz
    · exact sg_of (by decide +kernel)
    · rcases List.mem_append.mp hz with hz | hz
      · rcases List.mem_append.mp hz with hz | hz
        · exact i1 z hz
        · exact i2 z hz
      · exact i3 z hz
/-- an expression of depth 2, its words joined by blanks -/
theorem LawEx.about {ts : List Str} {e : List Str} (h : LawEx ts 2 e) (ht : ∀ t ∈ ts, Sg 12 t) : Sg 286 (Txt.join " " e) ∧ (e.map (·.length)).sum + e.length * (" " : Str).length ≤ 16777216 := by
  have hs := h.small
  have hw := h.words ht
  have hl : e.length ≤ 22 := Nat.le_trans hs (by decide)
  refine ⟨?_, ?_⟩
  · rw [TL.join_eq]
    refine (sg_join (n := 1) (sg_of (by decide +kernel)) hw).mono ?_
    exact Nat.le_trans (Nat.mul_le_mul_right _ hl) (by decide)
  · have a := sum_lens (m := 12) fun x hx => (hw x hx).len
    have b : (" " : Str).length = 1 := by decide +kernel
    rw [b]
    omega
/-- a list of rows at p, made since H0 -/
structure RowsAt (b : Addr) (H0 : Hp) (m n : Nat) (p : Addr) (xs : List Str) (H : Hp) : Prop where
  go : Go b H0 H
  new : H0 p = none
  at_ : Strs H p xs
  few : xs.length ≤ n
  sg : ∀ x ∈ xs, Sg m x
theorem RowsAt.step {b : Addr} {H0 H H' : Hp} {m n : Nat} {p : Addr} {xs : List Str} (r : RowsAt b H0 m n p xs H) (g : Go b H H') : RowsAt b H0 m n p xs H' :=
  ⟨r.go.trans g, r.new, r.at_.go r.go.cell g, r.few, r.sg⟩
theorem RowsAt.ne {b : Addr} {H0 H : Hp} {m n : Nat} {p : Addr} {xs : List Str} (r : RowsAt b H0 m n p xs H) : b ≠ p := fun z => r.at_.ne r.go.cell z.symm
theorem RowsAt.app {b : Addr} {H0 H : Hp} {m n : Nat} {p : Addr} {xs : List Str} {x : Str} (r : RowsAt b H0 m n p xs H) (hx : Sg m x) : RowsAt b H0 m (n + 1) p (xs ++ [x]) (upd H p (.lst (xs.map V.str ++ [V.str x]))) :=
  ⟨r.go.mut r.new r.ne, r.new, by unfold Strs; rw [upd_same, List.map_append]; rfl, by have := r.few; rw [List.length_append]; simp only [List.length_cons, List.length_nil]; omega, fun y hy => by
    rcases List.mem_append.mp hy with h | h
    · exact r.sg y h
    · rw [List.mem_singleton.mp h]
      exact hx⟩
theorem RowsAt.mono {b : Addr} {H0 H : Hp} {m n k : Nat} {p : Addr} {xs : List Str} (r : RowsAt b H0 m n p xs H) (h : n ≤ k) : RowsAt b H0 m k p xs H := ⟨r.go, r.new, r.at_, Nat.le_trans r.few h, r.sg⟩
theorem RowsAt.nil {b : Addr} {H : Hp} {m n : Nat} {p : Addr} (c : ∃ i : Int, 0 ≤ i ∧ H b = some (.lst [.int i])) (h : H p = none) : RowsAt b H m n p [] (upd H p (.lst [])) :=
  ⟨(Go.refl c).new h, h, upd_same, Nat.zero_le _, fun _ h => nomatch h⟩
theorem RowsAt.side {b : Addr} {H0 H : Hp} {m n : Nat} {p q : Addr} {xs : List Str} {o : HO} (r : RowsAt b H0 m n p xs H) (hq : H0 q = none) (ne : p ≠ q) (nb : b ≠ q) : RowsAt b H0 m n p xs (upd H q o) :=
  ⟨r.go.mut hq nb, r.new, by unfold Strs; rw [upd_ne ne]; exact r.at_, r.few, r.sg⟩
theorem RowsAt.room {b : Addr} {H0 H : Hp} {m n : Nat} {p : Addr} {xs : List Str} (r : RowsAt b H0 m n p xs H) (hn : n ≤ 10000 := by omega) : (xs.map V.str).length < sizeLine := by
  rw [List.length_map]
  exact small_lt (by have := r.few; omega)
theorem RowsAt.join {b : Addr} {H0 H : Hp} {m n k : Nat} {p : Addr} {xs : List Str} {y : Str} (r : RowsAt b H0 m n p xs H) (hy : Sg k y) (hz : n * (m + k) ≤ 100000) : (xs.map (·.length)).sum + xs.length * y.length ≤ 16777216 ∧ Sg (n * (m + k)) (Txt.join y xs) := by
  have h1 := sum_lens (m := m) fun x hx => (r.sg x hx).len
  have h2 : xs.length * y.length ≤ xs.length * k := Nat.mul_le_mul_left _ hy.len
  have h3 : xs.length * m + xs.length * k ≤ n * (m + k) := by
    rw [← Nat.mul_add]
    exact Nat.mul_le_mul_right _ r.few
  refine ⟨by omega, ?_⟩
  rw [TL.join_eq]
  exact (sg_join hy r.sg).mono (Nat.mul_le_mul_right _ r.few)
theorem strs_new {b l : Addr} {m : List Str} {H H' : Hp} (c : ∃ i : Int, 0 ≤ i ∧ H b = some (.lst [.int i])) (h : H l = none) (g : Go b (upd H l (.lst (m.map V.str))) H') : Strs H' l m :=
  Strs.go (H := upd H l (.lst (m.map V.str))) upd_same ((Go.refl c).new h).cell g
theorem RowsAt.cat {b : Addr} {H0 H : Hp} {m n k : Nat} {p r : Addr} {xs ys : List Str} (t : RowsAt b H0 m n p xs H) (hl : ys.length ≤ k) (hs : ∀ y ∈ ys, Sg m y) (hr : H r = none) : RowsAt b H0 m (n + k) r (xs ++ ys) (upd H r (.lst (xs.map V.str ++ ys.map V.str))) :=
  ⟨t.go.new hr, t.go.free hr, by unfold Strs; rw [upd_same, List.map_append], by have := t.few; rw [List.length_append]; omega, fun y hy => by
    rcases List.mem_append.mp hy with h | h
    · exact t.sg y h
    · exact hs y h⟩
theorem RowsAt.cat_sz {b : Addr} {H0 H : Hp} {m n k : Nat} {p : Addr} {xs ys : List Str} (t : RowsAt b H0 m n p xs H) (hl : ys.length ≤ k) (h : n + k ≤ 10000 := by omega) : (xs.map V.str).length + (ys.map V.str).length ≤ sizeLine := by
  rw [List.length_map, List.length_map]
  exact small_of (by have := t.few; omega)
end Kl

namespace Kl
open PySem L2 Kd
/-- rows made -/
def spRows (K : PySem.W.Frag) (m n : Nat) : Sp := fun vs H Q _ => ∃ (a b : Addr) (ns : List Int), vs = [.ref a, .ref b] ∧ Sp0 K a b ns H ∧ ∀ (p : Addr) (xs : List Str) (H' : Hp), RowsAt b H m n p xs H' → Q (.ref p) H'
def spRules (K : PySem.W.Frag) : Sp := fun vs H Q _ => ∃ (a b : Addr) (ns : List Int) (k : Nat), vs = [.ref a, .ref b, .int (k : Int)] ∧ Sp0 K a b ns H ∧ k ≤ 5 ∧ ∀ (p : Addr) (xs : List Str) (H' : Hp), RowsAt b H 400 8 p xs H' → Q (.ref p) H'
theorem Sg.sz {m n : Nat} {x y : Str} (a : Sg m x) (b : Sg n y) (h : m + n ≤ 100000 := by decide) : x.length + y.length ≤ sizeLine := small_of (by
  have := a.len
  have := b.len
  omega)
abbrev rJn (K : PySem.W.Frag) : V → List V → Hp → VK → Prop := fun x xs H Q => ∃ a p, ∃ ys : List Str, x = .str a ∧ xs = [.ref p] ∧ (SqL K H p (ys.map V.str) ∨ SqT K H p (ys.map V.str)) ∧ (ys.map (·.length)).sum + ys.length * a.length ≤ 16777216 ∧ Q (.str (Txt.join a ys)) H
theorem about_ok {K : PySem.W.Frag} {a b t : Addr} {ns : List Int} {ts : List Str} {i : Nat} {σ : L2.St} {H : Hp} {Q : VK} (h0 : σ[0]? = some (some (.ref a))) (h1 : σ[1]? = some (some (.ref b))) (hi : σ[i]? = some (some (.ref t))) (S : Sp0 K a b ns H) (ht : Strs H t ts) (hz : ts.length ≤ 1000) (tg : ∀ x ∈ ts, Sg 12 x)
    (q : ∀ (x : Str) (H' : Hp), Go b H H' → Sg 286 x → Q (.str x) H') : tM1 (rJn K) (tC (.str " ")) (tCall (spEx K 3) [] C8.E0 (tCons (tVar 0) (tCons (tVar 1) (tCons (tVar i) (tCons (tC (.int 2)) tNil))))) σ H Q := by
  refine ⟨⟨_, rfl⟩, _, h0, _, h1, _, hi, a, b, t, ns, ts, 2, rfl, S, ht, hz, by decide, fun p xs H' g _ hs e => ?_⟩
  obtain ⟨h2, h3⟩ := e.about tg
  exact ⟨_, p, xs, rfl, rfl, .inl (SqL.of hs), h3, q _ H' g h2⟩
theorem exc_ok {K : PySem.W.Frag} {a b t : Addr} {ns : List Int} {ts : List Str} {i : Nat} {σ : L2.St} {H : Hp} {Q : VK} (h0 : σ[0]? = some (some (.ref a))) (h1 : σ[1]? = some (some (.ref b))) (hi : σ[i]? = some (some (.ref t))) (S : Sp0 K a b ns H) (ht : Strs H t ts) (hz : ts.length ≤ 1000)
    (q : ∀ (p : Addr) (xs : List Str) (H' : Hp), Go b H H' → Strs H' p xs → LawEx ts 2 xs → Q (.ref p) H') : tCall (spEx K 3) [] C8.E0 (tCons (tVar 0) (tCons (tVar 1) (tCons (tVar i) (tCons (tC (.int 2)) tNil)))) σ H Q :=
  ⟨_, h0, _, h1, _, hi, a, b, t, ns, ts, 2, rfl, S, ht, hz, by decide, fun p xs H' g _ hs e => q p xs H' g hs e⟩
section
variable {P : Program} {w : World} {K : PySem.W.Frag} {mg : Str → Option Value} {base : Heap}
abbrev s_l_rule_rows : Stmt := topS 54
theorem sc_l_rule_rows : FnScope ["row", "spot", "many", "targets", "rows", "k", "name", "about", "kind", "forms"] ["row", "spot", "many"] (defScope s_l_rule_rows) := ⟨rfl, rfl, rfl, by decide +kernel, rfl, by decide +kernel, by decide +kernel⟩
theorem ok_rule_rows {f : Addr} {fd : FuncData} (F : Fun K "_law_rule_rows" "_law_rule_rows" s_l_rule_rows f fd) (T : Glo mg) (c_l_take : C8.Cal P w K mg base 2 "_law_take" (spTk K) []) (c_l_expression : C8.Cal P w K mg base 6 "_law_expression" (spEx K 3) []) :
    FnOk P w K mg base CX0 7 f fd ["row", "spot", "many"] (spRules K) := by
  refine F.ok sc_l_rule_rows (fun vs H Q E h => ?_) (fun cdv A outer s H vs Q E hr h => ?_)
  · obtain ⟨a, b, ns, k, rfl, _⟩ := h
    rfl
  · obtain ⟨a, b, ns, many, rfl, S, hm, kk⟩ := h
    refine ⟨_, (pss_cons (ps_set (i := 3) sc_l_rule_rows.nd rfl (.inl rfl) (pe_lst pa_nil))
      (pss_cons (ps_set (i := 4) sc_l_rule_rows.nd rfl (.inl rfl) (pe_lst pa_nil))
      (pss_cons (ps_for PassesOwn.never rfl (pi_range1 (by rfl) T.range (pa_cons (pv 2) pa_nil)) (pg_name (i := 5) sc_l_rule_rows.nd rfl (.inl rfl))
      (pss_cons (ps_set (i := 6) sc_l_rule_rows.nd rfl (.inl rfl) (pe_op op_add_str pe_str (pe_callTy call_str_int (by rfl) T.str (by decide +kernel) (pa_cons (pv 5) pa_nil))))
        (pss_cons (ps_expr (pe_bm PySem.F.plainAttrs_list PySem.F.slot_list_append PySem.F.type_list_append mt_append (pv 4) (pa_cons (pe_op op_add_str (pe_op op_add_str (pe_op op_add_str pe_str (pv 6)) pe_str) (pe_join pe_str (C8.pe_c c_l_expression hr (by omega) (by rfl) (pa_cons (pv 0) (pa_cons (pv 1) (pa_cons (pv 3) (pa_cons pe_int pa_nil))))))) pa_nil)))
        (pss_one (ps_expr (pe_bm PySem.F.plainAttrs_list PySem.F.slot_list_append PySem.F.type_list_append mt_append (pv 3) (pa_cons (pv 6) pa_nil)))))))
      (pss_cons (ps_for PassesOwn.never rfl (pi_range1 (by rfl) T.range (pa_cons (C8.pe_c c_l_take hr (by omega) (by rfl) (pa_cons (pv 0) (pa_cons (pv 1) (pa_cons pe_int pa_nil)))) pa_nil)) (pg_name (i := 5) sc_l_rule_rows.nd rfl (.inl rfl))
      (pss_cons (ps_set (i := 7) sc_l_rule_rows.nd rfl (.inl rfl) (pe_join pe_str (C8.pe_c c_l_expression hr (by omega) (by rfl) (pa_cons (pv 0) (pa_cons (pv 1) (pa_cons (pv 3) (pa_cons pe_int pa_nil)))))))
        (pss_cons (ps_set (i := 8) sc_l_rule_rows.nd rfl (.inl rfl) (C8.pe_c c_l_take hr (by omega) (by rfl) (pa_cons (pv 0) (pa_cons (pv 1) (pa_cons pe_int pa_nil)))))
        (pss_cons (ps_set (i := 9) sc_l_rule_rows.nd rfl (.inl rfl) (pe_lst (pa_cons (pe_op op_add_str (pe_op op_add_str pe_str (pv 7)) pe_str) (pa_cons (pe_op op_add_str (pe_op op_add_str pe_str (pv 7)) pe_str) (pa_cons (pe_op op_add_str (pe_op op_add_str pe_str (pv 7)) pe_str) pa_nil)))))
        (pss_one (ps_expr (pe_bm PySem.F.plainAttrs_list PySem.F.slot_list_append PySem.F.type_list_append mt_append (pv 4) (pa_cons (pe_op op_add_str (pe_op op_add_str pe_str (pe_callTy call_str_int (by rfl) T.str (by decide +kernel) (pa_cons (pv 5) pa_nil))) (pe_ix ix_list (pv 9) (pe_callB (call_max2 rfl) (by rfl) T.max (by decide +kernel) (pa_cons pe_int (pa_cons (pe_op op_sub (pv 8) pe_int) pa_nil))) (fun _ _ => rfl))) pa_nil))))))))
      (pss_one (ps_ret (pv 4))))))), ?_⟩
    refine ⟨(by show 0 ≤ sizeLine; decide), fun t ht => ⟨(by show 0 ≤ sizeLine; decide), fun p hp => ?_⟩⟩
    have rt : RowsAt b H 12 0 t [] (upd H t (.lst [])) := RowsAt.nil S.cell ht
    have hpt : p ≠ t := fun z => by
      rw [z, upd_same] at hp
      cases hp
    have hp0 : H p = none := by rw [upd_ne hpt] at hp; exact hp
    have rt1 := rt.step (rt.go.cell |> fun c => (Go.refl c).new (o := .lst []) hp)
    have rp : RowsAt b H 400 0 p [] (upd (upd H t (.lst [])) p (.lst [])) := ⟨rt1.go, hp0, upd_same, Nat.zero_le _, fun _ h => nomatch h⟩
    refine ⟨_, rfl, many, rfl, ?_, ?_, for_range (n := many) (fun j σ H1 => ∃ (ts xs : List Str) (k6 k7 : Option V), σ = [some (.ref a), some (.ref b), some (.int (many : Int)), some (.ref t), some (.ref p), k6, k7, none, none, none] ∧ RowsAt b H 12 j t ts H1 ∧ RowsAt b H 400 j p xs H1)
      ⟨[], [], none, none, rfl, rt1, rp⟩ ?_ ?_⟩
    · exact Int.le_trans (by decide) (Int.natCast_nonneg many)
    · exact Int.lt_of_le_of_lt (show (many : Int) ≤ 5 by omega) (by decide)
    · rintro j σ H1 hj ⟨ts, xs, k6, k7, rfl, r1, r2⟩
      have S1 := S.go r1.go
      have nm : Sg 3 ("t" ++ toString ((0 : Int) + (j : Int))) := by
        rw [Int.zero_add]
        exact (sg_of (m := 1) (by decide +kernel)).cat (sg_num (by omega))
      refine ⟨_, rfl, _, rfl, ?_, _, _, rfl, rfl, small_of (by have := nm.len; rw [len_cat] at this; omega), ?_⟩
      · rw [Int.zero_add]
        exact log_small (by omega)
      refine ⟨_, rfl, .inl ⟨rfl, _, SqL.of r2.at_⟩, ?_⟩
      refine ⟨_, rfl, _, _, rfl, rfl, (sg_of (m := 7) (by decide +kernel)).sz nm, _, _, rfl, rfl, ((sg_of (m := 7) (by decide +kernel)).cat nm).sz (sg_of (m := 3) (by decide +kernel)), ?_⟩
      have h1 := ((sg_of (m := 7) (x := "target ") (by decide +kernel)).cat nm).cat (sg_of (m := 3) (x := " = ") (by decide +kernel))
      refine about_ok (i := 3) rfl rfl rfl S1 r1.at_ (by have := r1.few; omega) r1.sg fun ab H2 g2 hab => ?_
      have r1' := r1.step g2
      have r2' := r2.step g2
      refine ⟨_, _, rfl, rfl, h1.sz hab, p, _, _, rfl, rfl, r2'.at_, r2'.room, ?_⟩
      have r3 := fun o => r1'.side (o := o) r2'.new (Ne.symm hpt) r2'.ne
      refine ⟨_, rfl, .inl ⟨rfl, _, SqL.of (r3 _).at_⟩, _, rfl, t, _, _, rfl, rfl, (r3 _).at_, r1'.room, ?_⟩
      exact ⟨_, _, _, _, rfl, (r3 _).app (nm.mono (by decide)), (r2'.app ((h1.cat hab).mono (by decide))).side r1'.new hpt r1'.ne⟩
    · rintro σ H1 ⟨ts, xs, k6, k7, rfl, r1, r2⟩
      have S1 := S.go r1.go
      refine ⟨_, rfl, _, rfl, a, b, ns, 4, rfl, S1, by decide, fun d H2 g2 h0 h1 => ?_⟩
      obtain ⟨d, rfl⟩ := Int.eq_ofNat_of_zero_le h0
      have hd : d < 4 := by omega
      refine ⟨d, rfl, ?_, ?_, for_range (n := d) (fun j σ H1 => ∃ (xs : List Str) (k6 k7 k8 k9 k10 : Option V), σ = [some (.ref a), some (.ref b), some (.int (many : Int)), some (.ref t), some (.ref p), k6, k7, k8, k9, k10] ∧ RowsAt b H 12 many t ts H1 ∧ RowsAt b H 400 (many + j) p xs H1)
        ⟨xs, _, _, _, _, _, rfl, r1.step g2, r2.step g2⟩ ?_ ?_⟩
      · exact Int.le_trans (by decide) (Int.natCast_nonneg d)
      · exact Int.lt_of_le_of_lt (show (d : Int) ≤ 4 by omega) (by decide)
      · rintro j σ H3 hj ⟨xs, k6, k7, k8, k9, k10, rfl, r1, r2⟩
        have S3 := S.go r1.go
        refine ⟨⟨_, rfl⟩, ?_⟩
        refine exc_ok (i := 3) rfl rfl rfl S3 r1.at_ (by have := r1.few; omega) fun q es H4 g4 hs he => ?_
        obtain ⟨hab, hsum⟩ := he.about r1.sg
        refine ⟨_, q, es, rfl, rfl, .inl (SqL.of hs), hsum, ?_⟩
        generalize Txt.join " " es = ab at hab ⊢
        have S4 := S3.go g4
        refine ⟨_, rfl, _, rfl, a, b, ns, 5, rfl, S4, by decide, fun kd H5 g5 k0 k1 => ?_⟩
        have r3 := (r1.step g4).step g5
        have r4 := (r2.step g4).step g5
        have a1 := hab
        have f1 := ((sg_of (m := 20) (x := " = not has ") (by decide +kernel)).cat hab).cat (sg_of (m := 8) (x := " lit zzz") (by decide +kernel))
        have f2 := ((sg_of (m := 20) (x := " = not same size ") (by decide +kernel)).cat hab).cat (sg_of (m := 6) (x := " lit 5") (by decide +kernel))
        have f3 := ((sg_of (m := 32) (x := " = if set mode lit ok not has ") (by decide +kernel)).cat hab).cat (sg_of (m := 6) (x := " lit Q") (by decide +kernel))
        refine ⟨_, rfl, _, _, rfl, rfl, (sg_of (m := 20) (by decide +kernel)).sz hab, _, _, rfl, rfl, ((sg_of (m := 20) (by decide +kernel)).cat hab).sz (sg_of (m := 8) (by decide +kernel)), ?_⟩
        refine ⟨_, rfl, _, _, rfl, rfl, (sg_of (m := 20) (by decide +kernel)).sz hab, _, _, rfl, rfl, ((sg_of (m := 20) (by decide +kernel)).cat hab).sz (sg_of (m := 6) (by decide +kernel)), ?_⟩
        refine ⟨_, rfl, _, _, rfl, rfl, (sg_of (m := 32) (by decide +kernel)).sz hab, _, _, rfl, rfl, ((sg_of (m := 32) (by decide +kernel)).cat hab).sz (sg_of (m := 6) (by decide +kernel)), ?_⟩
        refine ⟨(by show 3 ≤ sizeLine; decide), fun l hl => ?_⟩
        have r5 := fun o => r4.step (r4.go.cell |> fun c => (Go.refl c).new (o := o) hl)
        have n1 : Sg 8 ("test c" ++ toString ((0 : Int) + (j : Int))) := by
          rw [Int.zero_add]
          exact (sg_of (m := 6) (by decide +kernel)).cat (sg_num (by omega))
        refine ⟨_, rfl, .inl ⟨rfl, _, SqL.of (r5 _).at_⟩, _, rfl, _, rfl, ?_, _, _, rfl, rfl, small_of (by have := n1.len; rw [len_cat] at this; omega), ?_⟩
        · rw [Int.zero_add]
          exact log_small (by omega)
        refine ⟨_, rfl, _, rfl, _, _, rfl, rfl, _, _, rfl, ?_⟩
        have hix : ∃ x : Str, Sg 332 x ∧ atI [V.str (" = not has " ++ ab ++ " lit zzz"), V.str (" = not same size " ++ ab ++ " lit 5"), V.str (" = if set mode lit ok not has " ++ ab ++ " lit Q")] (if kd - 2 > 0 then kd - 2 else 0) = some (V.str x) := by
          rcases (show kd ≤ 2 ∨ kd = 3 ∨ kd = 4 by omega) with e | e | e
          · rw [if_neg (by omega)]
            exact ⟨_, f1.mono (by decide), rfl⟩
          · subst e
            exact ⟨_, f2.mono (by decide), rfl⟩
          · subst e
            exact ⟨_, f3.mono (by decide), rfl⟩
        obtain ⟨x, hx, ex⟩ := hix
        refine ⟨l, _, _, _, rfl, rfl, SqL.of upd_same, ex, _, _, rfl, rfl, n1.sz hx, p, _, _, rfl, rfl, (r5 _).at_, r4.room, ?_⟩
        exact ⟨_, _, _, _, _, _, rfl, (r3.step ((Go.refl r3.go.cell).new hl)).side r4.new (Ne.symm hpt) r4.ne, (r5 _).app ((n1.cat hx).mono (by decide))⟩
      · rintro σ H3 ⟨xs, k6, k7, k8, k9, k10, rfl, r1, r2⟩
        exact ⟨_, rfl, kk p xs H3 (r2.mono (by omega))⟩
end
end Kl

namespace Kl
open PySem L2 Kd
section
variable {P : Program} {w : World} {K : PySem.W.Frag} {mg : Str → Option Value} {base : Heap}
abbrev s_l_setting_rows : Stmt := topS 55
theorem sc_l_setting_rows : FnScope ["row", "spot", "rows", "k", "style", "key", "j"] ["row", "spot"] (defScope s_l_setting_rows) := ⟨rfl, rfl, rfl, by decide +kernel, rfl, by decide +kernel, by decide +kernel⟩
theorem rng_ok {n : Nat} (h : n < 1000) : -2 ^ 62 ≤ (n : Int) ∧ (n : Int) < 2 ^ 62 := ⟨Int.le_trans (by decide) (Int.natCast_nonneg n), Int.lt_of_lt_of_le (show (n : Int) < 1000 by omega) (by decide)⟩
theorem rng_of {i : Int} (h0 : 0 ≤ i) (h : i < 1000) : -2 ^ 62 ≤ i ∧ i < 2 ^ 62 := ⟨Int.le_trans (by decide) h0, Int.lt_of_lt_of_le h (by decide)⟩
theorem ok_setting_rows {f : Addr} {fd : FuncData} (F : Fun K "_law_setting_rows" "_law_setting_rows" s_l_setting_rows f fd) (T : Glo mg) (c_l_take : C8.Cal P w K mg base 2 "_law_take" (spTk K) []) :
    FnOk P w K mg base CX0 3 f fd ["row", "spot"] (spRows K 20 25) := by
  refine F.ok sc_l_setting_rows (fun vs H Q E h => ?_) (fun cdv A outer s H vs Q E hr h => ?_)
  · obtain ⟨a, b, ns, rfl, _⟩ := h
    rfl
  · obtain ⟨a, b, ns, rfl, S, kk⟩ := h
    refine ⟨_, (pss_cons (ps_set (i := 2) sc_l_setting_rows.nd rfl (.inl rfl) (pe_lst pa_nil))
      (pss_cons (ps_for PassesOwn.never rfl (pi_range1 (by rfl) T.range (pa_cons (C8.pe_c c_l_take hr (by omega) (by rfl) (pa_cons (pv 0) (pa_cons (pv 1) (pa_cons pe_int pa_nil)))) pa_nil)) (pg_name (i := 3) sc_l_setting_rows.nd rfl (.inr rfl))
      (pss_cons (ps_set (i := 4) sc_l_setting_rows.nd rfl (.inl rfl) (C8.pe_c c_l_take hr (by omega) (by rfl) (pa_cons (pv 0) (pa_cons (pv 1) (pa_cons pe_int pa_nil)))))
        (pss_cons (ps_set (i := 5) sc_l_setting_rows.nd rfl (.inr rfl) (pe_ix ix_list (pe_lst (pa_strs rfl)) (C8.pe_c c_l_take hr (by omega) (by rfl) (pa_cons (pv 0) (pa_cons (pv 1) (pa_cons pe_int pa_nil)))) (fun _ _ => rfl)))
        (pss_one (ps_if (pt_cmpR op_lt (pv 4) pe_int (nomark _))
        (pss_one (ps_expr (pe_bm PySem.F.plainAttrs_list PySem.F.slot_list_append PySem.F.type_list_append mt_append (pv 2) (pa_cons (pe_op op_add_str (pe_op op_add_str (pv 5) pe_str) (pe_join pe_str (pe_lc (own := [("j", 6)]) (g := gName 6) (tt := tYes) rfl sc_l_setting_rows.nd (pi_range1 (by rfl) T.range (pa_cons (pe_op op_add pe_int (C8.pe_c c_l_take hr (by omega) (by rfl) (pa_cons (pv 0) (pa_cons (pv 1) (pa_cons pe_int pa_nil))))) pa_nil)) (blkOk_by (N := ["row", "spot", "rows", "k", "style", "key", "j"]) (sc := defScope s_l_setting_rows) (by decide +kernel)) (fun _ _ _ _ _ => (pg_name (i := 6) sc_l_setting_rows.nd rfl (.inl rfl))) (fun _ _ _ _ _ => pts_nil) (fun _ _ _ _ _ => (pe_ix (r := rIxL K) ix_list (pe_lst (pa_strs rfl)) (C8.pe_c c_l_take hr (by omega) (by rfl) (pa_cons (pv 0) (pa_cons (pv 1) (pa_cons pe_int pa_nil)))) (fun _ _ => rfl)))))) pa_nil))))
        (pss_one (ps_if (pt_cmpR op_eq (pv 4) pe_int (nomark _))
          (pss_one (ps_expr (pe_bm PySem.F.plainAttrs_list PySem.F.slot_list_append PySem.F.type_list_append mt_append (pv 2) (pa_cons (pe_op op_add_str (pe_op op_add_str (pv 5) pe_str) (pe_ix ix_list (pe_lst (pa_strs rfl)) (C8.pe_c c_l_take hr (by omega) (by rfl) (pa_cons (pv 0) (pa_cons (pv 1) (pa_cons pe_int pa_nil)))) (fun _ _ => rfl))) pa_nil))))
          (pss_one (ps_if (pt_cmpR op_eq (pv 4) pe_int (nomark _))
            (pss_one (ps_expr (pe_bm PySem.F.plainAttrs_list PySem.F.slot_list_append PySem.F.type_list_append mt_append (pv 2) (pa_cons (pe_op op_add_str pe_str (pv 5)) pa_nil))))
            (pss_cons (ps_expr (pe_bm PySem.F.plainAttrs_list PySem.F.slot_list_append PySem.F.type_list_append mt_append (pv 2) (pa_cons (pe_op op_add_str pe_str (pe_ix ix_list (pe_lst (pa_strs rfl)) (C8.pe_c c_l_take hr (by omega) (by rfl) (pa_cons (pv 0) (pa_cons (pv 1) (pa_cons pe_int pa_nil)))) (fun _ _ => rfl))) pa_nil)))
              (pss_one (ps_set (i := 2) sc_l_setting_rows.nd rfl (.inl rfl) (pe_op op_cat (pe_op op_cat (pv 2) (pe_lc (own := [("j", 6)]) (g := gName 6) (tt := tYes) rfl sc_l_setting_rows.nd (pi_range1 (by rfl) T.range (pa_cons (C8.pe_c c_l_take hr (by omega) (by rfl) (pa_cons (pv 0) (pa_cons (pv 1) (pa_cons pe_int pa_nil)))) pa_nil)) (blkOk_by (N := ["row", "spot", "rows", "k", "style", "key", "j"]) (sc := defScope s_l_setting_rows) (by decide +kernel)) (fun _ _ _ _ _ => (pg_name (i := 6) sc_l_setting_rows.nd rfl (.inl rfl))) (fun _ _ _ _ _ => pts_nil) (fun _ _ _ _ _ => (pe_ix (r := rIxL K) ix_list (pe_lst (pa_cons (pe_op op_add_str (pe_op op_add_str (pv 5) pe_str) (pe_callTy call_str_int (by rfl) T.str (by decide +kernel) (pa_cons (pv 3) pa_nil))) (pa_cons (pe_op op_add_str (pv 5) pe_str) (pa_cons (pe_op op_add_str pe_str (pv 5)) (pa_cons pe_str (pa_cons pe_str pa_nil)))))) (C8.pe_c c_l_take hr (by omega) (by rfl) (pa_cons (pv 0) (pa_cons (pv 1) (pa_cons pe_int pa_nil)))) (fun _ _ => rfl))))) (pe_lst (pa_strs rfl)))))))))))))))
      (pss_one (ps_ret (pv 2))))), ?_⟩
    refine ⟨(by show 0 ≤ sizeLine; decide), fun p hp => ?_⟩
    have rp : RowsAt b H 20 0 p [] (upd H p (.lst [])) := RowsAt.nil S.cell hp
    refine ⟨_, rfl, _, rfl, a, b, ns, 6, rfl, S.go rp.go, by decide, fun d H2 g2 h0 h1 => ?_⟩
    obtain ⟨d, rfl⟩ := Int.eq_ofNat_of_zero_le h0
    refine ⟨d, rfl, (rng_ok (by omega)).1, (rng_ok (by omega)).2, for_range (n := d) (fun j σ H1 => ∃ (p : Addr) (xs : List Str) (k3 k4 k5 : Option V), σ = [some (.ref a), some (.ref b), some (.ref p), k3, k4, k5, none] ∧ RowsAt b H 20 (5 * j) p xs H1)
        ⟨p, [], _, _, _, rfl, rp.step g2⟩ ?_ ?_⟩
    · rintro j σ H3 hj ⟨p, xs, k3, k4, k5, rfl, r⟩
      refine ⟨_, rfl, _, rfl, a, b, ns, 7, rfl, S.go r.go, by decide, fun st H4 g4 s0 s1 => ?_⟩
      have r := r.step g4
      refine ⟨(by show 7 ≤ sizeLine; decide), fun l hl => ⟨_, rfl, _, rfl, a, b, ns, 7, rfl, S.go (r.go.new hl), by decide, fun ki H5 g5 k0 k1 => ?_⟩⟩
      obtain ⟨key, hk, ek⟩ := strs_at (xs := (["color", "mode", "sizes", "other", "when", "end", "drop"] : List Str)) k0 k1
      refine ⟨l, _, ki, _, rfl, rfl, SqL.of (strs_new r.go.cell hl g5), ek, ?_⟩
      have r : RowsAt b H 20 (5 * j) p xs H5 := (r.step ((Go.refl r.go.cell).new hl)).step g5
      have hk : Sg 5 key := sg_mem hk (by decide +kernel)
      have done : ∀ {x : Str} {k3 k4 k5 : Option V} {H' : Hp}, RowsAt b H 20 (5 * j) p xs H' → Sg 20 x → (∃ (p' : Addr) (xs' : List Str) (k3' k4' k5' : Option V), [some (V.ref a), some (V.ref b), some (V.ref p), k3, k4, k5, none] = [some (V.ref a), some (V.ref b), some (V.ref p'), k3', k4', k5', none] ∧ RowsAt b H 20 (5 * (j + 1)) p' xs' (upd H' p (.lst (xs.map V.str ++ [V.str x])))) :=
        fun r hx => ⟨p, _, _, _, _, rfl, (r.app hx).mono (by omega)⟩
      refine ⟨_, rfl, _, _, rfl, rfl, _, rfl, ite2 (fun _ => ?_) (fun _ => ?_)⟩
      · have q1 := hk.cat (sg_of (m := 3) (x := " = ") (by decide +kernel))
        refine ⟨_, rfl, .inl ⟨rfl, _, SqL.of r.at_⟩, _, rfl, _, _, rfl, rfl, hk.sz (sg_of (m := 3) (by decide +kernel)), ⟨_, rfl⟩, ?_⟩
        refine ⟨_, rfl, _, rfl, a, b, ns, 2, rfl, S.go r.go, by decide, fun n H6 g6 n0 n1 => ?_⟩
        obtain ⟨n, rfl⟩ := Int.eq_ofNat_of_zero_le n0
        have r := r.step g6
        refine ⟨_, _, rfl, rfl, _, rfl, (rng_of (by omega) (by omega)).1, (rng_of (by omega) (by omega)).2, fun D hD => lc_range (n := (1 + (n : Int)).toNat) (fun i H7 => ∃ ys : List Str, RowsAt b H6 3 i D ys H7) ⟨[], RowsAt.nil r.go.cell hD⟩ ?_ ?_⟩
        · rintro i H7 hi ⟨ys, r7⟩
          refine ⟨rfl, (by show 3 ≤ sizeLine; decide), fun l hl => ⟨_, rfl, _, rfl, a, b, ns, 3, rfl, (S.go r.go).go (r7.go.new hl), by decide, fun d H8 g8 d0 d1 => ?_⟩⟩
          obtain ⟨z, hz, ez⟩ := strs_at (xs := (["red", "on", "b2"] : List Str)) d0 d1
          have r8 := (r7.step ((Go.refl r7.go.cell).new hl)).step g8
          exact ⟨l, _, d, _, rfl, rfl, SqL.of (strs_new r7.go.cell hl g8), ez, _, r8.at_, r8.room, _, r8.app (sg_mem hz (by decide +kernel))⟩
        · rintro H7 ⟨ys, r7⟩
          obtain ⟨hs, hj⟩ := (r7.mono (k := 2) (by omega)).join (k := 1) (y := " ") (sg_of (by decide +kernel)) (by decide)
          have r := r.step r7.go
          exact ⟨_, D, ys, rfl, rfl, .inl (SqL.of r7.at_), hs, _, _, rfl, rfl, q1.sz hj, p, _, _, rfl, rfl, r.at_, r.room, done r ((q1.cat hj).mono (by decide))⟩
      refine ⟨_, rfl, rfl, _, rfl, ite2 (fun _ => ?_) (fun _ => ?_)⟩
      · have q1 := hk.cat (sg_of (m := 4) (x := " += ") (by decide +kernel))
        refine ⟨_, rfl, .inl ⟨rfl, _, SqL.of r.at_⟩, _, rfl, _, _, rfl, rfl, hk.sz (sg_of (m := 4) (by decide +kernel)), ?_⟩
        refine ⟨(by show 2 ≤ sizeLine; decide), fun l hl => ⟨_, rfl, _, rfl, a, b, ns, 2, rfl, S.go (r.go.new hl), by decide, fun d H8 g8 d0 d1 => ?_⟩⟩
        obtain ⟨z, hz, ez⟩ := strs_at (xs := (["blue", "off"] : List Str)) d0 d1
        have r8 := (r.step ((Go.refl r.go.cell).new hl)).step g8
        have hz : Sg 4 z := sg_mem hz (by decide +kernel)
        exact ⟨l, _, d, _, rfl, rfl, SqL.of (strs_new r.go.cell hl g8), ez, _, _, rfl, rfl, q1.sz hz, p, _, _, rfl, rfl, r8.at_, r8.room, done r8 ((q1.cat hz).mono (by decide))⟩
      refine ⟨_, rfl, rfl, _, rfl, ite2 (fun _ => ?_) (fun _ => ?_)⟩
      · have q1 := (sg_of (m := 5) (x := "drop ") (by decide +kernel)).cat hk
        exact ⟨_, rfl, .inl ⟨rfl, _, SqL.of r.at_⟩, _, rfl, _, _, rfl, rfl, (sg_of (m := 5) (by decide +kernel)).sz hk, p, _, _, rfl, rfl, r.at_, r.room, done r (q1.mono (by decide))⟩
      refine ⟨_, rfl, .inl ⟨rfl, _, SqL.of r.at_⟩, ?_⟩
      refine ⟨(by show 3 ≤ sizeLine; decide), fun l hl => ⟨_, rfl, _, rfl, a, b, ns, 3, rfl, S.go (r.go.new hl), by decide, fun d H8 g8 d0 d1 => ?_⟩⟩
      obtain ⟨z, hz, ez⟩ := strs_at (xs := (["zone is eu", "zone is us", "size is big"] : List Str)) d0 d1
      have r8 := (r.step ((Go.refl r.go.cell).new hl)).step g8
      have hz : Sg 11 z := sg_mem hz (by decide +kernel)
      refine ⟨l, _, d, _, rfl, rfl, SqL.of (strs_new r.go.cell hl g8), ez, _, _, rfl, rfl, (sg_of (m := 5) (by decide +kernel)).sz hz, p, _, _, rfl, rfl, r8.at_, r8.room, ?_⟩
      have r9 := r8.app (((sg_of (m := 5) (x := "when ") (by decide +kernel)).cat hz).mono (show 16 ≤ 20 by decide))
      refine ⟨_, rfl, _, rfl, _, rfl, a, b, ns, 4, rfl, S.go r9.go, by decide, fun n H10 g10 n0 n1 => ?_⟩
      have r10 := r9.step g10
      have kn : Sg 2 (toString ((0 : Int) + (j : Int))) := by
        rw [Int.zero_add]
        exact sg_num (by omega)
      have t1 := (hk.cat (sg_of (m := 4) (x := " = w") (by decide +kernel))).cat kn
      have t2 := hk.cat (sg_of (m := 5) (x := " += v") (by decide +kernel))
      have t3 := (sg_of (m := 5) (x := "drop ") (by decide +kernel)).cat hk
      refine ⟨_, rfl, (rng_of (by omega) (by omega)).1, (rng_of (by omega) (by omega)).2, fun D hD => lc_range (n := n.toNat) (fun i H7 => ∃ ys : List Str, RowsAt b H10 20 i D ys H7) ⟨[], RowsAt.nil r10.go.cell hD⟩ ?_ ?_⟩
      · rintro i H7 hi ⟨ys, r7⟩
        refine ⟨rfl, _, rfl, _, _, rfl, rfl, hk.sz (sg_of (m := 4) (by decide +kernel)), _, rfl, _, rfl, ?_, _, _, rfl, rfl, (hk.cat (sg_of (m := 4) (by decide +kernel))).sz kn, ?_⟩
        · rw [Int.zero_add]
          exact log_small (by omega)
        refine ⟨_, rfl, _, _, rfl, rfl, hk.sz (sg_of (m := 5) (by decide +kernel)), _, rfl, _, _, rfl, rfl, (sg_of (m := 5) (by decide +kernel)).sz hk, (by show 5 ≤ sizeLine; decide), fun l hl => ⟨_, rfl, _, rfl, a, b, ns, 5, rfl, (S.go r10.go).go (r7.go.new hl), by decide, fun d H8 g8 d0 d1 => ?_⟩⟩
        obtain ⟨z, hz, ez⟩ := strs_at (xs := [key ++ " = w" ++ toString ((0 : Int) + (j : Int)), key ++ " += v", "drop " ++ key, "", "mode = on w"]) d0 d1
        have hz : Sg 20 z := by
          simp only [List.mem_cons, List.not_mem_nil, or_false] at hz
          rcases hz with rfl | rfl | rfl | rfl | rfl
          · exact t1.mono (by decide)
          · exact t2.mono (by decide)
          · exact t3.mono (by decide)
          · exact sg_of (by decide +kernel)
          · exact sg_of (by decide +kernel)
        have r8 := (r7.step ((Go.refl r7.go.cell).new hl)).step g8
        exact ⟨l, _, d, _, rfl, rfl, SqL.of (strs_new (m := [key ++ " = w" ++ toString ((0 : Int) + (j : Int)), key ++ " += v", "drop " ++ key, "", "mode = on w"]) r7.go.cell hl g8), ez, _, r8.at_, r8.room, _, r8.app hz⟩
      · rintro H7 ⟨ys, r7⟩
        have r11 := r10.step r7.go
        have hy : ys.length ≤ 3 := Nat.le_trans r7.few (by omega)
        refine ⟨_, D, _, _, rfl, rfl, r11.at_, r7.at_, r11.cat_sz (k := 3) hy, fun p2 hp2 => ?_⟩
        have r12 := r11.cat (k := 3) hy r7.sg hp2
        refine ⟨(by show 1 ≤ sizeLine; decide), fun l hl => ?_⟩
        have r13 := r12.step ((Go.refl r12.go.cell).new (o := .lst ((["end"] : List Str).map V.str)) hl)
        refine ⟨p2, l, _, _, rfl, rfl, r13.at_, upd_same, r13.cat_sz (ys := (["end"] : List Str)) (k := 1) (by decide), fun p3 hp3 => ?_⟩
        exact ⟨p3, _, _, _, _, rfl, (r13.cat (ys := (["end"] : List Str)) (k := 1) (by decide) (fun y hy => by rw [List.mem_singleton.mp hy]; exact sg_of (by decide +kernel)) hp3).mono (by omega)⟩
    · rintro σ H3 ⟨p, xs, k3, k4, k5, rfl, r⟩
      exact ⟨_, rfl, kk p xs H3 (r.mono (by omega))⟩
end
end Kl

namespace Kl
open PySem L2 Kd
/-! a file's content: rows, each with its line end -/
def ctc (c : Nat) : Bool := c == 10 || okc c
structure Ct (m : Nat) (x : Str) : Prop where
  len : x.length ≤ m
  all : ∀ c ∈ x.cps.toList, ctc c = true
def contentOf (xs : List Str) : Str := Txt.join "" (xs.map (· ++ "\n"))
theorem Sg.ct {m : Nat} {x : Str} (h : Sg m x) : Ct m x := ⟨h.len, fun c hc => by unfold ctc; rw [h.all c hc, Bool.or_true]⟩
theorem Ct.mono {m n : Nat} {x : Str} (a : Ct m x) (h : m ≤ n) : Ct n x := ⟨Nat.le_trans a.len h, a.all⟩
theorem Ct.cat {m n : Nat} {x y : Str} (a : Ct m x) (b : Ct n y) : Ct (m + n) (x ++ y) := by
  refine ⟨?_, fun c h => ?_⟩
  · have := a.len
    have := b.len
    rw [len_cat]
    omega
  · rw [cps_cat, List.mem_append] at h
    rcases h with h | h
    · exact a.all c h
    · exact b.all c h
def ctB (m : Nat) (x : Str) : Bool := decide (x.length ≤ m) && x.cps.toList.all ctc
theorem ct_of {m : Nat} {x : Str} (h : ctB m x = true) : Ct m x := by
  unfold ctB at h
  rw [Bool.and_eq_true, List.all_eq_true] at h
  exact ⟨of_decide_eq_true h.1, h.2⟩
theorem ct_mem {m : Nat} {x : Str} {l : List Str} (hx : x ∈ l) (h : (l.all (ctB m)) = true) : Ct m x := ct_of (List.all_eq_true.mp h x hx)
theorem join_nil_cons (x : Str) (r : List Str) : (Str.join "" (x :: r)).cps.toList = x.cps.toList ++ (Str.join "" r).cps.toList := by
  cases r with
  | nil =>
    show x.cps.toList = x.cps.toList ++ []
    rw [List.append_nil]
  | cons z r =>
    show (x ++ "" ++ Str.join "" (z :: r)).cps.toList = _
    rw [cps_cat, cps_cat, show ((Str.ofString "") : Str).cps.toList = [] by decide +kernel, List.append_nil]
theorem content_nil : (contentOf []).cps.toList = [] := by
  unfold contentOf
  rw [TL.join_eq]
  rfl
theorem content_cons (x : Str) (r : List Str) : (contentOf (x :: r)).cps.toList = x.cps.toList ++ 10 :: (contentOf r).cps.toList := by
  unfold contentOf
  rw [TL.join_eq, TL.join_eq, List.map_cons, join_nil_cons, cps_cat, List.append_assoc]
  rfl
theorem content_len : ∀ xs : List Str, (contentOf xs).length = (xs.map (fun x => x.length + 1)).sum
  | [] => by
    rw [← len_tl, content_nil]
    rfl
  | x :: r => by
    have ih := content_len r
    rw [← len_tl] at ih
    rw [← len_tl, content_cons, List.length_append, List.length_cons, ih, len_tl, List.map_cons, List.sum_cons]
    omega
theorem content_all {m : Nat} : ∀ {xs : List Str}, (∀ x ∈ xs, Sg m x) → ∀ c ∈ (contentOf xs).cps.toList, ctc c = true
  | [], _, c, h => by
    rw [content_nil] at h
    cases h
  | x :: r, hs, c, h => by
    rw [content_cons, List.mem_append, List.mem_cons] at h
    rcases h with h | h | h
    · exact (hs x (List.mem_cons_self ..)).ct.all c h
    · subst h
      rfl
    · exact content_all (fun z hz => hs z (List.mem_cons_of_mem _ hz)) c h
theorem content_ct {m n k : Nat} {xs : List Str} (hl : xs.length ≤ n) (hs : ∀ x ∈ xs, Sg m x) (hk : n * (m + 1) ≤ k) : Ct k (contentOf xs) := by
  refine ⟨?_, content_all hs⟩
  rw [content_len]
  have : (xs.map (fun x => x.length + 1)).sum ≤ xs.length * (m + 1) := by
    clear hl hk
    induction xs with
    | nil => exact Nat.zero_le _
    | cons x r ih =>
      have a := ih fun z hz => hs z (List.mem_cons_of_mem _ hz)
      have b := (hs x (List.mem_cons_self ..)).len
      rw [List.map_cons, List.sum_cons, List.length_cons, Nat.add_mul, Nat.one_mul]
      omega
  exact Nat.le_trans this (Nat.le_trans (Nat.mul_le_mul_right _ hl) hk)
theorem sum_cut (f : Str → Nat) : ∀ (xs : List Str) (i : Nat), ((xs.take i).map f).sum + ((xs.drop i).map f).sum = (xs.map f).sum
  | [], i => by simp
  | x :: r, 0 => by simp
  | x :: r, i + 1 => by
    have := sum_cut f r i
    simp only [List.take_succ_cons, List.drop_succ_cons, List.map_cons, List.sum_cons]
    omega
theorem content_take (xs : List Str) (i : Nat) : (contentOf (xs.take i)).length ≤ (contentOf xs).length := by
  rw [content_len, content_len]
  have := sum_cut (fun x => x.length + 1) xs i
  omega
theorem content_drop (xs : List Str) (i : Nat) : (contentOf (xs.drop i)).length ≤ (contentOf xs).length := by
  rw [content_len, content_len]
  have := sum_cut (fun x => x.length + 1) xs i
  omega
theorem Go.same {b : Addr} {H H' : Hp} (c : ∃ i : Int, 0 ≤ i ∧ H b = some (.lst [.int i])) (s : Same H H') : Go b H H' := by
  obtain ⟨i, hi, q⟩ := c
  exact ⟨fun c o _ e => s c o e, i, hi, s b _ q⟩
def spContent (K : PySem.W.Frag) : Sp := fun vs H Q _ => ∃ (p : Addr) (xs : List Str), vs = [.ref p] ∧ Strs H p xs ∧ xs.length ≤ 1000 ∧ (∀ x ∈ xs, Sg 400 x) ∧ ∀ H' : Hp, Same H H' → Q (.str (contentOf xs)) H'
section
variable {P : Program} {w : World} {K : PySem.W.Frag} {mg : Str → Option Value} {base : Heap}
abbrev s_l_content : Stmt := topS 56
theorem sc_l_content : FnScope ["rows", "one"] ["rows"] (defScope s_l_content) := ⟨rfl, rfl, rfl, by decide +kernel, rfl, by decide +kernel, by decide +kernel⟩
theorem ok_content {f : Addr} {fd : FuncData} (F : Fun K "_law_content" "_law_content" s_l_content f fd) : FnOk P w K mg base CX0 1 f fd ["rows"] (spContent K) := by
  refine F.ok sc_l_content (fun vs H Q E h => ?_) (fun cdv A outer s H vs Q E hr h => ?_)
  · obtain ⟨p, xs, rfl, _⟩ := h
    rfl
  · obtain ⟨p, xs, rfl, hp, hl, hs, k⟩ := h
    refine ⟨_, (pss_one (ps_ret (pe_join pe_str (pe_lc (own := [("one", 1)]) (g := gName 1) (tt := tYes) rfl sc_l_content.nd (pi_list (pv 0)) (blkOk_by (N := ["rows", "one"]) (sc := defScope s_l_content) (by decide +kernel)) (fun _ _ _ _ _ => (pg_name (i := 1) sc_l_content.nd rfl (.inl rfl))) (fun _ _ _ _ _ => pts_nil) (fun _ _ _ _ _ => (pe_op op_add_str (pv 1) pe_str)))))), ?_⟩
    refine ⟨⟨_, rfl⟩, _, rfl, p, rfl, ⟨_, SqL.of hp⟩, fun D hD => lc_list (K := K) (xs := xs.map V.str) (fun i H1 => Same H H1 ∧ H1 D = some (.lst (((xs.map (· ++ ("\n" : Str))).take i).map V.str))) ⟨Same.new hD, ?_⟩ (fun i H1 _ q => SqL.of (q.1 _ _ hp)) ?_ ?_⟩
    · rw [upd_same]
      rfl
    · rintro i x H1 hx ⟨s1, e1⟩
      rw [List.getElem?_map] at hx
      obtain ⟨y, hy, rfl⟩ := Option.map_eq_some_iff.mp hx
      have hi : i < xs.length := (List.getElem?_eq_some_iff.mp hy).1
      have sy := hs y (List.mem_of_getElem? hy)
      refine ⟨rfl, _, rfl, _, _, rfl, rfl, small_of (by have := sy.len; have : ("\n" : Str).length = 1 := (by decide +kernel); omega), _, e1, ?_, Same.mut s1 hD, ?_⟩
      · rw [List.length_map, List.length_take, List.length_map]
        exact small_lt (by omega)
      · rw [upd_same, List.take_add_one, List.getElem?_map, hy, List.map_append]
        rfl
    · rintro H1 ⟨s1, e1⟩
      rw [List.length_map] at e1
      have e2 : (xs.map (· ++ ("\n" : Str))).take xs.length = xs.map (· ++ ("\n" : Str)) := List.take_of_length_le (by rw [List.length_map]; exact Nat.le_refl _)
      rw [e2] at e1
      refine ⟨_, D, _, rfl, rfl, .inl (SqL.of e1), ?_, k H1 s1⟩
      have h1 := sum_lens (m := 401) (xs := xs.map (· ++ ("\n" : Str))) fun x hx => by
        obtain ⟨y, hy, rfl⟩ := List.mem_map.mp hx
        have := (hs y hy).len
        rw [len_cat]
        have : ("\n" : Str).length = 1 := by decide +kernel
        omega
      rw [List.length_map] at h1 ⊢
      have : ("" : Str).length = 0 := by decide +kernel
      rw [this]
      omega
end
end Kl

namespace Kl
open PySem L2 Kd
theorem cut_strs (xs : List Str) (lo hi : Option Int) : ∃ ms : List Str, cutV (xs.map V.str) lo hi = ms.map V.str ∧ ms.length ≤ xs.length ∧ ∀ y ∈ ms, y ∈ xs := by
  have e := cutV_length (xs.map V.str) lo hi
  unfold cutV at e ⊢
  rw [← List.map_drop, ← List.map_take] at e ⊢
  exact ⟨_, rfl, by simpa using e, fun y hy => List.mem_of_mem_drop (List.mem_of_mem_take hy)⟩
section
variable {P : Program} {w : World} {K : PySem.W.Frag} {mg : Str → Option Value} {base : Heap}
abbrev s_l_place_rows : Stmt := topS 57
theorem sc_l_place_rows : FnScope ["row", "spot", "rows", "k"] ["row", "spot"] (defScope s_l_place_rows) := ⟨rfl, rfl, rfl, by decide +kernel, rfl, by decide +kernel, by decide +kernel⟩
theorem ok_place_rows {f : Addr} {fd : FuncData} (F : Fun K "_law_place_rows" "_law_place_rows" s_l_place_rows f fd) (T : Glo mg) (c_l_take : C8.Cal P w K mg base 2 "_law_take" (spTk K) []) :
    FnOk P w K mg base CX0 3 f fd ["row", "spot"] (spRows K 28 25) := by
  refine F.ok sc_l_place_rows (fun vs H Q E h => ?_) (fun cdv A outer s H vs Q E hr h => ?_)
  · obtain ⟨a, b, ns, rfl, _⟩ := h
    rfl
  · obtain ⟨a, b, ns, rfl, S, kk⟩ := h
    refine ⟨_, (pss_cons (ps_set (i := 2) sc_l_place_rows.nd rfl (.inl rfl) (pe_lst pa_nil))
      (pss_cons (ps_for PassesOwn.never rfl (pi_range1 (by rfl) T.range (pa_cons (C8.pe_c c_l_take hr (by omega) (by rfl) (pa_cons (pv 0) (pa_cons (pv 1) (pa_cons (pe_ix ix_list (pe_lst (pa_cons pe_int (pa_cons pe_int (pa_cons pe_int (pa_cons pe_int pa_nil))))) (C8.pe_c c_l_take hr (by omega) (by rfl) (pa_cons (pv 0) (pa_cons (pv 1) (pa_cons pe_int pa_nil)))) (fun _ _ => rfl)) pa_nil)))) pa_nil)) (pg_name (i := 3) sc_l_place_rows.nd rfl (.inl rfl))
      (pss_one (ps_expr (pe_bm PySem.F.plainAttrs_list PySem.F.slot_list_append PySem.F.type_list_append mt_append (pv 2) (pa_cons (pe_op op_add_str (pe_op op_add_str (pe_op op_add_str pe_str (pe_callTy call_str_int (by rfl) T.str (by decide +kernel) (pa_cons (pv 3) pa_nil))) (pe_ix ix_list (pe_lst (pa_strs rfl)) (C8.pe_c c_l_take hr (by omega) (by rfl) (pa_cons (pv 0) (pa_cons (pv 1) (pa_cons pe_int pa_nil)))) (fun _ _ => rfl))) (pe_ix ix_list (pe_lst (pa_strs rfl)) (C8.pe_c c_l_take hr (by omega) (by rfl) (pa_cons (pv 0) (pa_cons (pv 1) (pa_cons pe_int pa_nil)))) (fun _ _ => rfl))) pa_nil)))))
      (pss_one (ps_ret (pe_ifExp (pt_cmpR op_gt (C8.pe_c c_l_take hr (by omega) (by rfl) (pa_cons (pv 0) (pa_cons (pv 1) (pa_cons pe_int pa_nil)))) pe_int (nomark _)) (pv 2) (pe_op op_cat (pe_op op_cat (pe_slice sl_list (pv 2) po_none (po_some pe_int)) (pe_lst (pa_strs rfl))) (pe_slice sl_list (pv 2) (po_some pe_int) po_none))))))), ?_⟩
    refine ⟨(by show 0 ≤ sizeLine; decide), fun p hp => ?_⟩
    have rp : RowsAt b H 28 0 p [] (upd H p (.lst [])) := RowsAt.nil S.cell hp
    refine ⟨_, rfl, _, rfl, (by show 4 ≤ sizeLine; decide), fun l hl => ⟨_, rfl, _, rfl, a, b, ns, 4, rfl, S.go (rp.go.new hl), by decide, fun d H2 g2 h0 h1 => ?_⟩⟩
    have hd : ∃ m : Int, 0 < m ∧ m ≤ 13 ∧ atI [V.int 5, V.int 5, V.int 5, V.int 13] d = some (.int m) := by
      rcases (show d = 0 ∨ d = 1 ∨ d = 2 ∨ d = 3 by omega) with rfl | rfl | rfl | rfl
      · exact ⟨5, by decide, by decide, rfl⟩
      · exact ⟨5, by decide, by decide, rfl⟩
      · exact ⟨5, by decide, by decide, rfl⟩
      · exact ⟨13, by decide, by decide, rfl⟩
    obtain ⟨m, m0, m1, em⟩ := hd
    have gl := (Go.refl rp.go.cell).new (o := .lst [.int 5, .int 5, .int 5, .int 13]) hl
    have r2 := (rp.step gl).step g2
    have hl2 : H2 l = some (.lst [.int 5, .int 5, .int 5, .int 13]) := g2.keep _ _ (fun z => by
      obtain ⟨i, _, q⟩ := rp.go.cell
      rw [z, q] at hl
      cases hl) upd_same
    refine ⟨l, _, d, _, rfl, rfl, SqL.of hl2, em, a, b, ns, m, rfl, S.go r2.go, m0, fun n H3 g3 n0 n1 => ?_⟩
    have r3 := r2.step g3
    refine ⟨_, rfl, (rng_of (by omega) (by omega)).1, (rng_of (by omega) (by omega)).2, for_range (n := n.toNat) (fun j σ H1 => ∃ (xs : List Str) (k3 : Option V), σ = [some (.ref a), some (.ref b), some (.ref p), k3] ∧ RowsAt b H 28 j p xs H1)
        ⟨[], _, rfl, r3⟩ ?_ ?_⟩
    · rintro j σ H3 hj ⟨xs, k3, rfl, r⟩
      have kn : Sg 2 (toString ((0 : Int) + (j : Int))) := by
        rw [Int.zero_add]
        exact sg_num (by omega)
      refine ⟨_, rfl, .inl ⟨rfl, _, SqL.of r.at_⟩, _, rfl, _, rfl, ?_, _, _, rfl, rfl, (sg_of (m := 7) (by decide +kernel)).sz kn, ?_⟩
      · rw [Int.zero_add]
        exact log_small (by omega)
      have q1 := (sg_of (m := 7) (x := "place p") (by decide +kernel)).cat kn
      refine ⟨(by show 4 ≤ sizeLine; decide), fun l hl => ⟨_, rfl, _, rfl, a, b, ns, 4, rfl, S.go (r.go.new hl), by decide, fun d H8 g8 d0 d1 => ?_⟩⟩
      obtain ⟨z, hz, ez⟩ := strs_at (xs := ([" 1", " 2", " 3", " 9"] : List Str)) d0 d1
      have r8 := (r.step ((Go.refl r.go.cell).new hl)).step g8
      have hz : Sg 2 z := sg_mem hz (by decide +kernel)
      refine ⟨l, _, d, _, rfl, rfl, SqL.of (strs_new r.go.cell hl g8), ez, _, _, rfl, rfl, q1.sz hz, ?_⟩
      refine ⟨(by show 4 ≤ sizeLine; decide), fun l hl => ⟨_, rfl, _, rfl, a, b, ns, 4, rfl, S.go (r8.go.new hl), by decide, fun d H9 g9 d0 d1 => ?_⟩⟩
      obtain ⟨y, hy, ey⟩ := strs_at (xs := (["", " zone=eu", " zone=us", " size=big zone=eu"] : List Str)) d0 d1
      have r9 := (r8.step ((Go.refl r8.go.cell).new hl)).step g9
      have hy : Sg 17 y := sg_mem hy (by decide +kernel)
      exact ⟨l, _, d, _, rfl, rfl, SqL.of (strs_new r8.go.cell hl g9), ey, _, _, rfl, rfl, (q1.cat hz).sz hy, p, _, _, rfl, rfl, r9.at_, r9.room, _, _, rfl, r9.app (((q1.cat hz).cat hy).mono (by decide))⟩
    · rintro σ H3 ⟨xs, k3, rfl, r⟩
      refine ⟨_, rfl, _, rfl, a, b, ns, 5, rfl, S.go r.go, by decide, fun z H4 g4 _ _ => ?_⟩
      have r := r.step g4
      refine ⟨_, _, rfl, rfl, _, rfl, ite2 (fun _ => ?_) (fun _ => ?_)⟩
      · exact ⟨_, rfl, kk p xs H4 (r.mono (by omega))⟩
      · refine ⟨_, rfl, _, rfl, p, _, rfl, SqL.of r.at_, fun q1 hq1 => ?_⟩
        obtain ⟨m1, e1, l1, s1⟩ := cut_strs xs none (some 1)
        rw [e1]
        have g5 := (Go.refl r.go.cell).new (o := .lst (m1.map V.str)) hq1
        have r1 : RowsAt b H 28 12 q1 m1 (upd H4 q1 (.lst (m1.map V.str))) := ⟨r.go.trans g5, r.go.free hq1, upd_same, Nat.le_trans l1 (Nat.le_trans r.few (by omega)), fun y hy => r.sg y (s1 y hy)⟩
        have r2 := r.step g5
        refine ⟨(by show 1 ≤ sizeLine; decide), fun q2 hq2 => ?_⟩
        have g6 := (Go.refl r2.go.cell).new (o := .lst (([""] : List Str).map V.str)) hq2
        have r3 := r1.step g6
        have r4 := r2.step g6
        refine ⟨q1, q2, _, _, rfl, rfl, r3.at_, upd_same, r3.cat_sz (ys := ([""] : List Str)) (k := 1) (by decide), fun q3 hq3 => ?_⟩
        have r5 := r3.cat (ys := ([""] : List Str)) (k := 1) (by decide) (fun y hy => by rw [List.mem_singleton.mp hy]; exact sg_of (by decide +kernel)) hq3
        have r6 := r4.step ((Go.refl r4.go.cell).new (o := .lst (m1.map V.str ++ ([""] : List Str).map V.str)) hq3)
        refine ⟨_, rfl, _, rfl, p, _, rfl, SqL.of r6.at_, fun q4 hq4 => ?_⟩
        obtain ⟨m2, e2, l2, s2⟩ := cut_strs xs (some 1) none
        rw [e2]
        have r7 := r5.step ((Go.refl r5.go.cell).new (o := .lst (m2.map V.str)) hq4)
        have hm2 : m2.length ≤ 12 := Nat.le_trans l2 (Nat.le_trans r.few (by omega))
        refine ⟨q3, q4, _, _, rfl, rfl, r7.at_, upd_same, r7.cat_sz (ys := m2) (k := 12) hm2, fun q5 hq5 => ?_⟩
        exact kk q5 _ _ ((r7.cat (ys := m2) (k := 12) hm2 (fun y hy => r.sg y (s2 y hy)) hq5).mono (by omega))
abbrev s_l_own_rows : Stmt := topS 58
theorem sc_l_own_rows : FnScope ["row", "spot", "rows", "k", "about"] ["row", "spot"] (defScope s_l_own_rows) := ⟨rfl, rfl, rfl, by decide +kernel, rfl, by decide +kernel, by decide +kernel⟩
theorem ok_own_rows {f : Addr} {fd : FuncData} (F : Fun K "_law_own_rows" "_law_own_rows" s_l_own_rows f fd) (T : Glo mg) (c_l_take : C8.Cal P w K mg base 2 "_law_take" (spTk K) []) :
    FnOk P w K mg base CX0 3 f fd ["row", "spot"] (spRows K 40 7) := by
  refine F.ok sc_l_own_rows (fun vs H Q E h => ?_) (fun cdv A outer s H vs Q E hr h => ?_)
  · obtain ⟨a, b, ns, rfl, _⟩ := h
    rfl
  · obtain ⟨a, b, ns, rfl, S, kk⟩ := h
    refine ⟨_, (pss_cons (ps_set (i := 2) sc_l_own_rows.nd rfl (.inl rfl) (pe_lst pa_nil))
      (pss_cons (ps_for PassesOwn.never rfl (pi_range1 (by rfl) T.range (pa_cons (C8.pe_c c_l_take hr (by omega) (by rfl) (pa_cons (pv 0) (pa_cons (pv 1) (pa_cons pe_int pa_nil)))) pa_nil)) (pg_name (i := 3) sc_l_own_rows.nd rfl (.inl rfl))
      (pss_cons (ps_set (i := 4) sc_l_own_rows.nd rfl (.inl rfl) (pe_ix ix_list (pe_lst (pa_strs rfl)) (C8.pe_c c_l_take hr (by omega) (by rfl) (pa_cons (pv 0) (pa_cons (pv 1) (pa_cons pe_int pa_nil)))) (fun _ _ => rfl)))
        (pss_one (ps_expr (pe_bm PySem.F.plainAttrs_list PySem.F.slot_list_append PySem.F.type_list_append mt_append (pv 2) (pa_cons (pe_op op_add_str (pe_op op_add_str (pe_op op_add_str pe_str (pv 4)) (pe_ix ix_list (pe_lst (pa_strs rfl)) (C8.pe_c c_l_take hr (by omega) (by rfl) (pa_cons (pv 0) (pa_cons (pv 1) (pa_cons pe_int pa_nil)))) (fun _ _ => rfl))) (pe_ix ix_list (pe_lst (pa_strs rfl)) (C8.pe_c c_l_take hr (by omega) (by rfl) (pa_cons (pv 0) (pa_cons (pv 1) (pa_cons pe_int pa_nil)))) (fun _ _ => rfl))) pa_nil))))))
      (pss_one (ps_ret (pe_ifExp (pt_cmpR op_gt (C8.pe_c c_l_take hr (by omega) (by rfl) (pa_cons (pv 0) (pa_cons (pv 1) (pa_cons pe_int pa_nil)))) pe_int (nomark _)) (pv 2) (pe_op op_cat (pe_op op_cat (pe_slice sl_list (pv 2) po_none (po_some pe_int)) (pe_lst (pa_strs rfl))) (pe_slice sl_list (pv 2) (po_some pe_int) po_none))))))), ?_⟩
    refine ⟨(by show 0 ≤ sizeLine; decide), fun p hp => ?_⟩
    have rp : RowsAt b H 40 0 p [] (upd H p (.lst [])) := RowsAt.nil S.cell hp
    refine ⟨_, rfl, _, rfl, a, b, ns, 4, rfl, S.go rp.go, by decide, fun n H3 g3 n0 n1 => ?_⟩
    have r3 := rp.step g3
    refine ⟨_, rfl, (rng_of (by omega) (by omega)).1, (rng_of (by omega) (by omega)).2, for_range (n := n.toNat) (fun j σ H1 => ∃ (xs : List Str) (k3 k4 : Option V), σ = [some (.ref a), some (.ref b), some (.ref p), k3, k4] ∧ RowsAt b H 40 j p xs H1)
        ⟨[], _, _, rfl, r3⟩ ?_ ?_⟩
    · rintro j σ H3 hj ⟨xs, k3, k4, rfl, r⟩
      refine ⟨(by show 6 ≤ sizeLine; decide), fun l hl => ⟨_, rfl, _, rfl, a, b, ns, 6, rfl, S.go (r.go.new hl), by decide, fun d H7 g7 d0 d1 => ?_⟩⟩
      obtain ⟨x, hx, ex⟩ := strs_at (xs := (["app", "app/main", "set", "all/", "build", "own"] : List Str)) d0 d1
      have r7 := (r.step ((Go.refl r.go.cell).new hl)).step g7
      have hx : Sg 8 x := sg_mem hx (by decide +kernel)
      refine ⟨l, _, d, _, rfl, rfl, SqL.of (strs_new r.go.cell hl g7), ex, ?_⟩
      refine ⟨_, rfl, .inl ⟨rfl, _, SqL.of r7.at_⟩, _, rfl, _, _, rfl, rfl, (sg_of (m := 4) (by decide +kernel)).sz hx, ?_⟩
      have q1 := (sg_of (m := 4) (x := "own ") (by decide +kernel)).cat hx
      refine ⟨(by show 6 ≤ sizeLine; decide), fun l hl => ⟨_, rfl, _, rfl, a, b, ns, 6, rfl, S.go (r7.go.new hl), by decide, fun d H8 g8 d0 d1 => ?_⟩⟩
      obtain ⟨z, hz, ez⟩ := strs_at (xs := ([" 0 ", " 0 ", " 1 ", " 1 ", " 2 ", " 3 "] : List Str)) d0 d1
      have r8 := (r7.step ((Go.refl r7.go.cell).new hl)).step g8
      have hz : Sg 3 z := sg_mem hz (by decide +kernel)
      refine ⟨l, _, d, _, rfl, rfl, SqL.of (strs_new r7.go.cell hl g8), ez, _, _, rfl, rfl, q1.sz hz, ?_⟩
      refine ⟨(by show 5 ≤ sizeLine; decide), fun l hl => ⟨_, rfl, _, rfl, a, b, ns, 5, rfl, S.go (r8.go.new hl), by decide, fun d H9 g9 d0 d1 => ?_⟩⟩
      obtain ⟨y, hy, ey⟩ := strs_at (xs := (["ann bob", "ann", "bob cy dee", "dee", "ann bob cy dee eve fay"] : List Str)) d0 d1
      have r9 := (r8.step ((Go.refl r8.go.cell).new hl)).step g9
      have hy : Sg 22 y := sg_mem hy (by decide +kernel)
      exact ⟨l, _, d, _, rfl, rfl, SqL.of (strs_new r8.go.cell hl g9), ey, _, _, rfl, rfl, (q1.cat hz).sz hy, p, _, _, rfl, rfl, r9.at_, r9.room, _, _, _, rfl, r9.app (((q1.cat hz).cat hy).mono (by decide))⟩
    · rintro σ H3 ⟨xs, k3, k4, rfl, r⟩
      refine ⟨_, rfl, _, rfl, a, b, ns, 5, rfl, S.go r.go, by decide, fun z H4 g4 _ _ => ?_⟩
      have r := r.step g4
      refine ⟨_, _, rfl, rfl, _, rfl, ite2 (fun _ => ?_) (fun _ => ?_)⟩
      · exact ⟨_, rfl, kk p xs H4 (r.mono (by omega))⟩
      · refine ⟨_, rfl, _, rfl, p, _, rfl, SqL.of r.at_, fun q1 hq1 => ?_⟩
        obtain ⟨m1, e1, l1, s1⟩ := cut_strs xs none (some 1)
        rw [e1]
        have g5 := (Go.refl r.go.cell).new (o := .lst (m1.map V.str)) hq1
        have r1 : RowsAt b H 40 3 q1 m1 (upd H4 q1 (.lst (m1.map V.str))) := ⟨r.go.trans g5, r.go.free hq1, upd_same, Nat.le_trans l1 (Nat.le_trans r.few (by omega)), fun y hy => r.sg y (s1 y hy)⟩
        have r2 := r.step g5
        refine ⟨(by show 1 ≤ sizeLine; decide), fun q2 hq2 => ?_⟩
        have g6 := (Go.refl r2.go.cell).new (o := .lst (([""] : List Str).map V.str)) hq2
        have r3 := r1.step g6
        have r4 := r2.step g6
        refine ⟨q1, q2, _, _, rfl, rfl, r3.at_, upd_same, r3.cat_sz (ys := ([""] : List Str)) (k := 1) (by decide), fun q3 hq3 => ?_⟩
        have r5 := r3.cat (ys := ([""] : List Str)) (k := 1) (by decide) (fun y hy => by rw [List.mem_singleton.mp hy]; exact sg_of (by decide +kernel)) hq3
        have r6 := r4.step ((Go.refl r4.go.cell).new (o := .lst (m1.map V.str ++ ([""] : List Str).map V.str)) hq3)
        refine ⟨_, rfl, _, rfl, p, _, rfl, SqL.of r6.at_, fun q4 hq4 => ?_⟩
        obtain ⟨m2, e2, l2, s2⟩ := cut_strs xs (some 1) none
        rw [e2]
        have r7 := r5.step ((Go.refl r5.go.cell).new (o := .lst (m2.map V.str)) hq4)
        have hm2 : m2.length ≤ 3 := Nat.le_trans l2 (Nat.le_trans r.few (by omega))
        refine ⟨q3, q4, _, _, rfl, rfl, r7.at_, upd_same, r7.cat_sz (ys := m2) (k := 3) hm2, fun q5 hq5 => ?_⟩
        exact kk q5 _ _ ((r7.cat (ys := m2) (k := 3) hm2 (fun y hy => r.sg y (s2 y hy)) hq5).mono (by omega))
abbrev s_l_goal_rows : Stmt := topS 59
theorem sc_l_goal_rows : FnScope ["row", "spot", "rows", "name"] ["row", "spot"] (defScope s_l_goal_rows) := ⟨rfl, rfl, rfl, by decide +kernel, rfl, by decide +kernel, by decide +kernel⟩
theorem ok_goal_rows {f : Addr} {fd : FuncData} (F : Fun K "_law_goal_rows" "_law_goal_rows" s_l_goal_rows f fd) (T : Glo mg) (c_l_take : C8.Cal P w K mg base 2 "_law_take" (spTk K) []) :
    FnOk P w K mg base CX0 3 f fd ["row", "spot"] (spRows K 20 7) := by
  refine F.ok sc_l_goal_rows (fun vs H Q E h => ?_) (fun cdv A outer s H vs Q E hr h => ?_)
  · obtain ⟨a, b, ns, rfl, _⟩ := h
    rfl
  · obtain ⟨a, b, ns, rfl, S, kk⟩ := h
    refine ⟨_, (pss_cons (ps_set (i := 2) sc_l_goal_rows.nd rfl (.inl rfl) (pe_lst pa_nil))
      (pss_cons (ps_for PassesOwn.never rfl (pi_list (pe_lst (pa_strs rfl))) (pg_name (i := 3) sc_l_goal_rows.nd rfl (.inl rfl))
      (pss_one (ps_if (pt_cmpR op_eq (C8.pe_c c_l_take hr (by omega) (by rfl) (pa_cons (pv 0) (pa_cons (pv 1) (pa_cons pe_int pa_nil)))) pe_int (nomark _))
        (pss_one (ps_expr (pe_bm PySem.F.plainAttrs_list PySem.F.slot_list_append PySem.F.type_list_append mt_append (pv 2) (pa_cons (pe_op op_add_str (pe_op op_add_str (pe_op op_add_str pe_str (pv 3)) (pe_ix ix_list (pe_lst (pa_strs rfl)) (C8.pe_c c_l_take hr (by omega) (by rfl) (pa_cons (pv 0) (pa_cons (pv 1) (pa_cons pe_int pa_nil)))) (fun _ _ => rfl))) (pe_ix ix_list (pe_lst (pa_strs rfl)) (C8.pe_c c_l_take hr (by omega) (by rfl) (pa_cons (pv 0) (pa_cons (pv 1) (pa_cons pe_int pa_nil)))) (fun _ _ => rfl))) pa_nil))))
        pss_nil)))
      (pss_one (ps_ret (pe_ifExp (pt_cmpR op_gt (C8.pe_c c_l_take hr (by omega) (by rfl) (pa_cons (pv 0) (pa_cons (pv 1) (pa_cons pe_int pa_nil)))) pe_int (nomark _)) (pv 2) (pe_op op_cat (pe_op op_cat (pe_slice sl_list (pv 2) po_none (po_some pe_int)) (pe_lst (pa_strs rfl))) (pe_slice sl_list (pv 2) (po_some pe_int) po_none))))))), ?_⟩
    refine ⟨(by show 0 ≤ sizeLine; decide), fun p hp => ?_⟩
    have rp : RowsAt b H 20 0 p [] (upd H p (.lst [])) := RowsAt.nil S.cell hp
    refine ⟨(by show 3 ≤ sizeLine; decide), fun l hl => ?_⟩
    have hlp : l ≠ p := fun z => by
      rw [z, upd_same] at hl
      cases hl
    have hl0 : H l = none := by rw [upd_ne hlp] at hl; exact hl
    have r3 := rp.step ((Go.refl rp.go.cell).new (o := .lst ((["util", "core", "net"] : List Str).map V.str)) hl)
    refine ⟨l, rfl, ⟨_, SqL.of upd_same⟩, for_list (K := K) (a := l) (xs := (["util", "core", "net"] : List Str).map V.str) (fun j σ H1 => ∃ (xs : List Str) (k3 : Option V), σ = [some (.ref a), some (.ref b), some (.ref p), k3] ∧ RowsAt b H 20 j p xs H1 ∧ Strs H1 l ["util", "core", "net"])
        ⟨[], _, rfl, r3, upd_same⟩ (fun i σ H1 _ ⟨_, _, _, _, z⟩ => SqL.of z) ?_ ?_⟩
    · rintro j x σ H3 hj ⟨xs, k3, rfl, r, hs⟩
      obtain ⟨v, hv, rfl⟩ := List.mem_map.mp (List.mem_of_getElem? hj)
      have hv : Sg 4 v := sg_mem hv (by decide +kernel)
      have jl : j < 3 := (List.getElem?_eq_some_iff.mp hj).1
      refine ⟨_, rfl, _, rfl, a, b, ns, 3, rfl, S.go r.go, by decide, fun d H6 g6 _ _ => ?_⟩
      have hs := hs.go r.go.cell g6
      have r := r.step g6
      refine ⟨rfl, _, rfl, ite2 (fun _ => ?_) (fun _ => ⟨_, _, rfl, r.mono (by omega), hs⟩)⟩
      have q1 := (sg_of (m := 5) (x := "need ") (by decide +kernel)).cat hv
      refine ⟨_, rfl, .inl ⟨rfl, _, SqL.of r.at_⟩, _, rfl, _, _, rfl, rfl, (sg_of (m := 5) (by decide +kernel)).sz hv, ?_⟩
      refine ⟨(by show 2 ≤ sizeLine; decide), fun l2 hl => ⟨_, rfl, _, rfl, a, b, ns, 2, rfl, S.go (r.go.new hl), by decide, fun d H8 g8 d0 d1 => ?_⟩⟩
      obtain ⟨z, hz, ez⟩ := strs_at (xs := ([" 1 ", " 2 "] : List Str)) d0 d1
      have gl := (Go.refl r.go.cell).new (o := .lst (([" 1 ", " 2 "] : List Str).map V.str)) hl
      have r8 := (r.step gl).step g8
      have hs := (hs.go r.go.cell gl).go gl.cell g8
      have hz : Sg 3 z := sg_mem hz (by decide +kernel)
      refine ⟨l2, _, d, _, rfl, rfl, SqL.of (strs_new r.go.cell (by assumption) g8), ez, _, _, rfl, rfl, q1.sz hz, ?_⟩
      refine ⟨(by show 4 ≤ sizeLine; decide), fun l2 hl => ⟨_, rfl, _, rfl, a, b, ns, 4, rfl, S.go (r8.go.new hl), by decide, fun d H9 g9 d0 d1 => ?_⟩⟩
      obtain ⟨y, hy, ey⟩ := strs_at (xs := (["2", "3", "4", "9"] : List Str)) d0 d1
      have gl := (Go.refl r8.go.cell).new (o := .lst ((["2", "3", "4", "9"] : List Str).map V.str)) hl
      have r9 := (r8.step gl).step g9
      have hs := (hs.go r8.go.cell gl).go gl.cell g9
      have hy : Sg 1 y := sg_mem hy (by decide +kernel)
      exact ⟨l2, _, d, _, rfl, rfl, SqL.of (strs_new r8.go.cell (by assumption) g9), ey, _, _, rfl, rfl, (q1.cat hz).sz hy, p, _, _, rfl, rfl, r9.at_, r9.room, _, _, rfl, r9.app (((q1.cat hz).cat hy).mono (by decide)), by unfold Strs; rw [upd_ne hlp]; exact hs⟩
    · rintro σ H3 ⟨xs, k3, rfl, r, _⟩
      have r : RowsAt b H 20 3 p xs H3 := r
      refine ⟨_, rfl, _, rfl, a, b, ns, 5, rfl, S.go r.go, by decide, fun z H4 g4 _ _ => ?_⟩
      have r := r.step g4
      refine ⟨_, _, rfl, rfl, _, rfl, ite2 (fun _ => ?_) (fun _ => ?_)⟩
      · exact ⟨_, rfl, kk p xs H4 (r.mono (by omega))⟩
      · refine ⟨_, rfl, _, rfl, p, _, rfl, SqL.of r.at_, fun q1 hq1 => ?_⟩
        obtain ⟨m1, e1, l1, s1⟩ := cut_strs xs none (some 1)
        rw [e1]
        have g5 := (Go.refl r.go.cell).new (o := .lst (m1.map V.str)) hq1
        have r1 : RowsAt b H 20 3 q1 m1 (upd H4 q1 (.lst (m1.map V.str))) := ⟨r.go.trans g5, r.go.free hq1, upd_same, Nat.le_trans l1 (Nat.le_trans r.few (by omega)), fun y hy => r.sg y (s1 y hy)⟩
        have r2 := r.step g5
        refine ⟨(by show 1 ≤ sizeLine; decide), fun q2 hq2 => ?_⟩
        have g6 := (Go.refl r2.go.cell).new (o := .lst (([""] : List Str).map V.str)) hq2
        have r3 := r1.step g6
        have r4 := r2.step g6
        refine ⟨q1, q2, _, _, rfl, rfl, r3.at_, upd_same, r3.cat_sz (ys := ([""] : List Str)) (k := 1) (by decide), fun q3 hq3 => ?_⟩
        have r5 := r3.cat (ys := ([""] : List Str)) (k := 1) (by decide) (fun y hy => by rw [List.mem_singleton.mp hy]; exact sg_of (by decide +kernel)) hq3
        have r6 := r4.step ((Go.refl r4.go.cell).new (o := .lst (m1.map V.str ++ ([""] : List Str).map V.str)) hq3)
        refine ⟨_, rfl, _, rfl, p, _, rfl, SqL.of r6.at_, fun q4 hq4 => ?_⟩
        obtain ⟨m2, e2, l2, s2⟩ := cut_strs xs (some 1) none
        rw [e2]
        have r7 := r5.step ((Go.refl r5.go.cell).new (o := .lst (m2.map V.str)) hq4)
        have hm2 : m2.length ≤ 3 := Nat.le_trans l2 (Nat.le_trans r.few (by omega))
        refine ⟨q3, q4, _, _, rfl, rfl, r7.at_, upd_same, r7.cat_sz (ys := m2) (k := 3) hm2, fun q5 hq5 => ?_⟩
        exact kk q5 _ _ ((r7.cat (ys := m2) (k := 3) hm2 (fun y hy => r.sg y (s2 y hy)) hq5).mono (by omega))
end
end Kl

namespace Kl
open PySem L2 Kd
/-! files by their paths -/
abbrev Fs := List (Str × Str)
section
variable {α : Type}
def valF (fs : List (Str × α)) (p : Str) : Option α := (fs.find? fun q => decide (q.1 = p)).map (·.2)
def putF (fs : List (Str × α)) (p : Str) (c : α) : List (Str × α) := if (fs.any fun q => decide (q.1 = p)) then fs.map (fun q => if q.1 = p then (q.1, c) else q) else fs ++ [(p, c)]
def dropF (fs : List (Str × α)) (p : Str) : List (Str × α) := fs.filter fun q => decide (q.1 ≠ p)
def kvG (f : α → V) (fs : List (Str × α)) : List (Key × V) := fs.map fun q => (Sum.inr q.1, f q.2)
abbrev kvF (fs : Fs) : List (Key × V) := kvG V.str fs
variable (f : α → V)
theorem kvF_any (p : Str) (fs : List (Str × α)) : ((kvG f fs).any fun q => decide (q.1 = Sum.inr p)) = fs.any fun q => decide (q.1 = p) := by
  unfold kvG
  rw [List.any_map]
  congr 1
  funext q
  simp
theorem valF_pos {q : Str × α} {r : List (Str × α)} {p : Str} (e : q.1 = p) : valF (q :: r) p = some q.2 := by simp [valF, List.find?_cons, e]
theorem valF_neg {q : Str × α} {r : List (Str × α)} {p : Str} (e : ¬ q.1 = p) : valF (q :: r) p = valF r p := by simp [valF, List.find?_cons, e]
theorem kvF_val (fs : List (Str × α)) (p : Str) : valV (kvG f fs) (Sum.inr p) = (valF fs p).map f := by
  induction fs with
  | nil => rfl
  | cons q r ih =>
    by_cases e : q.1 = p
    · have h1 : valV (kvG f (q :: r)) (Sum.inr p) = some (f q.2) := valV_pos (p := (Sum.inr q.1, f q.2)) (r := kvG f r) (by rw [e])
      rw [h1, valF_pos e]
      rfl
    · have h1 : valV (kvG f (q :: r)) (Sum.inr p) = valV (kvG f r) (Sum.inr p) := valV_neg (p := (Sum.inr q.1, f q.2)) (r := kvG f r) (by simpa using e)
      rw [h1, ih, valF_neg e]
theorem kvF_put (fs : List (Str × α)) (p : Str) (c : α) : putK (kvG f fs) (Sum.inr p) (f c) = kvG f (putF fs p c) := by
  unfold putK putF
  rw [kvF_any]
  split
  · unfold kvG
    rw [List.map_map, List.map_map]
    congr 1
    funext q
    simp only [Function.comp]
    by_cases e : q.1 = p
    · simp [e]
    · simp [e]
  · unfold kvG
    rw [List.map_append]
    rfl
theorem kvF_drop (fs : List (Str × α)) (p : Str) : dropK (kvG f fs) (Sum.inr p) = kvG f (dropF fs p) := by
  unfold dropK dropF kvG
  rw [List.filter_map]
  congr 1
  congr 1
  funext q
  simp
theorem kvF_keys (fs : List (Str × α)) : (kvG f fs).map (·.1) = (fs.map (·.1)).map Sum.inr := by
  unfold kvG
  rw [List.map_map, List.map_map]
  rfl
variable {f}
theorem valF_map (p j : Str) (c : α) : ∀ fs : List (Str × α), valF (fs.map (fun q => if q.1 = p then (q.1, c) else q)) j = (valF fs j).map fun x => if j = p then c else x
  | [] => rfl
  | q :: r => by
    have ih := valF_map p j c r
    rw [List.map_cons]
    by_cases e : q.1 = j
    · rw [valF_pos (q := q) e]
      by_cases ep : q.1 = p
      · have ejp : j = p := by rw [← e, ep]
        simp [ep, ejp, valF]
      · have ejp : ¬ j = p := by rw [← e]; exact ep
        rw [if_neg ep, valF_pos e]
        simp [ejp]
    · rw [valF_neg (q := q) e, ← ih]
      by_cases ep : q.1 = p
      · rw [if_pos ep]
        exact valF_neg (q := (q.1, c)) e
      · rw [if_neg ep]
        exact valF_neg e
theorem valF_snoc (p j : Str) (c : α) : ∀ fs : List (Str × α), valF (fs ++ [(p, c)]) j = (valF fs j).or (if p = j then some c else none)
  | [] => by
    by_cases e : p = j
    · rw [if_pos e]
      exact valF_pos (q := (p, c)) e
    · rw [if_neg e]
      exact valF_neg (q := (p, c)) (r := []) e
  | q :: r => by
    have ih := valF_snoc p j c r
    by_cases e : q.1 = j
    · rw [List.cons_append, valF_pos e, valF_pos e]
      rfl
    · rw [List.cons_append, valF_neg e, valF_neg e, ih]
theorem valF_put (fs : List (Str × α)) (p j : Str) (c : α) : valF (putF fs p c) j = if j = p then some c else valF fs j := by
  have hp : (fs.any fun q => decide (q.1 = p)) = (valF fs p).isSome := by
    unfold valF
    rw [Option.isSome_map, Bool.eq_iff_iff, List.any_eq_true, List.find?_isSome]
  unfold putF
  rw [hp]
  cases hv : valF fs p with
  | none =>
    rw [if_neg (by simp), valF_snoc]
    by_cases e : j = p
    · rw [e, hv]
      simp
    · rw [if_neg (fun z => e z.symm), if_neg e, Option.or_none]
  | some x =>
    rw [if_pos (by simp), valF_map]
    by_cases e : j = p
    · rw [if_pos e, e, hv]
      simp
    · simp [e]
theorem valF_some {fs : List (Str × α)} {p : Str} {c : α} (h : valF fs p = some c) : (p, c) ∈ fs := by
  unfold valF at h
  rw [Option.map_eq_some_iff] at h
  obtain ⟨q, hq, rfl⟩ := h
  have h1 := List.find?_some hq
  have h2 := List.mem_of_find?_eq_some hq
  have h3 : q.1 = p := of_decide_eq_true h1
  rw [← h3]
  exact h2
theorem valF_none {fs : List (Str × α)} {p : Str} (h : valF fs p = none) : p ∉ fs.map (·.1) := by
  intro hm
  obtain ⟨q, hq, e⟩ := List.mem_map.mp hm
  unfold valF at h
  rw [Option.map_eq_none_iff, List.find?_eq_none] at h
  exact h q hq (decide_eq_true e)
theorem valF_mem {fs : List (Str × α)} (nd : (fs.map (·.1)).Nodup) {p : Str} {c : α} (h : (p, c) ∈ fs) : valF fs p = some c := by
  induction fs with
  | nil => cases h
  | cons q r ih =>
    rw [List.map_cons, List.nodup_cons] at nd
    rcases List.mem_cons.mp h with e | h
    · subst e
      simp [valF]
    · have e : q.1 ≠ p := fun z => nd.1 (List.mem_map.mpr ⟨_, h, z.symm⟩)
      have := ih nd.2 h
      simpa [valF, List.find?_cons, e] using this
theorem valF_isSome {fs : List (Str × α)} {p : Str} : (valF fs p).isSome = true ↔ p ∈ fs.map (·.1) := by
  constructor
  · intro h
    obtain ⟨c, hc⟩ := Option.isSome_iff_exists.mp h
    exact List.mem_map.mpr ⟨_, valF_some hc, rfl⟩
  · intro h
    cases e : valF fs p with
    | none => exact absurd h (valF_none e)
    | some c => rfl
end
/-! the order of texts -/
def Lt (x y : Str) : Prop := x.cps.toList < y.cps.toList
instance (x y : Str) : Decidable (Lt x y) := inferInstanceAs (Decidable (x.cps.toList < y.cps.toList))
theorem Lt.irrefl (x : Str) : ¬ Lt x x := List.lt_irrefl _
theorem Lt.trans {x y z : Str} (a : Lt x y) (b : Lt y z) : Lt x z := List.lt_trans a b
theorem Lt.ne {x y : Str} (a : Lt x y) : x ≠ y := fun e => Lt.irrefl y (by rw [e] at a; exact a)
theorem Lt.tri {x y : Str} (a : ¬ Lt y x) (n : x ≠ y) : Lt x y := by
  have h : x.cps.toList ≤ y.cps.toList := a
  rcases List.le_iff_lt_or_eq.mp h with h | h
  · exact h
  · exact absurd (TL.ext_tl h) n
abbrev Asc (xs : List Str) : Prop := xs.Pairwise Lt
theorem Asc.nodup {xs : List Str} (h : Asc xs) : xs.Nodup := h.imp fun a => Lt.ne a
theorem rising_asc : ∀ {xs : List Str} {p : Str}, PyProof.Rows.risingS p xs = true → (p :: xs).Nodup → Asc (p :: xs)
  | [], p, _, _ => List.pairwise_singleton _ _
  | x :: r, p, h, nd => by
    have h' : (!PySem.Spec.ltCps x.cps.toList p.cps.toList && PyProof.Rows.risingS x r) = true := h
    rw [Bool.and_eq_true, Bool.not_eq_true', PyProof.Rows.ltCps_eq] at h'
    have nd' := List.nodup_cons.mp nd
    have ih := rising_asc h'.2 nd'.2
    have hpx : Lt p x := Lt.tri (of_decide_eq_false h'.1) fun e => nd'.1 (by rw [e]; exact List.mem_cons_self ..)
    refine List.pairwise_cons.mpr ⟨fun y hy => ?_, ih⟩
    rcases List.mem_cons.mp hy with rfl | hy
    · exact hpx
    · exact hpx.trans ((List.pairwise_cons.mp ih).1 y hy)
theorem asc_of {xs : List Str} (h : PyProof.Rows.sortedS xs = true) (nd : xs.Nodup) : Asc xs := by
  cases xs with
  | nil => exact List.Pairwise.nil
  | cons p r => exact rising_asc h nd
/-- two rising rows of the same texts are one -/
theorem Asc.unique : ∀ {xs ys : List Str}, Asc xs → Asc ys → (∀ p, p ∈ xs ↔ p ∈ ys) → xs = ys
  | [], [], _, _, _ => rfl
  | [], y :: r, _, _, h => absurd ((h y).mpr (List.mem_cons_self ..)) (by simp)
  | x :: r, [], _, _, h => absurd ((h x).mp (List.mem_cons_self ..)) (by simp)
  | x :: r, y :: q, a, b, h => by
    have a' := List.pairwise_cons.mp a
    have b' := List.pairwise_cons.mp b
    have e : x = y := by
      rcases List.mem_cons.mp ((h x).mp (List.mem_cons_self ..)) with e | hx
      · exact e
      · rcases List.mem_cons.mp ((h y).mpr (List.mem_cons_self ..)) with e | hy
        · exact e.symm
        · exact absurd ((a'.1 y hy).trans (b'.1 x hx)) (Lt.irrefl _)
    subst e
    have : r = q := Asc.unique a'.2 b'.2 fun p => by
      constructor
      · intro hp
        rcases List.mem_cons.mp ((h p).mp (List.mem_cons_of_mem _ hp)) with e | hq
        · subst e
          exact absurd (a'.1 _ hp) (Lt.irrefl _)
        · exact hq
      · intro hp
        rcases List.mem_cons.mp ((h p).mpr (List.mem_cons_of_mem _ hp)) with e | hq
        · subst e
          exact absurd (b'.1 _ hp) (Lt.irrefl _)
        · exact hq
    rw [this]
/-- rising files with the same content at each path are one -/
theorem fs_unique {α : Type} {fs gs : List (Str × α)} (a : Asc (fs.map (·.1))) (b : Asc (gs.map (·.1))) (h : ∀ p, valF fs p = valF gs p) : fs = gs := by
  have e : fs.map (·.1) = gs.map (·.1) := a.unique b fun p => by rw [← valF_isSome, ← valF_isSome, h]
  have hl : fs.length = gs.length := by simpa using congrArg List.length e
  refine List.ext_getElem hl fun i h1 h2 => ?_
  have e1 : (fs[i]).1 = (gs[i]).1 := by
    have := congrArg (fun l => l[i]?) e
    simpa [h1, h2] using this
  have v1 := valF_mem a.nodup (p := (fs[i]).1) (c := (fs[i]).2) (List.getElem_mem h1)
  have v2 := valF_mem b.nodup (p := (gs[i]).1) (c := (gs[i]).2) (List.getElem_mem h2)
  rw [h, e1] at v1
  rw [v1] at v2
  exact Prod.ext e1 (Option.some.inj v2)
theorem putF_keys {α : Type} (fs : List (Str × α)) (p : Str) (c : α) : (putF fs p c).map (·.1) = if p ∈ fs.map (·.1) then fs.map (·.1) else fs.map (·.1) ++ [p] := by
  unfold putF
  by_cases h : p ∈ fs.map (·.1)
  · have h1 : (fs.any fun q => decide (q.1 = p)) = true := by
      obtain ⟨q, hq, e⟩ := List.mem_map.mp h
      exact List.any_eq_true.mpr ⟨q, hq, decide_eq_true e⟩
    rw [if_pos h, if_pos h1, List.map_map]
    congr 1
    funext q
    simp only [Function.comp]
    split <;> rfl
  · have h1 : ¬ (fs.any fun q => decide (q.1 = p)) = true := fun z => by
      obtain ⟨q, hq, e⟩ := List.any_eq_true.mp z
      exact h (List.mem_map.mpr ⟨q, hq, of_decide_eq_true e⟩)
    rw [if_neg h, if_neg h1, List.map_append]
    rfl
theorem putF_nodup {α : Type} {fs : List (Str × α)} {p : Str} {c : α} (nd : (fs.map (·.1)).Nodup) : ((putF fs p c).map (·.1)).Nodup := by
  rw [putF_keys]
  split
  · exact nd
  · rename_i h
    rw [List.nodup_append]
    exact ⟨nd, by simp, fun a ha b hb => by
      rw [List.mem_singleton.mp hb]
      exact fun e => h (by rw [← e]; exact ha)⟩
theorem putF_mem {α : Type} {fs : List (Str × α)} {p : Str} {c : α} {q : Str × α} (h : q ∈ putF fs p c) : q = (p, c) ∨ q ∈ fs := by
  unfold putF at h
  split at h
  · obtain ⟨z, hz, e⟩ := List.mem_map.mp h
    split at e
    · rename_i hz1
      exact .inl (by rw [← e, hz1])
    · exact .inr (by rw [← e]; exact hz)
  · rcases List.mem_append.mp h with h | h
    · exact .inr h
    · exact .inl (List.mem_singleton.mp h)
theorem dropF_sub {α : Type} {fs : List (Str × α)} {p : Str} {q : Str × α} (h : q ∈ dropF fs p) : q ∈ fs := (List.mem_filter.mp h).1
theorem dropF_nodup {α : Type} {fs : List (Str × α)} {p : Str} (nd : (fs.map (·.1)).Nodup) : ((dropF fs p).map (·.1)).Nodup := by
  have : ((dropF fs p).map (·.1)).Sublist (fs.map (·.1)) := List.Sublist.map _ List.filter_sublist
  exact this.nodup nd
theorem valF_drop {α : Type} (fs : List (Str × α)) (p j : Str) : valF (dropF fs p) j = if j = p then none else valF fs j := by
  induction fs with
  | nil => simp [valF, dropF]
  | cons q r ih =>
    unfold dropF at ih ⊢
    by_cases e : q.1 = p
    · rw [List.filter_cons_of_neg (by simp [e]), ih]
      by_cases ej : j = p
      · simp [ej]
      · rw [if_neg ej, if_neg ej]
        have : q.1 ≠ j := fun z => ej (by rw [← z, e])
        simp [valF, List.find?_cons, this]
    · rw [List.filter_cons_of_pos (by simp [e])]
      by_cases eq : q.1 = j
      · have : j ≠ p := fun z => e (by rw [eq, z])
        rw [if_neg this]
        simp [valF, List.find?_cons, eq]
      · have h1 : valF (q :: List.filter (fun q => decide (q.fst ≠ p)) r) j = valF (List.filter (fun q => decide (q.fst ≠ p)) r) j := by simp [valF, List.find?_cons, eq]
        have h2 : valF (q :: r) j = valF r j := by simp [valF, List.find?_cons, eq]
        rw [h1, ih, h2]
/-- by the rising row of its paths -/
def sortF {α : Type} [Inhabited α] (fs : List (Str × α)) (ks : List Str) : List (Str × α) := ks.map fun p => (p, (valF fs p).getD default)
theorem sortF_keys {α : Type} [Inhabited α] (fs : List (Str × α)) (ks : List Str) : (sortF fs ks).map (·.1) = ks := by
  unfold sortF
  rw [List.map_map]
  exact List.map_id' ks
theorem valF_sortF {α : Type} [Inhabited α] {fs : List (Str × α)} : ∀ {ks : List Str} (p : Str), valF (sortF fs ks) p = if p ∈ ks then some ((valF fs p).getD default) else none
  | [], p => by simp [sortF, valF]
  | k :: r, p => by
    have ih := valF_sortF (fs := fs) (ks := r) p
    unfold sortF at ih ⊢
    by_cases e : k = p
    · subst e
      simp [valF]
    · have h1 : valF (List.map (fun p => (p, (valF fs p).getD default)) (k :: r)) p = valF (List.map (fun p => (p, (valF fs p).getD default)) r) p := by simp [valF, List.find?_cons, e]
      rw [h1, ih]
      have : (p ∈ k :: r) ↔ p ∈ r := by
        rw [List.mem_cons]
        exact ⟨fun h => h.resolve_left fun z => e z.symm, .inr⟩
      simp only [this]
theorem sortF_val {α : Type} [Inhabited α] {fs : List (Str × α)} {ks : List Str} (h : ks.Perm (fs.map (·.1))) (p : Str) : valF (sortF fs ks) p = valF fs p := by
  rw [valF_sortF]
  by_cases e : p ∈ ks
  · rw [if_pos e]
    have := valF_isSome.mpr (h.mem_iff.mp e)
    obtain ⟨c, hc⟩ := Option.isSome_iff_exists.mp this
    rw [hc]
    rfl
  · rw [if_neg e]
    cases hv : valF fs p with
    | none => rfl
    | some c => exact absurd (h.mem_iff.mpr (valF_isSome.mp (by rw [hv]; rfl))) e
theorem kvF_put' (fs : Fs) (p c : Str) : putK (kvF fs) (Sum.inr p) (.str c) = kvF (putF fs p c) := kvF_put V.str fs p c
theorem kvF_val' (fs : Fs) (p : Str) : valV (kvF fs) (Sum.inr p) = (valF fs p).map V.str := kvF_val V.str fs p
theorem kvF_drop' (fs : Fs) (p : Str) : dropK (kvF fs) (Sum.inr p) = kvF (dropF fs p) := kvF_drop V.str fs p
theorem kvF_keys' (fs : Fs) : (kvF fs).map (·.1) = (fs.map (·.1)).map Sum.inr := kvF_keys V.str fs
end Kl

namespace Kl
open PySem L2 Kd
abbrev allPaths : List Str := ["app/main", "app/side", "app/sub/deep", "appx/z", "build/a", "build/b", "build/c", "build/lib/b", "builds/a", "doc/more", "doc/new", "doc/note", "fleet/places", "own/rules", "pack/goals", "set/all", "set/b", "set/eu/west", "sets/a"]
theorem nodup_le {α : Type} [DecidableEq α] : ∀ {xs ys : List α}, xs.Nodup → (∀ x ∈ xs, x ∈ ys) → xs.length ≤ ys.length
  | [], _, _, _ => Nat.zero_le _
  | x :: r, ys, nd, h => by
    have nd' := List.nodup_cons.mp nd
    have ih := nodup_le (xs := r) (ys := ys.erase x) nd'.2 fun z hz => (List.mem_erase_of_ne (fun e => nd'.1 (by rw [← e]; exact hz))).mpr (h z (List.mem_cons_of_mem _ hz))
    have hx := h x (List.mem_cons_self ..)
    have := List.length_erase_of_mem hx
    have : 0 < ys.length := List.length_pos_of_mem hx
    rw [List.length_cons]
    omega
structure FOk (fs : Fs) : Prop where
  nd : (fs.map (·.1)).Nodup
  path : ∀ q ∈ fs, q.1 ∈ allPaths
  ct : ∀ q ∈ fs, Ct 1000 q.2
theorem FOk.few {fs : Fs} (h : FOk fs) : fs.length ≤ 20 := by
  have := nodup_le (ys := allPaths) h.nd fun p hp => by
    obtain ⟨q, hq, e⟩ := List.mem_map.mp hp
    rw [← e]
    exact h.path q hq
  rw [List.length_map] at this
  exact Nat.le_trans this (by decide)
theorem FOk.nil : FOk [] := ⟨List.nodup_nil, fun _ h => (nomatch h), fun _ h => (nomatch h)⟩
theorem FOk.put {fs : Fs} (h : FOk fs) {p c : Str} (hp : p ∈ allPaths) (hc : Ct 1000 c) : FOk (putF fs p c) := by
  refine ⟨putF_nodup h.nd, fun q hq => ?_, fun q hq => ?_⟩
  · rcases putF_mem hq with e | e
    · rw [e]
      exact hp
    · exact h.path q e
  · rcases putF_mem hq with e | e
    · rw [e]
      exact hc
    · exact h.ct q e
theorem FOk.drop {fs : Fs} (h : FOk fs) {p : Str} : FOk (dropF fs p) := ⟨dropF_nodup h.nd, fun q hq => h.path q (dropF_sub hq), fun q hq => h.ct q (dropF_sub hq)⟩
theorem FOk.sort {fs : Fs} (h : FOk fs) {ks : List Str} (hk : ks.Perm (fs.map (·.1))) : FOk (sortF fs ks) := by
  have hv : ∀ q ∈ sortF fs ks, q ∈ fs := fun q hq => by
    obtain ⟨p, hp, e⟩ := List.mem_map.mp hq
    obtain ⟨c, hc⟩ := Option.isSome_iff_exists.mp (valF_isSome.mpr (hk.mem_iff.mp hp))
    rw [hc] at e
    rw [← e]
    exact valF_some hc
  exact ⟨by rw [sortF_keys]; exact hk.nodup_iff.mpr h.nd, fun q hq => h.path q (hv q hq), fun q hq => h.ct q (hv q hq)⟩
theorem putF_ne (fs : Fs) (p c : Str) : putF fs p c ≠ [] := fun h => by
  have := putF_keys fs p c
  rw [h] at this
  split at this
  · rename_i hm
    rw [← this] at hm
    cases hm
  · exact absurd (congrArg List.length this) (by simp)
/-- a dict of files at dd, made since H0 -/
structure FilesAt (b : Addr) (H0 : Hp) (dd : Addr) (fs : Fs) (H : Hp) : Prop where
  go : Go b H0 H
  new : H0 dd = none
  at_ : H dd = some (.dK (kvF fs))
  ok : FOk fs
theorem FilesAt.ne {b : Addr} {H0 H : Hp} {dd : Addr} {fs : Fs} (r : FilesAt b H0 dd fs H) : b ≠ dd := fun z => by
  obtain ⟨i, _, q⟩ := r.go.cell
  rw [z, r.at_] at q
  cases q
theorem FilesAt.step {b : Addr} {H0 H H' : Hp} {dd : Addr} {fs : Fs} (r : FilesAt b H0 dd fs H) (g : Go b H H') : FilesAt b H0 dd fs H' :=
  ⟨r.go.trans g, r.new, g.keep _ _ (Ne.symm r.ne) r.at_, r.ok⟩
theorem FilesAt.put {b : Addr} {H0 H : Hp} {dd : Addr} {fs : Fs} (r : FilesAt b H0 dd fs H) {p c : Str} (hp : p ∈ allPaths) (hc : Ct 1000 c) : FilesAt b H0 dd (putF fs p c) (upd H dd (.dK (kvF (putF fs p c)))) :=
  ⟨r.go.mut r.new r.ne, r.new, upd_same, r.ok.put hp hc⟩
theorem FilesAt.dput {b : Addr} {H0 H : Hp} {dd : Addr} {fs : Fs} (r : FilesAt b H0 dd fs H) {p c : Str} : DPut H dd (.str p) (.str c) (upd H dd (.dK (kvF (putF fs p c)))) := by
  rw [← kvF_put']
  refine DPut.k (k := Sum.inr p) r.at_ ?_
  unfold kvF kvG
  rw [List.length_map]
  exact small_lt (by have := r.ok.few; omega)
theorem FilesAt.dget {b : Addr} {H0 H : Hp} {dd : Addr} {fs : Fs} (r : FilesAt b H0 dd fs H) {p c : Str} (h : valF fs p = some c) : DGet H dd (.str p) (some (.str c)) := by
  have := DGet.k (k := Sum.inr p) r.at_
  rw [kvF_val', h] at this
  exact this
def pairD (q : Str × Str) : D := .tup [.str q.1, .str q.2]
def filesD (fs : Fs) : D := .tup (fs.map pairD)
theorem pair_rep {H : Hp} {t : Addr} {p c : Str} (h : H t = some (.tup [.str p, .str c])) : Rep H (pairD (p, c)) (.ref t) :=
  ⟨t, _, rfl, .inl h, by show 2 ≤ sizeLine; decide, .str p, [.str c], rfl, rfl, .str c, [], rfl, rfl, rfl⟩
theorem Tk.of {H : Hp} {p : Addr} {u o : HO} (h : H p = some u) (n : ∀ xs, u ≠ .tup xs) (n2 : ∀ o xs, u ≠ .frz o (.tup xs)) : Tk H (upd H p o) := fun a ys e => e.imp
    (fun e => by rw [upd_ne (ne_of e h (fun z => n ys z.symm))]; exact e)
    (fun ⟨o2, e⟩ => ⟨o2, by rw [upd_ne (ne_of e h (fun z => n2 o2 ys z.symm))]; exact e⟩)
/-- a pair of a path and its rows -/
structure OtherAt (H : Hp) (v : V) (t : Addr) (nm : Str) (p : Addr) (xs : List Str) : Prop where
  v_ : v = .ref t
  tup : H t = some (.tup [.str nm, .ref p])
  rows : Strs H p xs
  few : xs.length ≤ 1000
  sg : ∀ x ∈ xs, Sg 400 x
  path : nm ∈ allPaths
  ct : Ct 1000 (contentOf xs)
abbrev Other (H : Hp) (v : V) : Prop := ∃ (t : Addr) (nm : Str) (p : Addr) (xs : List Str), OtherAt H v t nm p xs
theorem Other.go {b : Addr} {H H' : Hp} {v : V} (h : Other H v) (c : ∃ i : Int, 0 ≤ i ∧ H b = some (.lst [.int i])) (g : Go b H H') : Other H' v := by
  obtain ⟨t, nm, p, xs, o⟩ := h
  exact ⟨t, nm, p, xs, o.v_, g.keep _ _ (fun z => by
    obtain ⟨i, _, q⟩ := c
    have := o.tup
    rw [z, q] at this
    cases this) o.tup, o.rows.go c g, o.few, o.sg, o.path, o.ct⟩
theorem Other.dict {H : Hp} {v : V} {dd : Addr} {kvs : List (Key × V)} {u : HO} (h : Other H v) (e : H dd = some (.dK kvs)) : Other (upd H dd u) v := by
  obtain ⟨t, nm, p, xs, o⟩ := h
  refine ⟨t, nm, p, xs, o.v_, ?_, ?_, o.few, o.sg, o.path, o.ct⟩
  · rw [upd_ne (ne_of o.tup e (fun z => nomatch z))]
    exact o.tup
  · unfold Strs
    rw [upd_ne (ne_of o.rows e (fun z => nomatch z))]
    exact o.rows
theorem Other.mk' {b : Addr} {H0 H : Hp} {m n : Nat} {p t : Addr} {nm : Str} {xs : List Str} (r : RowsAt b H0 m n p xs H) (ht : H t = none) (hp : nm ∈ allPaths) (hm : m ≤ 400) (hn : n ≤ 1000) (hk : n * (m + 1) ≤ 1000) : Other (upd H t (.tup [.str nm, .ref p])) (.ref t) :=
  ⟨t, nm, p, xs, rfl, upd_same, by unfold Strs; rw [upd_ne (ne_of_none r.at_ ht)]; exact r.at_, Nat.le_trans r.few hn, fun x hx => (r.sg x hx).mono hm, hp, content_ct r.few r.sg hk⟩
/-- a drawn tree -/
def spTree (K : PySem.W.Frag) : Sp := fun vs H Q _ => ∃ (a b : Addr) (ns : List Int), vs = [.ref a, .ref b] ∧ Sp0 K a b ns H ∧
  ∀ (v : V) (fs : Fs) (H' : Hp), Go b H H' → Rep H' (filesD fs) v → FOk fs → Asc (fs.map (·.1)) → fs ≠ [] → Q v H'
abbrev rLenQ (K : PySem.W.Frag) : List V → Hp → VK → Prop := fun xs H Q => ∃ p ys, xs = [.ref p] ∧ (SqL K H p ys ∨ SqT K H p ys) ∧ Q (.int ys.length) H
theorem cut_take (xs : List Str) (i : Nat) : cutV (xs.map V.str) none (some (i : Int)) = (xs.take i).map V.str := by
  unfold cutV
  rw [HT.sIx_none, HT.sIx_nat, List.drop_zero, ← List.map_take, List.length_map, Nat.sub_zero]
  congr 1
  by_cases h : i ≤ xs.length
  · rw [Nat.min_eq_left h]
  · rw [Nat.min_eq_right (by omega), List.take_of_length_le (Nat.le_refl _), List.take_of_length_le (by omega)]
theorem cut_drop (xs : List Str) (i : Nat) : cutV (xs.map V.str) (some (i : Int)) none = (xs.drop i).map V.str := by
  unfold cutV
  rw [HT.sIx_none, HT.sIx_nat, ← List.map_drop, List.length_map, ← List.map_take]
  congr 1
  by_cases h : i ≤ xs.length
  · rw [Nat.min_eq_left h, List.take_of_length_le (by rw [List.length_drop] <;> exact Nat.le_refl _)]
  · rw [Nat.min_eq_right (by omega), List.drop_of_length_le (Nat.le_refl _), List.drop_of_length_le (by omega), List.take_nil]
section
variable {P : Program} {w : World} {K : PySem.W.Frag} {mg : Str → Option Value} {base : Heap}
abbrev s_l_tree : Stmt := topS 60
theorem sc_l_tree : FnScope ["row", "spot", "files", "path", "rows", "cut", "others", "pair", "k"] ["row", "spot"] (defScope s_l_tree) := ⟨rfl, rfl, rfl, by decide +kernel, rfl, by decide +kernel, by decide +kernel⟩
theorem ok_tree {f : Addr} {fd : FuncData} (F : Fun K "_law_tree" "_law_tree" s_l_tree f fd) (T : Glo mg) (c_l_take : C8.Cal P w K mg base 2 "_law_take" (spTk K) []) (c_l_text : C8.Cal P w K mg base 3 "_law_text" (spText K) [])
    (c_l_rule_rows : C8.Cal P w K mg base 7 "_law_rule_rows" (spRules K) []) (c_l_content : C8.Cal P w K mg base 1 "_law_content" (spContent K) []) (c_l_setting_rows : C8.Cal P w K mg base 3 "_law_setting_rows" (spRows K 20 25) [])
    (c_l_place_rows : C8.Cal P w K mg base 3 "_law_place_rows" (spRows K 28 25) []) (c_l_own_rows : C8.Cal P w K mg base 3 "_law_own_rows" (spRows K 40 7) []) (c_l_goal_rows : C8.Cal P w K mg base 3 "_law_goal_rows" (spRows K 20 7) []) :
    FnOk P w K mg base CX0 8 f fd ["row", "spot"] (spTree K) := by
  refine F.ok sc_l_tree (fun vs H Q E h => ?_) (fun cdv A outer s H vs Q E hr h => ?_)
  · obtain ⟨a, b, ns, rfl, _⟩ := h
    rfl
  · obtain ⟨a, b, ns, rfl, S, kk⟩ := h
    have hu := hu_of hr
    refine ⟨_, (pss_cons (ps_set (i := 2) sc_l_tree.nd rfl (.inr rfl) (pe_disp (pps_cons pe_str (C8.pe_c c_l_text hr (by omega) (by rfl) (pa_cons (pv 0) (pa_cons (pv 1) pa_nil))) (pps_cons pe_str (C8.pe_c c_l_text hr (by omega) (by rfl) (pa_cons (pv 0) (pa_cons (pv 1) pa_nil))) pps_nil)) (by rfl) (by rfl) (fun z => by cases z) (by decide)))
      (pss_cons (ps_for PassesOwn.never rfl (pi_list (pe_lst (pa_strs rfl))) (pg_name (i := 3) sc_l_tree.nd rfl (.inl rfl))
      (pss_one (ps_if (pt_cmpR op_eq (C8.pe_c c_l_take hr (by omega) (by rfl) (pa_cons (pv 0) (pa_cons (pv 1) (pa_cons pe_int pa_nil)))) pe_int (nomark _))
        (pss_one (ps_dput hu (pv 2) (pv 3) (C8.pe_c c_l_text hr (by omega) (by rfl) (pa_cons (pv 0) (pa_cons (pv 1) pa_nil))) rfl))
        pss_nil)))
      (pss_cons (ps_set (i := 4) sc_l_tree.nd rfl (.inr rfl) (C8.pe_c c_l_rule_rows hr (by omega) (by rfl) (pa_cons (pv 0) (pa_cons (pv 1) (pa_cons (pe_op op_add pe_int (C8.pe_c c_l_take hr (by omega) (by rfl) (pa_cons (pv 0) (pa_cons (pv 1) (pa_cons pe_int pa_nil))))) pa_nil)))))
      (pss_cons (ps_set (i := 4) sc_l_tree.nd rfl (.inr rfl) (pe_ix ix_list (pe_lc (own := [("k", 8)]) (g := gName 8) (tt := _) rfl sc_l_tree.nd (pi_range1 (by rfl) T.range (pa_cons (pe_op op_add (pe_callB call_len_seq (by rfl) T.len PySem.boot_len (pa_cons (pv 4) pa_nil)) pe_int) pa_nil)) (blkOk_by (N := ["row", "spot", "files", "path", "rows", "cut", "others", "pair", "k"]) (sc := defScope s_l_tree) (by decide +kernel)) (fun _ _ _ _ _ => (pg_name (i := 8) sc_l_tree.nd rfl (.inl rfl))) (fun _ _ _ _ _ => (pts_one (pt_cmpR op_le (pe_callB call_len_str (by rfl) T.len PySem.boot_len (pa_cons (C8.pe_c c_l_content hr (by omega) (by rfl) (pa_cons (pe_slice (r := rSlL K) sl_list (pv 4) po_none (po_some (pv 8))) pa_nil)) pa_nil)) pe_int (nomark _)))) (fun _ _ _ _ _ => (pe_slice (r := rSlL K) sl_list (pv 4) po_none (po_some (pv 8))))) (pe_un un_neg pe_int) (fun _ _ => rfl)))
      (pss_cons (ps_set (i := 5) sc_l_tree.nd rfl (.inl rfl) (C8.pe_c c_l_take hr (by omega) (by rfl) (pa_cons (pv 0) (pa_cons (pv 1) (pa_cons (pe_op op_add (pe_callB call_len_seq (by rfl) T.len PySem.boot_len (pa_cons (pv 4) pa_nil)) pe_int) pa_nil)))))
      (pss_cons (ps_dput hu (pv 2) pe_str (C8.pe_c c_l_content hr (by omega) (by rfl) (pa_cons (pe_slice sl_list (pv 4) po_none (po_some (pv 5))) pa_nil)) rfl)
      (pss_cons (ps_dput hu (pv 2) (pe_ix ix_list (pe_lst (pa_strs rfl)) (pe_op op_fdiv (C8.pe_c c_l_take hr (by omega) (by rfl) (pa_cons (pv 0) (pa_cons (pv 1) (pa_cons pe_int pa_nil)))) pe_int) (fun _ _ => rfl)) (C8.pe_c c_l_content hr (by omega) (by rfl) (pa_cons (pe_slice sl_list (pv 4) (po_some (pv 5)) po_none) pa_nil)) rfl)
      (pss_cons (ps_set (i := 6) sc_l_tree.nd rfl (.inl rfl) (pe_lst (pa_cons (pe_tup (pa_cons pe_str (pa_cons (C8.pe_c c_l_setting_rows hr (by omega) (by rfl) (pa_cons (pv 0) (pa_cons (pv 1) pa_nil))) pa_nil))) (pa_cons (pe_tup (pa_cons (pe_ix ix_list (pe_lst (pa_strs rfl)) (C8.pe_c c_l_take hr (by omega) (by rfl) (pa_cons (pv 0) (pa_cons (pv 1) (pa_cons pe_int pa_nil)))) (fun _ _ => rfl)) (pa_cons (C8.pe_c c_l_setting_rows hr (by omega) (by rfl) (pa_cons (pv 0) (pa_cons (pv 1) pa_nil))) pa_nil))) (pa_cons (pe_tup (pa_cons pe_str (pa_cons (C8.pe_c c_l_place_rows hr (by omega) (by rfl) (pa_cons (pv 0) (pa_cons (pv 1) pa_nil))) pa_nil))) pa_nil)))))
      (pss_cons (ps_set (i := 6) sc_l_tree.nd rfl (.inl rfl) (pe_op op_cat (pv 6) (pe_lst (pa_cons (pe_tup (pa_cons pe_str (pa_cons (C8.pe_c c_l_own_rows hr (by omega) (by rfl) (pa_cons (pv 0) (pa_cons (pv 1) pa_nil))) pa_nil))) (pa_cons (pe_tup (pa_cons pe_str (pa_cons (C8.pe_c c_l_goal_rows hr (by omega) (by rfl) (pa_cons (pv 0) (pa_cons (pv 1) pa_nil))) pa_nil))) pa_nil)))))
      (pss_cons (ps_for PassesOwn.never rfl (pi_list (pv 6)) (pg_name (i := 7) sc_l_tree.nd rfl (.inl rfl))
      (pss_one (ps_if (pt_cmpR op_gt (C8.pe_c c_l_take hr (by omega) (by rfl) (pa_cons (pv 0) (pa_cons (pv 1) (pa_cons pe_int pa_nil)))) pe_int (nomark _))
        (pss_one (ps_dput hu (pv 2) (pe_ix ix_tup (pv 7) pe_int (fun _ _ => rfl)) (C8.pe_c c_l_content hr (by omega) (by rfl) (pa_cons (pe_ix ix_tup (pv 7) pe_int (fun _ _ => rfl)) pa_nil)) rfl))
        pss_nil)))
      (pss_one (ps_ret (pe_callTy call_tuple_of (by rfl) T.tuple PyProof.Rows.boot_tuple (pa_cons (pe_lc (own := [("path", 3)]) (g := gName 3) (tt := tYes) rfl sc_l_tree.nd (pi_list (pe_callB (call_sortedD rfl) (by rfl) T.sorted (by decide +kernel) (pa_cons (pv 2) pa_nil))) (blkOk_by (N := ["row", "spot", "files", "path", "rows", "cut", "others", "pair", "k"]) (sc := defScope s_l_tree) (by decide +kernel)) (fun _ _ _ _ _ => (pg_name (i := 3) sc_l_tree.nd rfl (.inl rfl))) (fun _ _ _ _ _ => pts_nil) (fun _ _ _ _ _ => (pe_tup (pa_cons (pv 3) (pa_cons (pe_dget hu (pv 2) (pv 3) (fun _ _ => rfl)) pa_nil))))) pa_nil)))))))))))))), ?_⟩
    refine fun dd hdd => ?_
    have g0 := (Go.refl S.cell).new (o := .dK []) hdd
    refine ⟨_, rfl, _, rfl, a, b, ns, rfl, S.go g0, fun x1 H1 g1 hx1 => ⟨_, rfl, _, rfl, a, b, ns, rfl, S.go (g0.trans g1), fun x2 H2 g2 hx2 => ?_⟩⟩
    have g12 := (g0.trans g1).trans g2
    have hbd : b ≠ dd := fun z => by
      obtain ⟨i, _, q⟩ := S.cell
      rw [z, hdd] at q
      cases q
    have hd2 : H2 dd = some (.dK []) := (g1.trans g2).keep _ _ (Ne.symm hbd) upd_same
    refine ⟨hd2, [(Sum.inr "app/main", .str x1), (Sum.inr "doc/note", .str x2)], rfl, (by show 2 ≤ 15; decide), ?_⟩
    have em : mergeK [] [((Sum.inr "app/main" : Key), V.str x1), ((Sum.inr "doc/note" : Key), V.str x2)] = kvF (putF (putF [] "app/main" x1) "doc/note" x2) := by
      rw [← kvF_put', ← kvF_put']
      rfl
    rw [em]
    have F0 : FilesAt b H dd (putF (putF [] "app/main" x1) "doc/note" x2) (upd H2 dd (.dK (kvF (putF (putF [] "app/main" x1) "doc/note" x2)))) :=
      ⟨g12.mut hdd hbd, hdd, upd_same, (FOk.nil.put (by decide) (ct_mem hx1 (by decide +kernel))).put (by decide) (ct_mem hx2 (by decide +kernel))⟩
    have n0 : putF (putF [] "app/main" x1) "doc/note" x2 ≠ [] := putF_ne _ _ _
    generalize putF (putF [] "app/main" x1) "doc/note" x2 = fs0 at F0 n0 ⊢
    have F1 := F0
    generalize upd H2 dd (.dK (kvF fs0)) = H3 at F1 ⊢
    refine ⟨(by show 6 ≤ sizeLine; decide), fun l hl => ?_⟩
    have hld : l ≠ dd := fun z => by
      rw [z, F1.at_] at hl
      cases hl
    have F2 := F1.step ((Go.refl F1.go.cell).new (o := .lst ((["app/side", "app/sub/deep", "doc/more", "appx/z", "sets/a", "builds/a"] : List Str).map V.str)) hl)
    refine ⟨l, rfl, ⟨_, SqL.of upd_same⟩, for_list (K := K) (a := l) (xs := (["app/side", "app/sub/deep", "doc/more", "appx/z", "sets/a", "builds/a"] : List Str).map V.str)
        (fun j σ H1 => ∃ (fs : Fs) (k3 : Option V), σ = [some (.ref a), some (.ref b), some (.ref dd), k3, none, none, none, none, none] ∧ FilesAt b H dd fs H1 ∧ fs ≠ [] ∧ Strs H1 l ["app/side", "app/sub/deep", "doc/more", "appx/z", "sets/a", "builds/a"])
        ⟨fs0, _, rfl, F2, n0, upd_same⟩ (fun i σ H1 _ ⟨_, _, _, _, _, z⟩ => SqL.of z) ?_ ?_⟩
    · rintro j x σ H4 hj ⟨fs, k3, rfl, G, ne, hs⟩
      obtain ⟨v, hv, rfl⟩ := List.mem_map.mp (List.mem_of_getElem? hj)
      have hv : v ∈ allPaths := mem_sub (by decide) hv
      refine ⟨_, rfl, _, rfl, a, b, ns, 2, rfl, S.go G.go, by decide, fun d H5 g5 _ _ => ?_⟩
      have hs := hs.go G.go.cell g5
      have G := G.step g5
      refine ⟨rfl, _, rfl, ite2 (fun _ => ?_) (fun _ => ⟨_, _, rfl, G, ne, hs⟩)⟩
      refine ⟨_, rfl, _, rfl, a, b, ns, rfl, S.go G.go, fun x6 H6 g6 hx6 => ?_⟩
      have hs := hs.go G.go.cell g6
      have G := G.step g6
      exact ⟨_, rfl, _, rfl, dd, _, rfl, G.dput, _, _, rfl, G.put hv (ct_mem hx6 (by decide +kernel)), putF_ne _ _ _, by unfold Strs; rw [upd_ne hld]; exact hs⟩
    · rintro σ H4 ⟨fs, k3, rfl, G, ne, hs⟩
      refine ⟨_, rfl, _, rfl, _, rfl, _, rfl, a, b, ns, 5, rfl, S.go G.go, by decide, fun d H5 g5 d0 d1 => ?_⟩
      obtain ⟨d, rfl⟩ := Int.eq_ofNat_of_zero_le d0
      have G := G.step g5
      have e1 : [V.ref a, V.ref b, V.int (1 + (d : Int))] = [V.ref a, V.ref b, V.int ((1 + d : Nat) : Int)] := by rw [show ((1 + d : Nat) : Int) = 1 + (d : Int) by omega]
      refine ⟨_, _, rfl, rfl, a, b, ns, 1 + d, e1, S.go G.go, by omega, fun rp xs H6 R0 => ?_⟩
      have G := G.step R0.go
      have R := R0.at_
      have few := R0.few
      have sg := R0.sg
      clear R0
      refine ⟨_, rfl, rp, _, rfl, .inl (SqL.of R), _, _, rfl, rfl, _, rfl, (rng_of (by omega) (by rw [List.length_map]; omega)).1, (rng_of (by omega) (by rw [List.length_map]; omega)).2, fun D hD => ?_⟩
      have g7 := (Go.refl G.go.cell).new (o := .lst []) hD
      have hbD : b ≠ D := fun z => by
        obtain ⟨i, _, q⟩ := G.go.cell
        rw [z, hD] at q
        cases q
      have lc : ∀ m : Nat, (xs.take m).length ≤ 1000 := fun m => Nat.le_trans (List.length_take_le' _ _) (by omega)
      have sgt : ∀ m : Nat, ∀ x ∈ xs.take m, Sg 400 x := fun m x hx => sg x (List.mem_of_mem_take hx)
      have small : ∀ m : Nat, (contentOf (xs.take m)).length ≤ sizeLine := fun m => small_of (Nat.le_trans (content_ct (n := 8) (Nat.le_trans (List.length_take_le' _ _) few) (sgt m) (k := 3208) (by decide)).len (by decide))
      refine lc_range (n := ((((xs.map V.str).length : Int) + 1)).toNat) (fun i H7 => Go b H6 H7 ∧ ∃ vs : List V, H7 D = some (.lst vs) ∧ vs.length ≤ i ∧ (0 < i → ∃ (w : List V) (q : Addr) (m : Nat), vs = w ++ [.ref q] ∧ Strs H7 q (xs.take m) ∧ (contentOf (xs.take m)).length ≤ 1000 ∧ q ≠ D))
        ⟨g7, [], upd_same, Nat.le_refl _, fun h => absurd h (Nat.lt_irrefl _)⟩ ?_ ?_
      · rintro i H7 hi ⟨g, vs, e, hl, hv⟩
        have R7 := R.go G.go.cell g
        have hi' : i ≤ 8 := by
          rw [List.length_map] at hi
          omega
        refine ⟨rfl, _, rfl, _, rfl, _, rfl, rp, _, rfl, SqL.of R7, fun q1 hq1 => ?_⟩
        have e0 : (0 : Int) + (i : Int) = (i : Int) := Int.zero_add _
        rw [e0, cut_take]
        have g8 := g.new (o := .lst ((xs.take i).map V.str)) hq1
        refine ⟨q1, xs.take i, rfl, upd_same, lc i, sgt i, fun H8 s8 => ?_⟩
        have g9 := g8.trans (Go.same g8.cell s8)
        have nD : ∀ {q : Addr}, H7 q = none → D ≠ q := fun h z => by
          rw [← z, e] at h
          cases h
        have e8 : H8 D = some (.lst vs) := s8 _ _ (by rw [upd_ne (nD hq1)]; exact e)
        refine ⟨_, rfl, small i, _, _, rfl, rfl, _, rfl, ?_⟩
        have k8 : ∀ {q : Addr} {ys : List Str}, Strs H7 q ys → Strs H8 q ys := fun h => s8 _ _ (by rw [upd_ne (ne_of_none h hq1)]; exact h)
        refine ite2 (fun c => ?_) (fun c => ?_)
        · have R8 := k8 R7
          refine ⟨_, rfl, _, rfl, _, rfl, rp, _, rfl, SqL.of R8, fun q2 hq2 => ?_⟩
          rw [cut_take]
          have hDq : D ≠ q2 := fun z => by
            rw [← z, e8] at hq2
            cases hq2
          refine ⟨vs, by rw [upd_ne hDq]; exact e8, small_lt (by omega), (g9.new hq2).mut hD hbD, vs ++ [.ref q2], upd_same, by rw [List.length_append]; simp only [List.length_cons, List.length_nil]; omega, fun _ => ⟨vs, q2, i, rfl, by unfold Strs; rw [upd_ne (Ne.symm hDq)]; exact upd_same, ?_, Ne.symm hDq⟩⟩
          have := of_decide_eq_true c
          omega
        · refine ⟨g9, vs, e8, by omega, fun _ => ?_⟩
          by_cases hi0 : 0 < i
          · obtain ⟨w, q, m, ev, hq, hc, hn⟩ := hv hi0
            exact ⟨w, q, m, ev, k8 hq, hc, hn⟩
          · exfalso
            apply c
            have : i = 0 := by omega
            subst this
            rw [content_len, List.take_zero]
            decide
      · rintro H7 ⟨g, vs, e, hl, hv⟩
        obtain ⟨w, q, m, ev, hq, hc, hn⟩ := hv (by rw [List.length_map]; omega)
        subst ev
        refine ⟨_, rfl, D, _, _, _, rfl, rfl, SqL.of e, atI_last w _, ?_⟩
        have G := G.step g
        have few2 : (xs.take m).length ≤ 8 := Nat.le_trans (List.length_take_le' _ _) few
        have sg2 := sgt m
        clear hv lc sgt small few sg R
        generalize xs.take m = ys at hq hc few2 sg2
        refine ⟨_, rfl, _, rfl, _, rfl, q, _, rfl, .inl (SqL.of hq), _, _, rfl, rfl, a, b, ns, _, rfl, S.go G.go, by omega, fun cu H8 g8 c0 c1 => ?_⟩
        obtain ⟨cu, rfl⟩ := Int.eq_ofNat_of_zero_le c0
        have hq := hq.go G.go.cell g8
        have G := G.step g8
        have ct : Ct 1000 (contentOf (ys.take cu)) := ⟨Nat.le_trans (content_take ys cu) hc, content_all fun x hx => sg2 x (List.mem_of_mem_take hx)⟩
        have cd : Ct 1000 (contentOf (ys.drop cu)) := ⟨Nat.le_trans (content_drop ys cu) hc, content_all fun x hx => sg2 x (List.mem_of_mem_drop hx)⟩
        refine ⟨_, rfl, _, rfl, _, rfl, q, _, rfl, SqL.of hq, fun q1 hq1 => ?_⟩
        rw [cut_take]
        refine ⟨q1, ys.take cu, rfl, upd_same, Nat.le_trans (List.length_take_le' _ _) (by omega), fun x hx => sg2 x (List.mem_of_mem_take hx), fun H9 s9 => ?_⟩
        have g9 := (Go.refl G.go.cell).new (o := .lst ((ys.take cu).map V.str)) hq1
        have hq := (hq.go G.go.cell g9).go g9.cell (Go.same g9.cell s9)
        have G := (G.step g9).step (Go.same g9.cell s9)
        have hqd : q ≠ dd := fun z => by
          unfold Strs at hq
          rw [z, G.at_] at hq
          cases hq
        refine ⟨_, rfl, dd, _, rfl, G.dput, ?_⟩
        have G := G.put (p := "build/a") (by decide) ct
        have ne := putF_ne fs "build/a" (contentOf (ys.take cu))
        have hq : Strs (upd H9 dd (.dK (kvF (putF fs "build/a" (contentOf (ys.take cu)))))) q ys := by
          unfold Strs
          rw [upd_ne hqd]
          exact hq
        generalize putF fs "build/a" (contentOf (ys.take cu)) = fs at G ne hq ⊢
        generalize upd H9 dd (.dK (kvF fs)) = H10 at G hq ⊢
        refine ⟨_, rfl, _, rfl, _, rfl, q, _, rfl, SqL.of hq, fun q1 hq1 => ?_⟩
        rw [cut_drop]
        refine ⟨q1, ys.drop cu, rfl, upd_same, by rw [List.length_drop]; omega, fun x hx => sg2 x (List.mem_of_mem_drop hx), fun H11 s11 => ?_⟩
        have g11 := (Go.refl G.go.cell).new (o := .lst ((ys.drop cu).map V.str)) hq1
        have G := (G.step g11).step (Go.same g11.cell s11)
        refine ⟨_, rfl, (by show 2 ≤ sizeLine; decide), fun l hl => ⟨_, rfl, _, rfl, a, b, ns, 3, rfl, S.go (G.go.new hl), by decide, fun d H12 g12 d0 d1 => ?_⟩⟩
        obtain ⟨nm, hnm, enm⟩ := strs_at (xs := (["build/b", "build/lib/b"] : List Str)) (d := d / 2) (by omega) (by show d / 2 < 2; omega)
        have hs := strs_new G.go.cell hl g12
        have G := (G.step ((Go.refl G.go.cell).new hl)).step g12
        refine ⟨_, _, rfl, rfl, ⟨by decide, by decide⟩, l, _, d / 2, _, rfl, rfl, SqL.of hs, enm, dd, _, rfl, G.dput, ?_⟩
        have G := G.put (p := nm) (mem_sub (by decide) hnm) cd
        have ne := putF_ne fs nm (contentOf (ys.drop cu))
        clear hq hs g11 s11 g12 hnm enm
        generalize putF fs nm (contentOf (ys.drop cu)) = fs at G ne ⊢
        generalize upd H12 dd (.dK (kvF fs)) = H13 at G ⊢
        refine ⟨_, rfl, _, rfl, a, b, ns, rfl, S.go G.go, fun p1 y1 I1 R1 => ?_⟩
        have G := G.step R1.go
        refine ⟨(by show 2 ≤ sizeLine; decide), fun t1 ht1 => ?_⟩
        have O1 := Other.mk' (nm := "set/all") R1 ht1 (by decide) (by decide) (by decide) (by decide)
        have gn := (Go.refl G.go.cell).new (o := .tup [.str "set/all", .ref p1]) ht1
        have G := G.step gn
        clear gn
        generalize upd I1 t1 (.tup [.str "set/all", .ref p1]) = I2 at G O1 ⊢
        refine ⟨(by show 2 ≤ sizeLine; decide), fun l hl => ⟨_, rfl, _, rfl, a, b, ns, 2, rfl, S.go (G.go.new hl), by decide, fun d I3 g12 d0 d1 => ?_⟩⟩
        obtain ⟨nm, hnm, enm⟩ := strs_at (xs := (["set/b", "set/eu/west"] : List Str)) d0 d1
        have hs := strs_new G.go.cell hl g12
        have gn := (Go.refl G.go.cell).new (o := .lst ((["set/b", "set/eu/west"] : List Str).map V.str)) hl
        have O1 := (O1.go G.go.cell gn).go gn.cell g12
        have G := (G.step gn).step g12
        refine ⟨l, _, d, _, rfl, rfl, SqL.of hs, enm, _, rfl, _, rfl, a, b, ns, rfl, S.go G.go, fun p2 y2 I4 R2 => ?_⟩
        have O1 := O1.go G.go.cell R2.go
        have G := G.step R2.go
        refine ⟨(by show 2 ≤ sizeLine; decide), fun t2 ht2 => ?_⟩
        have O2 := Other.mk' (nm := nm) R2 ht2 (mem_sub (by decide) hnm) (by decide) (by decide) (by decide)
        have gm := (Go.refl G.go.cell).new (o := .tup [.str nm, .ref p2]) ht2
        have O1 := O1.go G.go.cell gm
        have G := G.step gm
        clear gn gm hs
        generalize upd I4 t2 (.tup [.str nm, .ref p2]) = I5 at G O1 O2 ⊢
        refine ⟨_, rfl, _, rfl, a, b, ns, rfl, S.go G.go, fun p3 y3 I6 R3 => ?_⟩
        have O1 := O1.go G.go.cell R3.go
        have O2 := O2.go G.go.cell R3.go
        have G := G.step R3.go
        refine ⟨(by show 2 ≤ sizeLine; decide), fun t3 ht3 => ?_⟩
        have O3 := Other.mk' (nm := "fleet/places") R3 ht3 (by decide) (by decide) (by decide) (by decide)
        have gm := (Go.refl G.go.cell).new (o := .tup [.str "fleet/places", .ref p3]) ht3
        have O1 := O1.go G.go.cell gm
        have O2 := O2.go G.go.cell gm
        have G := G.step gm
        clear gm
        generalize upd I6 t3 (.tup [.str "fleet/places", .ref p3]) = I7 at G O1 O2 O3 ⊢
        refine ⟨(by show 3 ≤ sizeLine; decide), fun q6 hq6 => ?_⟩
        have gm := (Go.refl G.go.cell).new (o := .lst [.ref t1, .ref t2, .ref t3]) hq6
        have O1 := O1.go G.go.cell gm
        have O2 := O2.go G.go.cell gm
        have O3 := O3.go G.go.cell gm
        have L6 : upd I7 q6 (.lst [.ref t1, .ref t2, .ref t3]) q6 = some (.lst [.ref t1, .ref t2, .ref t3]) := upd_same
        have hb6 : q6 ≠ b := fun z => by
          obtain ⟨i, _, q⟩ := G.go.cell
          rw [← z, hq6] at q
          cases q
        have G := G.step gm
        clear gm
        generalize upd I7 q6 (.lst [.ref t1, .ref t2, .ref t3]) = I8 at G O1 O2 O3 L6 ⊢
        -- two more
        refine ⟨_, rfl, _, rfl, _, rfl, a, b, ns, rfl, S.go G.go, fun p4 y4 I9 R4 => ?_⟩
        have O1 := O1.go G.go.cell R4.go
        have O2 := O2.go G.go.cell R4.go
        have O3 := O3.go G.go.cell R4.go
        have L6 := R4.go.keep _ _ hb6 L6
        have G := G.step R4.go
        refine ⟨(by show 2 ≤ sizeLine; decide), fun t4 ht4 => ?_⟩
        have O4 := Other.mk' (nm := "own/rules") R4 ht4 (by decide) (by decide) (by decide) (by decide)
        have gm := (Go.refl G.go.cell).new (o := .tup [.str "own/rules", .ref p4]) ht4
        have O1 := O1.go G.go.cell gm
        have O2 := O2.go G.go.cell gm
        have O3 := O3.go G.go.cell gm
        have L6 := gm.keep _ _ hb6 L6
        have G := G.step gm
        clear gm
        generalize upd I9 t4 (.tup [.str "own/rules", .ref p4]) = J1 at G O1 O2 O3 O4 L6 ⊢
        refine ⟨_, rfl, _, rfl, a, b, ns, rfl, S.go G.go, fun p5 y5 J2 R5 => ?_⟩
        have O1 := O1.go G.go.cell R5.go
        have O2 := O2.go G.go.cell R5.go
        have O3 := O3.go G.go.cell R5.go
        have O4 := O4.go G.go.cell R5.go
        have L6 := R5.go.keep _ _ hb6 L6
        have G := G.step R5.go
        refine ⟨(by show 2 ≤ sizeLine; decide), fun t5 ht5 => ?_⟩
        have O5 := Other.mk' (nm := "pack/goals") R5 ht5 (by decide) (by decide) (by decide) (by decide)
        have gm := (Go.refl G.go.cell).new (o := .tup [.str "pack/goals", .ref p5]) ht5
        have O1 := O1.go G.go.cell gm
        have O2 := O2.go G.go.cell gm
        have O3 := O3.go G.go.cell gm
        have O4 := O4.go G.go.cell gm
        have L6 := gm.keep _ _ hb6 L6
        have G := G.step gm
        clear gm
        generalize upd J2 t5 (.tup [.str "pack/goals", .ref p5]) = J3 at G O1 O2 O3 O4 O5 L6 ⊢
        refine ⟨(by show 2 ≤ sizeLine; decide), fun q7 hq7 => ?_⟩
        have gm := (Go.refl G.go.cell).new (o := .lst [.ref t4, .ref t5]) hq7
        have O1 := O1.go G.go.cell gm
        have O2 := O2.go G.go.cell gm
        have O3 := O3.go G.go.cell gm
        have O4 := O4.go G.go.cell gm
        have O5 := O5.go G.go.cell gm
        have L6 := gm.keep _ _ hb6 L6
        have G := G.step gm
        clear gm
        refine ⟨q6, q7, _, _, rfl, rfl, L6, upd_same, (by show 5 ≤ sizeLine; decide), fun q8 hq8 => ?_⟩
        have gm := (Go.refl G.go.cell).new (o := .lst ([.ref t1, .ref t2, .ref t3] ++ [.ref t4, .ref t5])) hq8
        have OA : ∀ v ∈ ([.ref t1, .ref t2, .ref t3] ++ [.ref t4, .ref t5] : List V), Other (upd (upd J3 q7 (.lst [.ref t4, .ref t5])) q8 (.lst ([.ref t1, .ref t2, .ref t3] ++ [.ref t4, .ref t5]))) v := by
          intro v hv
          simp only [List.cons_append, List.nil_append, List.mem_cons, List.not_mem_nil, or_false] at hv
          rcases hv with rfl | rfl | rfl | rfl | rfl
          · exact O1.go G.go.cell gm
          · exact O2.go G.go.cell gm
          · exact O3.go G.go.cell gm
          · exact O4.go G.go.cell gm
          · exact O5.go G.go.cell gm
        have L8 : upd (upd J3 q7 (.lst [.ref t4, .ref t5])) q8 (.lst ([.ref t1, .ref t2, .ref t3] ++ [.ref t4, .ref t5])) q8 = some (.lst ([.ref t1, .ref t2, .ref t3] ++ [.ref t4, .ref t5])) := upd_same
        have hb8 : q8 ≠ b := fun z => by
          obtain ⟨i, _, q⟩ := G.go.cell
          rw [← z, hq8] at q
          cases q
        have G := G.step gm
        clear gm O1 O2 O3 O4 O5 L6
        generalize upd (upd J3 q7 (.lst [.ref t4, .ref t5])) q8 (.lst ([.ref t1, .ref t2, .ref t3] ++ [.ref t4, .ref t5])) = J4 at G OA L8 ⊢
        generalize ([.ref t1, .ref t2, .ref t3] ++ [.ref t4, .ref t5] : List V) = os at OA L8 ⊢
        clear R1 R2 R3 R4 R5
        refine ⟨_, rfl, q8, rfl, ⟨_, SqL.of L8⟩, for_list (K := K) (a := q8) (xs := os)
            (fun j σ H1 => ∃ (fs : Fs) (k7 : Option V), σ = [some (.ref a), some (.ref b), some (.ref dd), k3, some (.ref q), some (.int (cu : Int)), some (.ref q8), k7, none] ∧ FilesAt b H dd fs H1 ∧ fs ≠ [] ∧ H1 q8 = some (.lst os) ∧ ∀ v ∈ os, Other H1 v)
            ⟨fs, _, rfl, G, ne, L8, OA⟩ (fun i σ H1 _ ⟨_, _, _, _, _, z, _⟩ => SqL.of z) ?_ ?_⟩
        · rintro j x σ H4 hj ⟨fs, k7, rfl, G, ne, L8, OA⟩
          have hx := List.mem_of_getElem? hj
          refine ⟨_, rfl, _, rfl, a, b, ns, 4, rfl, S.go G.go, by decide, fun d H5 g5 _ _ => ?_⟩
          have OA : ∀ v ∈ os, Other H5 v := fun v hv => (OA v hv).go G.go.cell g5
          have L8 := g5.keep _ _ hb8 L8
          have G := G.step g5
          refine ⟨_, _, rfl, rfl, _, rfl, ite2 (fun _ => ?_) (fun _ => ⟨_, _, rfl, G, ne, L8, OA⟩)⟩
          obtain ⟨t, nm, p, xs, O⟩ := OA x hx
          obtain rfl := O.v_
          refine ⟨_, rfl, t, _, 1, _, rfl, rfl, SqT.of O.tup, rfl, p, xs, rfl, O.rows, O.few, O.sg, fun H6 s6 => ?_⟩
          have g6 := Go.same G.go.cell s6
          have ht6 : H6 t = some (.tup [.str nm, .ref p]) := s6 _ _ O.tup
          have OA : ∀ v ∈ os, Other H6 v := fun v hv => (OA v hv).go G.go.cell g6
          have L8 := g6.keep _ _ hb8 L8
          have G := G.step g6
          have hq8d : q8 ≠ dd := fun z => by
            rw [z, G.at_] at L8
            cases L8
          exact ⟨_, rfl, _, rfl, t, _, 0, _, rfl, rfl, SqT.of ht6, rfl, dd, _, rfl, G.dput, _, _, rfl, G.put O.path O.ct, putF_ne _ _ _, by rw [upd_ne hq8d]; exact L8, fun v hv => (OA v hv).dict G.at_⟩
        · rintro σ H4 ⟨fs, k7, rfl, G, ne, _, _⟩
          have hl20 := G.ok.few
          refine ⟨_, rfl, dd, kvF fs, fs.map (·.1), rfl, .inl G.at_, kvF_keys' fs, by rw [List.length_map]; omega, fun ks p perm srt hp => ?_⟩
          have gp := (Go.refl G.go.cell).new (o := .lst (ks.map V.str)) hp
          have G := G.step gp
          have asc : Asc ks := asc_of srt (perm.nodup_iff.mpr G.ok.nd)
          have hks : ks.length ≤ 20 := by
            rw [perm.length_eq, List.length_map]
            exact hl20
          have hP : upd H4 p (.lst (ks.map V.str)) p = some (.lst (ks.map V.str)) := upd_same
          have hpb : p ≠ b := fun z => by
            obtain ⟨i, _, q⟩ := gp.cell
            rw [← z, upd_same] at q
            have q' := HO.lst.inj (Option.some.inj q)
            cases ks with
            | nil => cases q'
            | cons y r => cases (List.cons.inj q').1
          clear gp
          generalize upd H4 p (.lst (ks.map V.str)) = H5 at G hP ⊢
          refine ⟨p, rfl, ⟨_, SqL.of hP⟩, fun D hD => ?_⟩
          have hbD : b ≠ D := fun z => by
            obtain ⟨i, _, q⟩ := G.go.cell
            rw [z, hD] at q
            cases q
          refine lc_list (K := K) (a := p) (xs := ks.map V.str) (fun i H6 => Go b H5 H6 ∧ ∃ vs : List V, H6 D = some (.lst vs) ∧ vs.length = i ∧ Reps H6 ((sortF fs (ks.take i)).map pairD) vs)
            ⟨(Go.refl G.go.cell).new hD, [], upd_same, rfl, rfl⟩ (fun i H6 _ q => SqL.of (q.1.keep _ _ hpb hP)) ?_ ?_
          · rintro i x H6 hx ⟨g6, vs, e, hl, hr⟩
            rw [List.getElem?_map] at hx
            obtain ⟨k, hk, rfl⟩ := Option.map_eq_some_iff.mp hx
            have hi : i < ks.length := (List.getElem?_eq_some_iff.mp hk).1
            have hkm : k ∈ fs.map (·.1) := perm.mem_iff.mp (List.mem_of_getElem? hk)
            obtain ⟨c, hc⟩ := Option.isSome_iff_exists.mp (valF_isSome.mpr hkm)
            have G6 := G.step g6
            refine ⟨rfl, _, rfl, _, rfl, _, rfl, dd, _, rfl, G6.dget hc, (by show 2 ≤ sizeLine; decide), fun t ht => ?_⟩
            have htD : D ≠ t := fun z => by
              rw [← z, e] at ht
              cases ht
            refine ⟨vs, by rw [upd_ne htD]; exact e, small_lt (by omega), (g6.new ht).mut hD hbD, vs ++ [.ref t], upd_same, by rw [List.length_append]; simp only [List.length_cons, List.length_nil]; omega, ?_⟩
            have es : (sortF fs (ks.take (i + 1))).map pairD = (sortF fs (ks.take i)).map pairD ++ [pairD (k, c)] := by
              unfold sortF
              rw [List.take_add_one, hk, List.map_append, List.map_append]
              simp [hc]
            rw [es]
            have tk : Tk (upd H6 t (.tup [.str k, .str c])) (upd (upd H6 t (.tup [.str k, .str c])) D (.lst (vs ++ [.ref t]))) := Tk.lst (by rw [upd_ne htD]; exact e)
            exact Reps.snoc (Reps.keep tk (Reps.keep (Tk.new ht) hr)) (Rep.keep tk (pair_rep upd_same))
          · rintro H6 ⟨g6, vs, e, hl, hr⟩
            rw [List.length_map] at hl hr
            rw [List.take_length] at hr
            refine ⟨D, _, rfl, .inl ⟨SqL.of e, fun l hl2 => ?_⟩⟩
            refine kk (.ref l) (sortF fs ks) _ ((G.go.trans g6).new hl2) ⟨l, vs, rfl, .inl upd_same, small_of (by omega), Reps.keep (Tk.new hl2) hr⟩ (G.ok.sort perm) (by rw [sortF_keys]; exact asc) ?_
            intro h0
            have := congrArg (List.map (·.1)) h0
            rw [sortF_keys] at this
            rw [this] at perm
            exact ne (by simpa using perm.length_eq.symm)
end
end Kl

namespace Kl
open PySem L2 Kd
abbrev Es := List (Str × Option Str)
def encO : Option Str → V
  | none => .non
  | some c => .str c
structure EOk (es : Es) : Prop where
  nd : (es.map (·.1)).Nodup
  path : ∀ q ∈ es, q.1 ∈ allPaths
  ct : ∀ q ∈ es, ∀ c, q.2 = some c → Ct 1000 c
theorem EOk.few {es : Es} (h : EOk es) : es.length ≤ 20 := by
  have := nodup_le (ys := allPaths) h.nd fun p hp => by
    obtain ⟨q, hq, e⟩ := List.mem_map.mp hp
    rw [← e]
    exact h.path q hq
  rw [List.length_map] at this
  exact Nat.le_trans this (by decide)
theorem EOk.nil : EOk [] := ⟨List.nodup_nil, fun _ h => (nomatch h), fun _ h => (nomatch h)⟩
theorem EOk.put {es : Es} (h : EOk es) {p : Str} {o : Option Str} (hp : p ∈ allPaths) (hc : ∀ c, o = some c → Ct 1000 c) : EOk (putF es p o) := by
  refine ⟨putF_nodup h.nd, fun q hq => ?_, fun q hq => ?_⟩
  · rcases putF_mem hq with e | e
    · rw [e]
      exact hp
    · exact h.path q e
  · rcases putF_mem hq with e | e
    · rw [e]
      exact hc
    · exact h.ct q e
theorem EOk.sort {es : Es} (h : EOk es) {ks : List Str} (hk : ks.Perm (es.map (·.1))) : EOk (sortF es ks) := by
  have hv : ∀ q ∈ sortF es ks, q ∈ es := fun q hq => by
    obtain ⟨p, hp, e⟩ := List.mem_map.mp hq
    obtain ⟨c, hc⟩ := Option.isSome_iff_exists.mp (valF_isSome.mpr (hk.mem_iff.mp hp))
    rw [hc] at e
    rw [← e]
    exact valF_some hc
  exact ⟨by rw [sortF_keys]; exact hk.nodup_iff.mpr h.nd, fun q hq => h.path q (hv q hq), fun q hq => h.ct q (hv q hq)⟩
/-- a dict of changes at dd, made since H0 -/
structure EditsAt (b : Addr) (H0 : Hp) (dd : Addr) (es : Es) (H : Hp) : Prop where
  go : Go b H0 H
  new : H0 dd = none
  at_ : H dd = some (.dK (kvG encO es))
  ok : EOk es
theorem EditsAt.ne {b : Addr} {H0 H : Hp} {dd : Addr} {es : Es} (r : EditsAt b H0 dd es H) : b ≠ dd := fun z => by
  obtain ⟨i, _, q⟩ := r.go.cell
  rw [z, r.at_] at q
  cases q
theorem EditsAt.step {b : Addr} {H0 H H' : Hp} {dd : Addr} {es : Es} (r : EditsAt b H0 dd es H) (g : Go b H H') : EditsAt b H0 dd es H' :=
  ⟨r.go.trans g, r.new, g.keep _ _ (Ne.symm r.ne) r.at_, r.ok⟩
theorem EditsAt.put {b : Addr} {H0 H : Hp} {dd : Addr} {es : Es} (r : EditsAt b H0 dd es H) {p : Str} {o : Option Str} (hp : p ∈ allPaths) (hc : ∀ c, o = some c → Ct 1000 c) : EditsAt b H0 dd (putF es p o) (upd H dd (.dK (kvG encO (putF es p o)))) :=
  ⟨r.go.mut r.new r.ne, r.new, upd_same, r.ok.put hp hc⟩
theorem EditsAt.puts {b : Addr} {H0 H : Hp} {dd : Addr} {es : Es} (r : EditsAt b H0 dd es H) {p c : Str} (hp : p ∈ allPaths) (hc : Ct 1000 c) : EditsAt b H0 dd (putF es p (some c)) (upd H dd (.dK (kvG encO (putF es p (some c))))) :=
  r.put hp fun d e => by
    obtain rfl := Option.some.inj e
    exact hc
theorem EditsAt.dput {b : Addr} {H0 H : Hp} {dd : Addr} {es : Es} (r : EditsAt b H0 dd es H) {p : Str} (o : Option Str) : DPut H dd (.str p) (encO o) (upd H dd (.dK (kvG encO (putF es p o)))) := by
  rw [← kvF_put]
  refine DPut.k (k := Sum.inr p) r.at_ ?_
  unfold kvG
  rw [List.length_map]
  exact small_lt (by have := r.ok.few; omega)
theorem EditsAt.dget {b : Addr} {H0 H : Hp} {dd : Addr} {es : Es} (r : EditsAt b H0 dd es H) {p : Str} {o : Option Str} (h : valF es p = some o) : DGet H dd (.str p) (some (encO o)) := by
  have := DGet.k (k := Sum.inr p) r.at_
  rw [kvF_val, h] at this
  exact this
theorem pair_of {H : Hp} {q : Str × Str} {v : V} (h : Rep H (pairD q) v) : ∃ t, v = .ref t ∧ Rd H t (.tup [.str q.1, .str q.2]) := by
  obtain ⟨t, vs, rfl, ht, _, x, r, rfl, hx, y, r2, rfl, hy, hn⟩ := h
  cases (show r2 = [] from hn)
  cases (show x = V.str q.1 from hx)
  cases (show y = V.str q.2 from hy)
  exact ⟨t, rfl, ht⟩
def changeD : Str × Option Str → D
  | (p, none) => .tup [.str "drop", .str p]
  | (p, some c) => .tup [.str "put", .str p, .str c]
def editD (es : Es) : D := .tup (es.map changeD)
theorem drop_rep {H : Hp} {t : Addr} {p : Str} (h : H t = some (.tup [.str "drop", .str p])) : Rep H (changeD (p, none)) (.ref t) :=
  ⟨t, _, rfl, .inl h, by show 2 ≤ sizeLine; decide, .str "drop", [.str p], rfl, rfl, .str p, [], rfl, rfl, rfl⟩
theorem put_rep {H : Hp} {t : Addr} {p c : Str} (h : H t = some (.tup [.str "put", .str p, .str c])) : Rep H (changeD (p, some c)) (.ref t) :=
  ⟨t, _, rfl, .inl h, by show 3 ≤ sizeLine; decide, .str "put", [.str p, .str c], rfl, rfl, .str p, [.str c], rfl, rfl, .str c, [], rfl, rfl, rfl⟩
/-- a drawn edit -/
def spEdit (K : PySem.W.Frag) : Sp := fun vs H Q _ => ∃ (a b : Addr) (ns : List Int) (u : V) (fs : Fs), vs = [.ref a, .ref b, u] ∧ Sp0 K a b ns H ∧ Rep H (filesD fs) u ∧ FOk fs ∧ fs ≠ [] ∧
  ∀ (v : V) (es : Es) (H' : Hp), Go b H H' → Rep H' (editD es) v → EOk es → Asc (es.map (·.1)) → Q v H'
section
variable {P : Program} {w : World} {K : PySem.W.Frag} {mg : Str → Option Value} {base : Heap}
abbrev s_l_edit : Stmt := topS 61
theorem sc_l_edit : FnScope ["row", "spot", "files", "made", "k", "style", "path"] ["row", "spot", "files"] (defScope s_l_edit) := ⟨rfl, rfl, rfl, by decide +kernel, rfl, by decide +kernel, by decide +kernel⟩
theorem ok_edit {f : Addr} {fd : FuncData} (F : Fun K "_law_edit" "_law_edit" s_l_edit f fd) (T : Glo mg) (c_l_take : C8.Cal P w K mg base 2 "_law_take" (spTk K) []) (c_l_text : C8.Cal P w K mg base 3 "_law_text" (spText K) [])
    (c_l_expression : C8.Cal P w K mg base 6 "_law_expression" (spEx K 3) []) (c_l_content : C8.Cal P w K mg base 1 "_law_content" (spContent K) []) (c_l_setting_rows : C8.Cal P w K mg base 3 "_law_setting_rows" (spRows K 20 25) [])
    (c_l_place_rows : C8.Cal P w K mg base 3 "_law_place_rows" (spRows K 28 25) []) (c_l_own_rows : C8.Cal P w K mg base 3 "_law_own_rows" (spRows K 40 7) []) (c_l_goal_rows : C8.Cal P w K mg base 3 "_law_goal_rows" (spRows K 20 7) []) :
    FnOk P w K mg base CX0 7 f fd ["row", "spot", "files"] (spEdit K) := by
  refine F.ok sc_l_edit (fun vs H Q E h => ?_) (fun cdv A outer s H vs Q E hr h => ?_)
  · obtain ⟨a, b, ns, u, fs, rfl, _⟩ := h
    rfl
  · obtain ⟨a, b, ns, u, fs, rfl, S, hU, fok, fne, kk⟩ := h
    obtain ⟨vp, vs, rfl, hvp, hvl, hvs⟩ := hU
    have hlen := hvs.len
    rw [List.length_map] at hlen
    have hpos : 0 < vs.length := by
      rw [hlen]
      exact List.length_pos_iff.mpr fne
    have hu := hu_of hr
    refine ⟨_, (pss_cons (ps_set (i := 3) sc_l_edit.nd rfl (.inr rfl) pe_dnewK)
      (pss_cons (ps_for PassesOwn.never rfl (pi_range1 (by rfl) T.range (pa_cons (pe_op op_add pe_int (C8.pe_c c_l_take hr (by omega) (by rfl) (pa_cons (pv 0) (pa_cons (pv 1) (pa_cons (pe_ix ix_list (pe_lst (pa_cons pe_int (pa_cons pe_int (pa_cons pe_int (pa_cons pe_int pa_nil))))) (C8.pe_c c_l_take hr (by omega) (by rfl) (pa_cons (pv 0) (pa_cons (pv 1) (pa_cons pe_int pa_nil)))) (fun _ _ => rfl)) pa_nil))))) pa_nil)) (pg_name (i := 4) sc_l_edit.nd rfl (.inl rfl))
      (pss_cons (ps_set (i := 5) sc_l_edit.nd rfl (.inl rfl) (C8.pe_c c_l_take hr (by omega) (by rfl) (pa_cons (pv 0) (pa_cons (pv 1) (pa_cons pe_int pa_nil)))))
        (pss_cons (ps_set (i := 6) sc_l_edit.nd rfl (.inl rfl) (pe_ix ix_tup (pe_ifExp (pt_cmpR op_gt (pe_callB call_len_seq (by rfl) T.len PySem.boot_len (pa_cons (pv 2) pa_nil)) pe_int (nomark _)) (pe_ix ix_tup (pv 2) (C8.pe_c c_l_take hr (by omega) (by rfl) (pa_cons (pv 0) (pa_cons (pv 1) (pa_cons (pe_callB call_len_seq (by rfl) T.len PySem.boot_len (pa_cons (pv 2) pa_nil)) pa_nil)))) (fun _ _ => rfl)) (pe_tup (pa_strs rfl))) pe_int (fun _ _ => rfl)))
        (pss_one (ps_if (pt_cmpR op_lt (pv 5) pe_int (nomark _))
        (pss_one (ps_dput hu (pv 3) (pe_ix ix_list (pe_lst (pa_strs rfl)) (C8.pe_c c_l_take hr (by omega) (by rfl) (pa_cons (pv 0) (pa_cons (pv 1) (pa_cons pe_int pa_nil)))) (fun _ _ => rfl)) (C8.pe_c c_l_text hr (by omega) (by rfl) (pa_cons (pv 0) (pa_cons (pv 1) pa_nil))) rfl))
        (pss_one (ps_if (pt_cmpR op_eq (pv 5) pe_int (nomark _))
          (pss_one (ps_dput hu (pv 3) (pv 6) pe_non rfl))
          (pss_one (ps_if (pt_cmpR op_eq (pv 5) pe_int (nomark _))
            (pss_one (ps_dput hu (pv 3) pe_str (C8.pe_c c_l_content hr (by omega) (by rfl) (pa_cons (C8.pe_c c_l_setting_rows hr (by omega) (by rfl) (pa_cons (pv 0) (pa_cons (pv 1) pa_nil))) pa_nil)) rfl))
            (pss_one (ps_if (pt_cmpR op_eq (pv 5) pe_int (nomark _))
              (pss_one (ps_dput hu (pv 3) pe_str (C8.pe_c c_l_content hr (by omega) (by rfl) (pa_cons (C8.pe_c c_l_place_rows hr (by omega) (by rfl) (pa_cons (pv 0) (pa_cons (pv 1) pa_nil))) pa_nil)) rfl))
              (pss_one (ps_if (pt_cmpR op_eq (pv 5) pe_int (nomark _))
                (pss_one (ps_dput hu (pv 3) pe_str (C8.pe_c c_l_content hr (by omega) (by rfl) (pa_cons (C8.pe_c c_l_own_rows hr (by omega) (by rfl) (pa_cons (pv 0) (pa_cons (pv 1) pa_nil))) pa_nil)) rfl))
                (pss_one (ps_if (pt_cmpR op_eq (pv 5) pe_int (nomark _))
                  (pss_one (ps_dput hu (pv 3) pe_str (C8.pe_c c_l_content hr (by omega) (by rfl) (pa_cons (C8.pe_c c_l_goal_rows hr (by omega) (by rfl) (pa_cons (pv 0) (pa_cons (pv 1) pa_nil))) pa_nil)) rfl))
                  (pss_one (ps_if (pt_cmpR op_eq (pv 5) pe_int (nomark _))
                    (pss_one (ps_dput hu (pv 3) pe_str (pe_op op_add_str (pe_op op_add_str (pe_op op_add_str (pe_op op_add_str pe_str (pe_callTy call_str_int (by rfl) T.str (by decide +kernel) (pa_cons (C8.pe_c c_l_take hr (by omega) (by rfl) (pa_cons (pv 0) (pa_cons (pv 1) (pa_cons pe_int pa_nil)))) pa_nil))) pe_str) (pe_join pe_str (C8.pe_c c_l_expression hr (by omega) (by rfl) (pa_cons (pv 0) (pa_cons (pv 1) (pa_cons (pe_lst pa_nil) (pa_cons pe_int pa_nil))))))) pe_str) rfl))
                    (pss_one (ps_dput hu (pv 3) (pe_ix ix_list (pe_lst (pa_strs rfl)) (C8.pe_c c_l_take hr (by omega) (by rfl) (pa_cons (pv 0) (pa_cons (pv 1) (pa_cons pe_int pa_nil)))) (fun _ _ => rfl)) (pe_ix ix_list (pe_lst (pa_strs rfl)) (C8.pe_c c_l_take hr (by omega) (by rfl) (pa_cons (pv 0) (pa_cons (pv 1) (pa_cons pe_int pa_nil)))) (fun _ _ => rfl)) rfl)))))))))))))))))))
      (pss_one (ps_ret (pe_callTy call_tuple_of (by rfl) T.tuple PyProof.Rows.boot_tuple (pa_cons (pe_lc (own := [("path", 6)]) (g := gName 6) (tt := tYes) rfl sc_l_edit.nd (pi_list (pe_callB (call_sortedD rfl) (by rfl) T.sorted (by decide +kernel) (pa_cons (pv 3) pa_nil))) (blkOk_by (N := ["row", "spot", "files", "made", "k", "style", "path"]) (sc := defScope s_l_edit) (by decide +kernel)) (fun _ _ _ _ _ => (pg_name (i := 6) sc_l_edit.nd rfl (.inl rfl))) (fun _ _ _ _ _ => pts_nil) (fun _ _ _ _ _ => (pe_ifExp (pt_cmp (pc_isN (pe_dget hu (pv 3) (pv 6) (fun _ _ => rfl)))) (pe_tup (pa_cons pe_str (pa_cons (pv 6) pa_nil))) (pe_tup (pa_cons pe_str (pa_cons (pv 6) (pa_cons (pe_dget hu (pv 3) (pv 6) (fun _ _ => rfl)) pa_nil))))))) pa_nil)))))), ?_⟩
    refine fun dd hdd => ?_
    have G0 : EditsAt b H dd [] (upd H dd (.dK [])) := ⟨(Go.refl S.cell).new hdd, hdd, upd_same, EOk.nil⟩
    refine ⟨_, rfl, _, rfl, (by show 4 ≤ sizeLine; decide), fun l hl => ⟨_, rfl, _, rfl, a, b, ns, 4, rfl, S.go (G0.go.new hl), by decide, fun d H2 g2 h0 h1 => ?_⟩⟩
    have hd : ∃ m : Int, 0 < m ∧ m ≤ 8 ∧ atI [V.int 2, V.int 2, V.int 2, V.int 8] d = some (.int m) := by
      rcases (show d = 0 ∨ d = 1 ∨ d = 2 ∨ d = 3 by omega) with rfl | rfl | rfl | rfl
      · exact ⟨2, by decide, by decide, rfl⟩
      · exact ⟨2, by decide, by decide, rfl⟩
      · exact ⟨2, by decide, by decide, rfl⟩
      · exact ⟨8, by decide, by decide, rfl⟩
    obtain ⟨m, m0, m1, em⟩ := hd
    have gl := (Go.refl G0.go.cell).new (o := .lst [.int 2, .int 2, .int 2, .int 8]) hl
    have G2 := (G0.step gl).step g2
    have hl2 : H2 l = some (.lst [.int 2, .int 2, .int 2, .int 8]) := g2.keep _ _ (fun z => by
      obtain ⟨i, _, q⟩ := G0.go.cell
      rw [z, q] at hl
      cases hl) upd_same
    refine ⟨l, _, d, _, rfl, rfl, SqL.of hl2, em, a, b, ns, m, rfl, S.go G2.go, m0, fun n H3 g3 n0 n1 => ?_⟩
    have G3 := G2.step g3
    refine ⟨_, _, rfl, rfl, _, rfl, (rng_of (by omega) (by omega)).1, (rng_of (by omega) (by omega)).2, for_range (n := (1 + n).toNat) (fun j σ H1 => ∃ (es : Es) (k4 k5 k6 : Option V), σ = [some (.ref a), some (.ref b), some (.ref vp), some (.ref dd), k4, k5, k6] ∧ EditsAt b H dd es H1)
        ⟨[], _, _, _, rfl, G3⟩ ?_ ?_⟩
    · rintro j σ H4 hj ⟨es, k4, k5, k6, rfl, G⟩
      refine ⟨_, rfl, _, rfl, a, b, ns, 12, rfl, S.go G.go, by decide, fun st H5 g5 s0 s1 => ?_⟩
      have G := G.step g5
      have hv5 : Rd H5 vp (.tup vs) := G.go.tk S.cell _ _ hvp
      refine ⟨_, rfl, vp, _, rfl, .inr (.inl hv5), _, _, rfl, rfl, _, rfl, ite2 (fun _ => ?_) (fun c => absurd (decide_eq_true (show (0 : Int) < (vs.length : Int) by omega)) c)⟩
      refine ⟨_, rfl, _, rfl, _, rfl, _, rfl, vp, _, rfl, .inr (.inl hv5), a, b, ns, _, rfl, S.go G.go, by omega, fun d H6 g6 d0 d1 => ?_⟩
      have G := G.step g6
      have tk6 : Tk H H6 := G.go.tk S.cell
      obtain ⟨d, rfl⟩ := Int.eq_ofNat_of_zero_le d0
      have hd : d < fs.length := by omega
      obtain ⟨x, hx, hxr⟩ := hvs.get (i := d) (d := pairD (fs[d])) (by rw [List.getElem?_map, List.getElem?_eq_getElem hd]; rfl)
      obtain ⟨t, rfl, ht⟩ := pair_of (hxr.keep tk6)
      have hp : (fs[d]).1 ∈ allPaths := fok.path _ (List.getElem_mem hd)
      refine ⟨vp, _, d, _, rfl, rfl, .inl (tk6 _ _ hvp), atI_nat hx, t, _, 0, _, rfl, rfl, .inl ht, rfl, ?_⟩
      generalize (fs[d]).1 = path at hp ⊢
      have fin : ∀ {es' : Es} {k4' k5' k6' : Option V} {H' : Hp}, EditsAt b H dd es' H' → ∃ (es : Es) (k4 k5 k6 : Option V), [some (V.ref a), some (V.ref b), some (V.ref vp), some (V.ref dd), k4', k5', k6'] = [some (V.ref a), some (V.ref b), some (V.ref vp), some (V.ref dd), k4, k5, k6] ∧ EditsAt b H dd es H' := fun g => ⟨_, _, _, _, rfl, g⟩
      refine ⟨_, rfl, _, _, rfl, rfl, _, rfl, ite2 (fun _ => ?_) (fun _ => ?_)⟩
      · refine ⟨_, rfl, _, rfl, a, b, ns, rfl, S.go G.go, fun x H7 g7 hx7 => ?_⟩
        have G := G.step g7
        refine ⟨_, rfl, (by show 6 ≤ sizeLine; decide), fun l hl => ⟨_, rfl, _, rfl, a, b, ns, 6, rfl, S.go (G.go.new hl), by decide, fun d H8 g8 d0 d1 => ?_⟩⟩
        obtain ⟨nm, hnm, enm⟩ := strs_at (xs := (["app/main", "app/side", "doc/note", "app/sub/deep", "doc/new", "appx/z"] : List Str)) d0 d1
        have hs := strs_new G.go.cell hl g8
        have G := (G.step ((Go.refl G.go.cell).new hl)).step g8
        exact ⟨l, _, d, _, rfl, rfl, SqL.of hs, enm, dd, _, rfl, G.dput (some x), fin (G.puts (mem_sub (by decide) hnm) (ct_mem hx7 (by decide +kernel)))⟩
      refine ⟨_, rfl, rfl, _, rfl, ite2 (fun _ => ?_) (fun _ => ?_)⟩
      · exact ⟨_, rfl, _, rfl, dd, _, rfl, G.dput none, fin (G.put hp fun _ e => nomatch e)⟩
      refine ⟨_, rfl, rfl, _, rfl, ite2 (fun _ => ?_) (fun _ => ?_)⟩
      · refine ⟨_, rfl, _, rfl, a, b, ns, rfl, S.go G.go, fun p xs H7 R => ⟨p, xs, rfl, R.at_, Nat.le_trans R.few (by decide), fun x hx => (R.sg x hx).mono (by decide), fun H8 s8 => ?_⟩⟩
        have G := (G.step R.go).step (Go.same R.go.cell s8)
        exact ⟨_, rfl, dd, _, rfl, G.dput (some _), fin (G.puts (p := "set/all") (by decide) (content_ct R.few R.sg (by decide)))⟩
      refine ⟨_, rfl, rfl, _, rfl, ite2 (fun _ => ?_) (fun _ => ?_)⟩
      · refine ⟨_, rfl, _, rfl, a, b, ns, rfl, S.go G.go, fun p xs H7 R => ⟨p, xs, rfl, R.at_, Nat.le_trans R.few (by decide), fun x hx => (R.sg x hx).mono (by decide), fun H8 s8 => ?_⟩⟩
        have G := (G.step R.go).step (Go.same R.go.cell s8)
        exact ⟨_, rfl, dd, _, rfl, G.dput (some _), fin (G.puts (p := "fleet/places") (by decide) (content_ct R.few R.sg (by decide)))⟩
      refine ⟨_, rfl, rfl, _, rfl, ite2 (fun _ => ?_) (fun _ => ?_)⟩
      · refine ⟨_, rfl, _, rfl, a, b, ns, rfl, S.go G.go, fun p xs H7 R => ⟨p, xs, rfl, R.at_, Nat.le_trans R.few (by decide), fun x hx => (R.sg x hx).mono (by decide), fun H8 s8 => ?_⟩⟩
        have G := (G.step R.go).step (Go.same R.go.cell s8)
        exact ⟨_, rfl, dd, _, rfl, G.dput (some _), fin (G.puts (p := "own/rules") (by decide) (content_ct R.few R.sg (by decide)))⟩
      refine ⟨_, rfl, rfl, _, rfl, ite2 (fun _ => ?_) (fun _ => ?_)⟩
      · refine ⟨_, rfl, _, rfl, a, b, ns, rfl, S.go G.go, fun p xs H7 R => ⟨p, xs, rfl, R.at_, Nat.le_trans R.few (by decide), fun x hx => (R.sg x hx).mono (by decide), fun H8 s8 => ?_⟩⟩
        have G := (G.step R.go).step (Go.same R.go.cell s8)
        exact ⟨_, rfl, dd, _, rfl, G.dput (some _), fin (G.puts (p := "pack/goals") (by decide) (content_ct R.few R.sg (by decide)))⟩
      refine ⟨_, rfl, rfl, _, rfl, ite2 (fun _ => ?_) (fun _ => ?_)⟩
      · refine ⟨_, rfl, _, rfl, a, b, ns, 3, rfl, S.go G.go, by decide, fun d H7 g7 d0 d1 => ?_⟩
        have G := G.step g7
        obtain ⟨d, rfl⟩ := Int.eq_ofNat_of_zero_le d0
        have kn : Sg 2 (toString (d : Int)) := sg_num (by omega)
        have q1 := (sg_of (m := 8) (x := "target n") (by decide +kernel)).cat kn
        have q2 := q1.cat (sg_of (m := 3) (x := " = ") (by decide +kernel))
        refine ⟨_, rfl, log_small (by omega), _, _, rfl, rfl, (sg_of (m := 8) (by decide +kernel)).sz kn, _, _, rfl, rfl, q1.sz (sg_of (m := 3) (by decide +kernel)), ⟨_, rfl⟩, ?_⟩
        refine ⟨_, rfl, _, rfl, (by show 0 ≤ sizeLine; decide), fun q hq => ⟨a, b, q, ns, [], 2, rfl, S.go (G.go.new hq), upd_same, by decide, by decide, fun p xs H8 g8 _ hs he => ?_⟩⟩
        obtain ⟨hab, hsum⟩ := he.about fun _ h => nomatch h
        have G := (G.step ((Go.refl G.go.cell).new hq)).step g8
        have nl : ctB 1 "\n" = true := by decide +kernel
        have c1 := (q2.cat hab).ct.cat (ct_of nl)
        exact ⟨_, p, xs, rfl, rfl, .inl (SqL.of hs), hsum, _, _, rfl, rfl, q2.sz hab, _, _, rfl, rfl, small_of (by have := (q2.cat hab).len; have := (ct_of nl).len; omega), _, rfl, dd, _, rfl, G.dput (some _), fin (G.puts (p := "build/c") (by decide) (c1.mono (by decide)))⟩
      · refine ⟨(by show 4 ≤ sizeLine; decide), fun l hl => ⟨_, rfl, _, rfl, a, b, ns, 4, rfl, S.go (G.go.new hl), by decide, fun d H7 g7 d0 d1 => ?_⟩⟩
        obtain ⟨x, hx, ex⟩ := strs_at (xs := (["wrong line\n", "\nend\n", "need util 2 1\n", "x =\n"] : List Str)) d0 d1
        have hs1 := strs_new G.go.cell hl g7
        have G := (G.step ((Go.refl G.go.cell).new hl)).step g7
        refine ⟨l, _, d, _, rfl, rfl, SqL.of hs1, ex, _, rfl, (by show 5 ≤ sizeLine; decide), fun l2 hl2 => ⟨_, rfl, _, rfl, a, b, ns, 5, rfl, S.go (G.go.new hl2), by decide, fun d H8 g8 d0 d1 => ?_⟩⟩
        obtain ⟨nm, hnm, enm⟩ := strs_at (xs := (["set/all", "build/b", "own/rules", "fleet/places", "pack/goals"] : List Str)) d0 d1
        have hs2 := strs_new G.go.cell hl2 g8
        have G := (G.step ((Go.refl G.go.cell).new hl2)).step g8
        exact ⟨l2, _, d, _, rfl, rfl, SqL.of hs2, enm, dd, _, rfl, G.dput (some x), fin (G.puts (mem_sub (by decide) hnm) (ct_mem hx (by decide +kernel)))⟩
    · rintro σ H4 ⟨fs, k4, k5, k6, rfl, G⟩
      have hl20 := G.ok.few
      refine ⟨_, rfl, dd, kvG encO fs, fs.map (·.1), rfl, .inl G.at_, kvF_keys encO fs, by rw [List.length_map]; omega, fun ks p perm srt hp => ?_⟩
      have gp := (Go.refl G.go.cell).new (o := .lst (ks.map V.str)) hp
      have G := G.step gp
      have asc : Asc ks := asc_of srt (perm.nodup_iff.mpr G.ok.nd)
      have hks : ks.length ≤ 20 := by
        rw [perm.length_eq, List.length_map]
        exact hl20
      have hP : upd H4 p (.lst (ks.map V.str)) p = some (.lst (ks.map V.str)) := upd_same
      have hpb : p ≠ b := fun z => by
        obtain ⟨i, _, q⟩ := gp.cell
        rw [← z, upd_same] at q
        have q' := HO.lst.inj (Option.some.inj q)
        cases ks with
        | nil => cases q'
        | cons y r => cases (List.cons.inj q').1
      clear gp
      generalize upd H4 p (.lst (ks.map V.str)) = H5 at G hP ⊢
      refine ⟨p, rfl, ⟨_, SqL.of hP⟩, fun D hD => ?_⟩
      have hbD : b ≠ D := fun z => by
        obtain ⟨i, _, q⟩ := G.go.cell
        rw [z, hD] at q
        cases q
      refine lc_list (K := K) (a := p) (xs := ks.map V.str) (fun i H6 => Go b H5 H6 ∧ ∃ vs : List V, H6 D = some (.lst vs) ∧ vs.length = i ∧ Reps H6 ((sortF fs (ks.take i)).map changeD) vs)
        ⟨(Go.refl G.go.cell).new hD, [], upd_same, rfl, rfl⟩ (fun i H6 _ q => SqL.of (q.1.keep _ _ hpb hP)) ?_ ?_
      · rintro i x H6 hx ⟨g6, vs, e, hl, hr⟩
        rw [List.getElem?_map] at hx
        obtain ⟨k, hk, rfl⟩ := Option.map_eq_some_iff.mp hx
        have hi : i < ks.length := (List.getElem?_eq_some_iff.mp hk).1
        have hkm : k ∈ fs.map (·.1) := perm.mem_iff.mp (List.mem_of_getElem? hk)
        obtain ⟨c, hc⟩ := Option.isSome_iff_exists.mp (valF_isSome.mpr hkm)
        have G6 := G.step g6
        have es : (sortF fs (ks.take (i + 1))).map changeD = (sortF fs (ks.take i)).map changeD ++ [changeD (k, c)] := by
          unfold sortF
          rw [List.take_add_one, hk, List.map_append, List.map_append]
          simp [hc]
        have nx : ∀ {t : Addr} {xs : List V}, H6 t = none → Rep (upd H6 t (.tup xs)) (changeD (k, c)) (.ref t) → ∃ acc, upd H6 t (.tup xs) D = some (.lst acc) ∧ acc.length < sizeLine ∧ Go b H5 (upd (upd H6 t (.tup xs)) D (.lst (acc ++ [.ref t]))) ∧ ∃ vs : List V, upd (upd H6 t (.tup xs)) D (.lst (acc ++ [.ref t])) D = some (.lst vs) ∧ vs.length = i + 1 ∧ Reps (upd (upd H6 t (.tup xs)) D (.lst (acc ++ [.ref t]))) ((sortF fs (ks.take (i + 1))).map changeD) vs := by
          intro t xs ht hrep
          have htD : D ≠ t := fun z => by
            rw [← z, e] at ht
            cases ht
          refine ⟨vs, by rw [upd_ne htD]; exact e, small_lt (by omega), (g6.new ht).mut hD hbD, vs ++ [.ref t], upd_same, by rw [List.length_append]; simp only [List.length_cons, List.length_nil]; omega, ?_⟩
          rw [es]
          have tk : Tk (upd H6 t (.tup xs)) (upd (upd H6 t (.tup xs)) D (.lst (vs ++ [.ref t]))) := Tk.lst (by rw [upd_ne htD]; exact e)
          exact Reps.snoc (Reps.keep tk (Reps.keep (Tk.new ht) hr)) (Rep.keep tk hrep)
        have dg := G6.dget hc
        cases c with
        | none =>
          refine ⟨rfl, _, rfl, _, rfl, dd, _, rfl, dg, _, rfl, ite2 (fun _ => ?_) (fun c => absurd rfl c)⟩
          exact ⟨_, rfl, (by show 2 ≤ sizeLine; decide), fun t ht => nx ht (drop_rep upd_same)⟩
        | some c =>
          refine ⟨rfl, _, rfl, _, rfl, dd, _, rfl, dg, _, rfl, ite2 (fun z => by cases (show V.str c = V.non from of_decide_eq_true z)) (fun _ => ?_)⟩
          exact ⟨_, rfl, _, rfl, _, rfl, dd, _, rfl, dg, (by show 3 ≤ sizeLine; decide), fun t ht => nx ht (put_rep upd_same)⟩
      · rintro H6 ⟨g6, vs, e, hl, hr⟩
        rw [List.length_map] at hl hr
        rw [List.take_length] at hr
        refine ⟨D, _, rfl, .inl ⟨SqL.of e, fun l hl2 => ?_⟩⟩
        exact kk (.ref l) (sortF fs ks) _ ((G.go.trans g6).new hl2) ⟨l, vs, rfl, .inl upd_same, small_of (by omega), Reps.keep (Tk.new hl2) hr⟩ (G.ok.sort perm) (by rw [sortF_keys]; exact asc)
end
end Kl

namespace Kl
open PySem L2 Kd
/-! dicts of files, and back -/
abbrev PairAt (K : PySem.W.Frag) (H : Hp) : Addr → Key × V → Prop := fun p kv => SqT K H p [kV kv.1, kv.2]
theorem SqT.same {K : PySem.W.Frag} {H H' : Hp} {p : Addr} {xs : List V} (s : Same H H') (h : SqT K H p xs) : SqT K H' p xs := by
  rcases h with (h | ⟨o, h⟩) | h
  · exact .inl (.inl (s _ _ h))
  · exact .inl (.inr ⟨o, s _ _ h⟩)
  · exact .inr h
theorem Same.tk {H H' : Hp} (s : Same H H') : Tk H H' := Tk.same s
theorem map_take_succ {α β : Type} (f : α → β) {l : List α} {i : Nat} {x : α} (h : l[i]? = some x) : (l.take (i + 1)).map f = (l.take i).map f ++ [f x] := by
  rw [List.take_add_one, h, List.map_append]
  rfl
/-- [(one[0], ..) for one in files]: a list of pairs -/
theorem lc_pairs {K : PySem.W.Frag} {j : Nat} {t2 : TE} {σ : L2.St} {H1 : Hp} {D : Addr} {Qd : Hp → Prop} {a : Addr} {vs : List V} {fs : Fs} {enc : Str → V}
    (hw : ∀ x, wipe ((wipe σ [j]).set j (some x)) [j] = wipe σ [j]) (hj : ∀ x, ((wipe σ [j]).set j (some x))[j]? = some (some x)) (ha : SqT K H1 a vs) (hr : Reps H1 (fs.map pairD) vs) (hl : fs.length ≤ 1000) (hD : H1 D = none)
    (h2 : ∀ (q : Str × Str) (t : Addr) (H2 : Hp) (Qv : VK), Rd H2 t (.tup [.str q.1, .str q.2]) → Qv (enc q.2) H2 → t2 ((wipe σ [j]).set j (some (.ref t))) H2 Qv)
    (hd : ∀ (H2 : Hp) (ps : List Addr), Same H1 H2 → H2 D = some (.lst (ps.map V.ref)) → Paired (PairAt K H2) ps (kvG enc fs) → Qd H2) :
    ∃ W : Nat → Nat → Hp → Prop, (∃ m, W 0 m (upd H1 D (.lst []))) ∧ ∀ i m H, W i m H →
      ((Itt K a).stop i H ∧ Qd H) ∨ ((Itt K a).go i H ∧ ∃ Nx : Hp → Prop, (∀ H', Nx H' → ∃ m', m' < m ∧ W (i + 1) m' H') ∧ ∀ x H', (Itt K a).yld i H x H' → gName j x (wipe σ [j]) H' fun σ2 H2 => wipe σ2 [j] = wipe σ [j] ∧ tYes σ2 H2 fun b H3 =>
        if b = true then (tTup (tCons (tOp (rIxT K) (tVar j) (tC (.int 0))) (tCons t2 tNil))) σ2 H3 fun y H4 => ∃ acc, H4 D = some (.lst acc) ∧ acc.length < sizeLine ∧ Nx (upd H4 D (.lst (acc ++ [y]))) else Nx H3) := by
  have hlen := hr.len
  rw [List.length_map] at hlen
  refine lc_tup (K := K) (a := a) (xs := vs) (fun i H => Same H1 H ∧ ∃ ps : List Addr, H D = some (.lst (ps.map V.ref)) ∧ ps.length = i ∧ Paired (PairAt K H) ps (kvG enc (fs.take i)))
    ⟨Same.new hD, [], upd_same, rfl, .nil⟩ (fun i H _ p => SqT.same p.1 ha) ?_ ?_
  · rintro i x H hx ⟨s, ps, e, hi, pr⟩
    have hil : i < fs.length := by
      have := (List.getElem?_eq_some_iff.mp hx).1
      omega
    have hq : fs[i]? = some fs[i] := List.getElem?_eq_getElem hil
    obtain ⟨v, hv, hrep⟩ := hr.get (i := i) (d := pairD fs[i]) (by rw [List.getElem?_map, hq]; rfl)
    obtain rfl : v = x := Option.some.inj (hv.symm.trans hx)
    obtain ⟨t, rfl, ht⟩ := pair_of (hrep.keep (Same.tk s))
    refine ⟨hw _, _, hj _, t, _, 0, _, rfl, rfl, .inl ht, rfl, h2 fs[i] t H _ ht ⟨(by show 2 ≤ sizeLine; decide), fun p hp => ?_⟩⟩
    have hDp : D ≠ p := fun z => by
      rw [← z, e] at hp
      cases hp
    refine ⟨ps.map V.ref, by rw [upd_ne hDp]; exact e, by rw [List.length_map]; exact small_lt (by omega), Same.mut (fun b o z => by rw [upd_ne (ne_of_none (s b o z) hp)]; exact s b o z) hD, ps ++ [p], by rw [upd_same, List.map_append]; rfl, by rw [List.length_append]; simp only [List.length_cons, List.length_nil]; omega, ?_⟩
    have en : kvG enc (fs.take (i + 1)) = kvG enc (fs.take i) ++ [(Sum.inr fs[i].1, enc fs[i].2)] := map_take_succ _ hq
    rw [en]
    have keep : ∀ (a : Addr) (kv : Key × V), PairAt K H a kv → PairAt K (upd (upd H p (.tup [.str fs[i].1, enc fs[i].2])) D (.lst (ps.map V.ref ++ [.ref p]))) a kv := fun a kv h => by
      rcases h with (h | ⟨o, h⟩) | h
      · refine .inl (.inl ?_)
        rw [upd_ne (ne_of h e (fun z => nomatch z)), upd_ne (ne_of_none h hp)]
        exact h
      · refine .inl (.inr ⟨o, ?_⟩)
        rw [upd_ne (ne_of h e (fun z => nomatch z)), upd_ne (ne_of_none h hp)]
        exact h
      · exact .inr h
    exact Paired.snoc (Paired.mono keep pr) (SqT.of (by rw [upd_ne (Ne.symm hDp)]; exact upd_same))
  · rintro H ⟨s, ps, e, hi, pr⟩
    rw [hlen, List.take_length] at pr
    exact hd H ps s e pr
/-- [(path, files[path]) for path in sorted(files)]: rising pairs -/
theorem lc_sorted {K : PySem.W.Frag} {i0 j : Nat} {σ : L2.St} {H1 : Hp} {D p dd : Addr} {Qd : Hp → Prop} {ks : List Str} {fs : Fs}
    (hw : ∀ x, wipe ((wipe σ [j]).set j (some x)) [j] = wipe σ [j]) (hj : ∀ x, ((wipe σ [j]).set j (some x))[j]? = some (some x)) (hi0 : ∀ x, ((wipe σ [j]).set j (some x))[i0]? = some (some (.ref dd)))
    (hp : H1 p = some (.lst (ks.map V.str))) (hdd : H1 dd = some (.dK (kvF fs))) (perm : ks.Perm (fs.map (·.1))) (hl : ks.length ≤ 1000) (hD : H1 D = none)
    (hd : ∀ (H2 : Hp) (vs : List V), Same H1 H2 → H2 D = some (.lst vs) → vs.length = ks.length → Reps H2 ((sortF fs ks).map pairD) vs → Qd H2) :
    ∃ W : Nat → Nat → Hp → Prop, (∃ m, W 0 m (upd H1 D (.lst []))) ∧ ∀ i m H, W i m H →
      ((Itl K p).stop i H ∧ Qd H) ∨ ((Itl K p).go i H ∧ ∃ Nx : Hp → Prop, (∀ H', Nx H' → ∃ m', m' < m ∧ W (i + 1) m' H') ∧ ∀ x H', (Itl K p).yld i H x H' → gName j x (wipe σ [j]) H' fun σ2 H2 => wipe σ2 [j] = wipe σ [j] ∧ tYes σ2 H2 fun b H3 =>
        if b = true then (tTup (tCons (tVar j) (tCons (tDGet (tVar i0) (tVar j)) tNil))) σ2 H3 fun y H4 => ∃ acc, H4 D = some (.lst acc) ∧ acc.length < sizeLine ∧ Nx (upd H4 D (.lst (acc ++ [y]))) else Nx H3) := by
  refine lc_list (K := K) (a := p) (xs := ks.map V.str) (fun i H => Same H1 H ∧ ∃ vs : List V, H D = some (.lst vs) ∧ vs.length = i ∧ Reps H ((sortF fs (ks.take i)).map pairD) vs)
    ⟨Same.new hD, [], upd_same, rfl, rfl⟩ (fun i H _ q => SqL.of (q.1 _ _ hp)) ?_ ?_
  · rintro i x H hx ⟨s, vs, e, hi, hr⟩
    rw [List.getElem?_map] at hx
    obtain ⟨k, hk, rfl⟩ := Option.map_eq_some_iff.mp hx
    have hil : i < ks.length := (List.getElem?_eq_some_iff.mp hk).1
    have hkm : k ∈ fs.map (·.1) := perm.mem_iff.mp (List.mem_of_getElem? hk)
    obtain ⟨c, hc⟩ := Option.isSome_iff_exists.mp (valF_isSome.mpr hkm)
    have dg : DGet H dd (.str k) (some (.str c)) := by
      have := DGet.k (k := Sum.inr k) (s _ _ hdd)
      rw [kvF_val', hc] at this
      exact this
    refine ⟨hw _, _, hj _, _, hi0 _, _, hj _, dd, _, rfl, dg, (by show 2 ≤ sizeLine; decide), fun t ht => ?_⟩
    have htD : D ≠ t := fun z => by
      rw [← z, e] at ht
      cases ht
    refine ⟨vs, by rw [upd_ne htD]; exact e, small_lt (by omega), Same.mut (fun b o z => by rw [upd_ne (ne_of_none (s b o z) ht)]; exact s b o z) hD, vs ++ [.ref t], upd_same, by rw [List.length_append]; simp only [List.length_cons, List.length_nil]; omega, ?_⟩
    have es : (sortF fs (ks.take (i + 1))).map pairD = (sortF fs (ks.take i)).map pairD ++ [pairD (k, c)] := by
      unfold sortF
      rw [List.take_add_one, hk, List.map_append, List.map_append]
      simp [hc]
    rw [es]
    have tk : Tk (upd H t (.tup [.str k, .str c])) (upd (upd H t (.tup [.str k, .str c])) D (.lst (vs ++ [.ref t]))) := Tk.lst (by rw [upd_ne htD]; exact e)
    exact Reps.snoc (Reps.keep tk (Reps.keep (Tk.new ht) hr)) (Rep.keep tk (pair_rep upd_same))
  · rintro H ⟨s, vs, e, hi, hr⟩
    rw [List.length_map] at hi hr
    rw [List.take_length] at hr
    exact hd H vs s e hi hr
/-- pairs of different paths, one by one -/
theorem merge_new {α : Type} (f : α → V) : ∀ (gs fs : List (Str × α)), ((fs ++ gs).map (·.1)).Nodup → mergeK (kvG f fs) (kvG f gs) = kvG f (fs ++ gs)
  | [], fs, _ => by rw [List.append_nil]; rfl
  | q :: r, fs, nd => by
    have hn : valV (kvG f fs) (Sum.inr q.1) = none := by
      rw [kvF_val]
      cases e : valF fs q.1 with
      | none => rfl
      | some c =>
        have h1 : q.1 ∈ fs.map (·.1) := valF_isSome.mp (by rw [e]; rfl)
        rw [List.map_append, List.map_cons, List.nodup_append] at nd
        exact absurd rfl (nd.2.2 _ h1 _ (List.mem_cons_self ..))
    have ih := merge_new f r (fs ++ [q]) (by rw [List.append_assoc]; exact nd)
    rw [List.append_assoc] at ih
    rw [← show fs ++ [q] ++ r = fs ++ q :: r by simp, List.append_assoc] 
    refine Eq.trans ?_ ih
    show mergeK (putK (kvG f fs) (Sum.inr q.1) (f q.2)) (kvG f r) = _
    rw [putK_new (f q.2) hn]
    unfold kvG
    rw [List.map_append]
    rfl
theorem merge_all {α : Type} (f : α → V) {fs : List (Str × α)} (nd : (fs.map (·.1)).Nodup) : mergeK [] (kvG f fs) = kvG f fs := merge_new f fs [] nd
end Kl

namespace Kl
open PySem L2 Kd
/-! data of lists and tuples -/
mutual
def RepX (N : Addr → Prop) (H : Hp) : D → V → Prop
  | .non, v => v = .non
  | .bl b, v => v = .bl b
  | .int i, v => v = .int i
  | .str x, v => v = .str x
  | .tup ds, v => ∃ (a : Addr) (vs : List V), v = .ref a ∧ N a ∧ (Rd H a (.tup vs) ∨ H a = some (.lst vs)) ∧ vs.length ≤ sizeLine ∧ RepsX N H ds vs
def RepsX (N : Addr → Prop) (H : Hp) : List D → List V → Prop
  | [], vs => vs = []
  | d :: ds, vs => ∃ (v : V) (r : List V), vs = v :: r ∧ RepX N H d v ∧ RepsX N H ds r
end
mutual
theorem RepX.keep {N M : Addr → Prop} {H H' : Hp} (k : ∀ a, N a → M a) (g : ∀ a u, N a → H a = some u → H' a = some u) : ∀ {d : D} {v : V}, RepX N H d v → RepX M H' d v
  | .non, _, h => h
  | .bl _, _, h => h
  | .int _, _, h => h
  | .str _, _, h => h
  | .tup _, _, ⟨a, vs, e, n, h, l, r⟩ => ⟨a, vs, e, k a n, h.imp (fun h => h.imp (g a _ n) fun ⟨o, h⟩ => ⟨o, g a _ n h⟩) (g a _ n), l, RepsX.keep k g r⟩
theorem RepsX.keep {N M : Addr → Prop} {H H' : Hp} (k : ∀ a, N a → M a) (g : ∀ a u, N a → H a = some u → H' a = some u) : ∀ {ds : List D} {vs : List V}, RepsX N H ds vs → RepsX M H' ds vs
  | [], _, h => h
  | _ :: _, _, ⟨v, r, e, h, q⟩ => ⟨v, r, e, RepX.keep k g h, RepsX.keep k g q⟩
end
abbrev RepL : Hp → D → V → Prop := RepX (fun _ => True)
abbrev RepsL : Hp → List D → List V → Prop := RepsX (fun _ => True)
theorem RepX.same {N : Addr → Prop} {H H' : Hp} (s : Same H H') {d : D} {v : V} (r : RepX N H d v) : RepX N H' d v := r.keep (fun _ n => n) (fun a u _ e => s a u e)
theorem RepsX.same {N : Addr → Prop} {H H' : Hp} (s : Same H H') {d : List D} {v : List V} (r : RepsX N H d v) : RepsX N H' d v := r.keep (fun _ n => n) (fun a u _ e => s a u e)
theorem RepX.any {N : Addr → Prop} {H : Hp} {d : D} {v : V} (r : RepX N H d v) : RepL H d v := r.keep (fun _ _ => trivial) (fun _ _ _ e => e)
mutual
theorem Rep.loose {H : Hp} : ∀ {d : D} {v : V}, Rep H d v → RepL H d v
  | .non, _, h => h
  | .bl _, _, h => h
  | .int _, _, h => h
  | .str _, _, h => h
  | .tup _, _, ⟨a, vs, e, h, l, r⟩ => ⟨a, vs, e, trivial, .inl h, l, Reps.loose r⟩
theorem Reps.loose {H : Hp} : ∀ {ds : List D} {vs : List V}, Reps H ds vs → RepsL H ds vs
  | [], _, h => h
  | _ :: _, _, ⟨v, r, e, h, q⟩ => ⟨v, r, e, Rep.loose h, Reps.loose q⟩
end
theorem RepsX.len {N : Addr → Prop} {H : Hp} : ∀ {ds : List D} {vs : List V}, RepsX N H ds vs → vs.length = ds.length
  | [], _, h => by cases (show _ = [] from h); rfl
  | d :: ds, _, ⟨v, r, e, h, q⟩ => by subst e; exact congrArg (· + 1) (RepsX.len q)
theorem RepsX.get {N : Addr → Prop} {H : Hp} : ∀ {ds : List D} {vs : List V} {i : Nat} {d : D}, RepsX N H ds vs → ds[i]? = some d → ∃ v, vs[i]? = some v ∧ RepX N H d v
  | [], _, i, d, _, e => by simp at e
  | c :: ds, _, 0, d, ⟨v, r, e1, h, q⟩, e => by
    subst e1
    obtain rfl : c = d := Option.some.inj e
    exact ⟨v, rfl, h⟩
  | c :: ds, _, i + 1, d, ⟨v, r, e1, h, q⟩, e => by
    subst e1
    exact RepsX.get (ds := ds) (i := i) q e
theorem RepsX.snoc {N : Addr → Prop} {H : Hp} : ∀ {ds : List D} {vs : List V} {d : D} {v : V}, RepsX N H ds vs → RepX N H d v → RepsX N H (ds ++ [d]) (vs ++ [v])
  | [], _, d, v, h, r => by
    cases (show _ = [] from h)
    exact ⟨v, [], rfl, r, rfl⟩
  | c :: ds, _, d, v, ⟨u, r, e, h, q⟩, rv => by
    subst e
    exact ⟨u, r ++ [v], rfl, h, RepsX.snoc q rv⟩
def spLoose (_ : PySem.W.Frag) (n : Nat) : Sp := fun vs H Q _ => ∃ (d : D) (v : V) (t : Int), vs = [v, .int t] ∧ Rep H d v ∧ D.dep d < n ∧ ∀ (x : V) (H' : Hp), Same H H' → RepX (fun a => H a = none) H' d x → Q x H'
section
variable {P : Program} {w : World} {K : PySem.W.Frag} {mg : Str → Option Value} {base : Heap}
abbrev s_l_loose : Stmt := topS 51
theorem sc_l_loose : FnScope ["value", "turn", "made", "one"] ["value", "turn"] (defScope s_l_loose) := ⟨rfl, rfl, rfl, by decide +kernel, rfl, by decide +kernel, by decide +kernel⟩
theorem ok_loose {f : Addr} {fd : FuncData} (A : At K mg "_law_loose" s_l_loose ["value", "turn"] f fd) (T : Glo mg) : ∀ n : Nat, FnOk P w K mg base CX0 n f fd ["value", "turn"] (spLoose K n)
  | 0 => ⟨fun vs H Q E ⟨d, v, t, e, _⟩ => by subst e; rfl, fun A outer s H args us vs Q E hr he hb hv ⟨d, v, t, e, _, z, _⟩ => absurd z (Nat.not_lt_zero _)⟩
  | n + 1 => by
    have c_l_loose : C8.Cal P w K mg base n "_law_loose" (spLoose K n) [] := cal_of A (ok_loose A T n)
    refine A.fn.ok sc_l_loose (fun vs H Q E h => ?_) (fun cdv A outer s H vs Q E hr h => ?_)
    · obtain ⟨d, v, t, rfl, _⟩ := h
      rfl
    · obtain ⟨d, v, t, rfl, rv, hd, k⟩ := h
      refine ⟨_, (pss_cons (ps_if (pt_val (pe_callB call_isi (by rfl) T.isi PyProof.Rows.boot_isinstance (pa_cons (pv 0) (pa_cons (pe_bltn (v := .ty "tuple") (by rfl) T.tuple PyProof.Rows.boot_tuple rfl) pa_nil))))
        (pss_cons (ps_setLc (i := 2) (own := [("one", 3)]) (g := gName 3) (tt := tYes) rfl sc_l_loose.nd rfl rfl (sw_true rfl rfl rfl (by decide +kernel)) (pi_tup (pv 0)) (blkOk_by (N := ["value", "turn", "made", "one"]) (sc := defScope s_l_loose) (by decide +kernel)) (fun _ _ _ _ _ => (pg_name (i := 3) sc_l_loose.nd rfl (.inl rfl))) (fun _ _ _ _ _ => pts_nil) (fun _ _ _ _ _ => (C8.pe_c c_l_loose hr (by omega) (by rfl) (pa_cons (pv 3) (pa_cons (pe_op op_add (pv 1) pe_int) pa_nil)))))
          (pss_one (ps_ret (pe_ifExp (pt_cmpR op_eq (pe_op op_mod (pe_callTy call_int1 (by rfl) T.int PyProof.Rows.boot_int (pa_cons (pv 1) pa_nil)) pe_int) pe_int (nomark _)) (pv 2) (pe_callTy call_tuple_of (by rfl) T.tuple PyProof.Rows.boot_tuple (pa_cons (pv 2) pa_nil))))))
        pss_nil)
        (pss_one (ps_ret (pv 0)))), ?_⟩
      refine ⟨v, rfl, v, _, _, _, _, rfl, .ty _, rv.ty, D.kTup d, _, rfl, ?_⟩
      match d, rv, hd, k with
      | .non, rv, hd, k =>
        refine iteF ?_
        cases (show v = V.non from rv)
        exact ⟨_, rfl, k _ H (fun _ _ e => e) rfl⟩
      | .bl x, rv, hd, k =>
        refine iteF ?_
        cases (show v = V.bl x from rv)
        exact ⟨_, rfl, k _ H (fun _ _ e => e) rfl⟩
      | .int x, rv, hd, k =>
        refine iteF ?_
        cases (show v = V.int x from rv)
        exact ⟨_, rfl, k _ H (fun _ _ e => e) rfl⟩
      | .str x, rv, hd, k =>
        refine iteF ?_
        cases (show v = V.str x from rv)
        exact ⟨_, rfl, k _ H (fun _ _ e => e) rfl⟩
      | .tup ds, rv, hd, k =>
        obtain ⟨vp, vs, rfl, hvp, hz, hvs⟩ := rv
        refine iteT ?_
        have hlen := hvs.len
        refine ⟨_, rfl, vp, rfl, ⟨_, .inl hvp⟩, fun dl hD => lc_tup (K := K) (a := vp) (xs := vs) (fun i H1 => Same H H1 ∧ ∃ ws : List V, H1 dl = some (.lst ws) ∧ ws.length = i ∧ RepsX (fun a => H a = none ∧ a ≠ dl) H1 (ds.take i) ws)
          ⟨Same.new hD, [], upd_same, rfl, rfl⟩ (fun i H1 _ p => .inl (Rd.same p.1 hvp)) ?_ ?_⟩
        · rintro i x H1 hx ⟨s1, ws, e1, l1, r1⟩
          have hil : i < vs.length := (List.getElem?_eq_some_iff.mp hx).1
          have hq : ds[i]? = some (ds[i]'(by omega)) := List.getElem?_eq_getElem (by omega)
          obtain ⟨v, hv, hrep⟩ := hvs.get hq
          obtain rfl : v = x := Option.some.inj (hv.symm.trans hx)
          have hdep : D.dep (ds[i]'(by omega)) < n := by
            have := D.dep_mem hq
            simp only [D.dep] at hd
            omega
          refine ⟨rfl, _, rfl, _, rfl, _, _, rfl, rfl, ds[i]'(by omega), v, t + 1, rfl, hrep.keep (Same.tk s1), hdep, fun y H2 s2 r2 => ?_⟩
          have e2 := s2 _ _ e1
          have nD : ∀ {a : Addr}, H1 a = none → a ≠ dl := fun h z => by
            rw [z, e1] at h
            cases h
          have n0 : ∀ {a : Addr}, H1 a = none → H a = none := fun {a} h => by
            cases z : H a with
            | none => rfl
            | some o =>
              rw [s1 _ _ z] at h
              cases h
          refine ⟨ws, e2, by omega, Same.mut (fun b o e => s2 b o (s1 b o e)) hD, ws ++ [y], upd_same, by rw [List.length_append]; simp only [List.length_cons, List.length_nil]; omega, ?_⟩
          rw [List.take_add_one, hq]
          exact RepsX.snoc (RepsX.keep (fun _ m => m) (fun a u m e => by rw [upd_ne m.2]; exact s2 a u e) r1)
            (RepX.keep (fun a m => ⟨n0 m, nD m⟩) (fun a u m e => by rw [upd_ne (nD m)]; exact e) r2)
        · rintro H1 ⟨s1, ws, e1, l1, r1⟩
          rw [hlen, List.take_length] at r1
          have r1 : RepsX (fun a => H a = none) H1 ds ws := r1.keep (fun _ m => m.1) (fun _ _ _ e => e)
          refine ⟨_, rfl, .inl ⟨_, rfl, _, _, rfl, rfl, (by show (0 : Int) < 2; decide), rfl, _, rfl, ite2 (fun _ => ?_) (fun _ => ?_)⟩⟩
          · exact ⟨_, rfl, k _ H1 s1 ⟨dl, ws, rfl, hD, .inr e1, by omega, r1⟩⟩
          · refine ⟨_, rfl, dl, _, rfl, .inl ⟨SqL.of e1, fun l hl => ?_⟩⟩
            have hl0 : H l = none := by
              cases z : H l with
              | none => rfl
              | some o =>
                rw [s1 _ _ z] at hl
                cases hl
            exact k _ _ (Same.mut s1 hl0) ⟨l, ws, rfl, hl0, .inl (.inl upd_same), by omega, r1.keep (fun _ m => m) (fun a u _ e => by rw [upd_ne (ne_of_none e hl)]; exact e)⟩
end
end Kl

namespace Kl
open PySem L2 Kd
/-! a step at a time: the goal behind each stands as it is written -/
theorem st_g {i : Nat} {x : V} {σ : L2.St} {H : Hp} {k : L2.St → Hp → Prop} (h : k (σ.set i (some x)) H) : gName i x σ H k := h
theorem st_seq {t u : TS} {D : Ends} {σ : L2.St} {H : Hp} (h : t { D with nx := u D } σ H) : tSeq t u D σ H := h
theorem st_asg {te : TE} {g : TG} {D : Ends} {σ : L2.St} {H : Hp} (h : te σ H fun x H1 => g x σ H1 D.nx) : tAsg te g D σ H := h
theorem te_tup {t : TA} {σ : L2.St} {H : Hp} {Q : VK} (h : t σ H fun xs H1 => xs.length ≤ sizeLine ∧ ∀ p, H1 p = none → Q (.ref p) (upd H1 p (.tup xs))) : tTup t σ H Q := h
theorem ta_cons {ta : TE} {tr : TA} {σ : L2.St} {H : Hp} {Q : List V → Hp → Prop} (h : ta σ H fun x H1 => tr σ H1 fun xs H2 => Q (x :: xs) H2) : tCons ta tr σ H Q := h
theorem ta_nil {σ : L2.St} {H : Hp} {Q : List V → Hp → Prop} (h : Q [] H) : tNil σ H Q := h
/-- d[k] if k in d else None -/
theorem opt_get {a i : Nat} {σ : L2.St} {H : Hp} {Q : VK} {d : Addr} {k : Str} {o : Option Str} (ha : σ[a]? = some (some (.str k))) (hi : σ[i]? = some (some (.ref d))) (h : DGet H d (.str k) (o.map V.str)) (q : Q (encO o) H) :
    tIf (tB (tDIn (tVar a) (tVar i))) (tDGet (tVar i) (tVar a)) (tC .non) σ H Q := by
  refine ⟨_, ha, _, hi, d, _, rfl, h, _, rfl, ?_⟩
  cases o with
  | none => exact iteF q
  | some c => exact iteT ⟨_, hi, _, ha, d, _, rfl, h, q⟩
theorem encO_inj {a b : Option Str} (h : encO a = encO b) : a = b := by
  cases a with
  | none =>
    cases b with
    | none => rfl
    | some c => cases h
  | some c =>
    cases b with
    | none => cases h
    | some d => cases h; rfl
theorem encO_scal (a b : Option Str) : scal (encO a) (encO b) = true := by
  cases a <;> cases b <;> rfl
theorem te_c {v : V} {σ : L2.St} {H : Hp} {Q : VK} (h : Q v H) : tC v σ H Q := h
theorem te_v {i : Nat} {x : V} {σ : L2.St} {H : Hp} {Q : VK} (e : σ[i]? = some (some x)) (h : Q x H) : tVar i σ H Q := ⟨x, e, h⟩
theorem st_expr {te : TE} {D : Ends} {σ : L2.St} {H : Hp} (h : te σ H fun _ H1 => D.nx σ H1) : tDrop te D σ H := h
end Kl

namespace Ks
open PySem PySem.Spec PyProof.Rows L2
/-- a def called with all its parameters by name -/
structure CalK (P : Program) (w : World) (K : PySem.W.Frag) (mg : Str → Option Value) (base : Heap) (k : Nat) (x : Str) (ks : List Str) (sp : Sp) : Prop where
  ex : ∃ (f : Addr) (fd : FuncData) (ps : List Str), FnOk P w K mg base C8.CX0 k f fd ps sp ∧ mg x = some (.ref f) ∧ PySem.W.keepIn K (.ref f) = true ∧ (∀ (s : Shared) (ws : List Value), K.In s.heap → ws.length = ks.length → BindsTo s fd ⟨[], ks.zip ws⟩ (ps.zip ws))
def tCallW (n : Nat) (sp : Sp) (tk : TA) : TE := fun σ H Q => tk σ H fun zs H2 => zs.length = n ∧ sp zs H2 Q C8.E0
section
variable {X : Cx} {k j : Nat} {x : Str} {ks : List Str} {sp : Sp} {p pos : Pos} {kws : List Keyword} {tk : TA}
theorem pe_k (c : CalK X.prog X.w X.K X.mg X.base k x ks sp) (hr : Room j X.A) (hk : k ≤ j) (hg : Gl X x) (hkw : PK X kws tk)
    (hall : (backToKw pos (keywordEach kws X.env)).all (·.1.isSome) = true := by rfl) (hks : (backToKw pos (keywordEach kws X.env)).filterMap (·.1) = ks := by rfl) (hdb : (x == ("__debug__" : Str)) = false := by decide)
    (hpl : ((backTo pos (starEach [] X.env)).any (·.1) || (backToKw pos (keywordEach kws X.env)).any (·.1.isNone)) = false := by rfl) :
    PE X (.Call (.Name x p) [] kws pos) (tCallW ks.length sp tk) := by
  obtain ⟨f, fd, ps, F, hm, kp, hb⟩ := c.ex
  refine ⟨fun pins s σ H Q I h => ?_⟩
  refine wpAny_Call_Name_kw (ld_glob I hg hm ?_ hdb)
  refine PySem.W.callWith_KW0 (h₀ := X.base) I.ok.mod.kin kp hall ?_ hpl
  refine thn (hkw.run pos pins s σ H _ I h) fun ws s2 ⟨zs, H2, I2, rz, l2, q2⟩ => ⟨I2.kIn, ?_⟩
  rw [hks]
  refine wpAny_call (codeAny_mono (F.run X.A X.stack s2 H2 ⟨[], ks.zip ws⟩ ws zs Q C8.E0 (hr.mono hk) I2.env0 (hb s2 ws I2.kIn (rz.length.symm.trans l2)) rz q2) fun r s' hq => ?_)
  cases r with
  | error e => exact False.elim hq
  | ok fl =>
    cases fl with
    | ret u => exact I2.after hq
    | next => exact False.elim hq
    | brk => exact False.elim hq
    | cont => exact False.elim hq
end
/-- a class made by one keyword -/
structure MakK (P : Program) (w : World) (K : PySem.W.Frag) (mg : Str → Option Value) (base : Heap) (k : Nat) (x : Str) (C : Addr) (ks : List Str) (sp : Sp) : Prop where
  ex : ∃ (f : Addr) (fd : FuncData) (ps : List Str) (g : List Value → List Value → List Value), Mk K C f ∧ FnOk P w K mg base C8.CX0 k f fd ps sp ∧ mg x = some (.ref C) ∧ KBn K fd ps 1 ks g (fun vs zs => vs ++ zs)
theorem pe_mkk {X : Cx} {k j : Nat} {x : Str} {C : Addr} {ks : List Str} {sp : Sp} {p pos : Pos} {kws : List Keyword} {tk : TA} (c : MakK X.prog X.w X.K X.mg X.base k x C ks sp) (hr : Room j X.A) (hk : k + 1 ≤ j) (hg : Gl X x) (hkw : PK X kws tk)
    (hall : (backToKw pos (keywordEach kws X.env)).all (·.1.isSome) = true := by rfl) (hks : (backToKw pos (keywordEach kws X.env)).filterMap (·.1) = ks := by rfl) (hdb : (x == ("__debug__" : Str)) = false := by decide)
    (hpl : ((backTo pos (starEach [] X.env)).any (·.1) || (backToKw pos (keywordEach kws X.env)).any (·.1.isNone)) = false := by rfl) :
    PE X (.Call (.Name x p) [] kws pos) (tMakeK C 0 ks.length sp (fun vs zs => vs ++ zs) C8.E0 tNil tk) := by
  obtain ⟨f, fd, ps, g, M, F, hm, hb⟩ := c.ex
  exact pe_makeK0 M F (hr.mono hk) hg hm hb C8.pass0 hkw hall hks hdb hpl
end Ks

namespace Kl
open PySem L2 Kd
theorem te_orv {ta tb : TE} {σ : L2.St} {H : Hp} {Q : VK} (h : ta σ H fun x H1 => ∃ c, x = .bl c ∧ if c = true then Q (.bl true) H1 else tb σ H1 Q) : tOrV ta tb σ H Q := h
theorem te_andv {ta tb : TE} {σ : L2.St} {H : Hp} {Q : VK} (h : ta σ H fun x H1 => ∃ c, x = .bl c ∧ if c = true then tb σ H1 Q else Q (.bl false) H1) : tAndV ta tb σ H Q := h
end Kl

namespace Kl
open PySem L2 Kd
/-! more steps -/
theorem te_makek {C : Addr} {sp : Sp} {gV : List V → List V → List V} {E : XK} {n m : Nat} {tk : TA} {σ : L2.St} {H : Hp} {Q : VK} (h0 : n = 0) (h : tk σ H fun zs H2 => zs.length = m ∧ ∀ x dx, H2 x = none → H2 dx = none → dx ≠ x → sp (gV [.ref x] zs) (upd (upd H2 dx (.own x)) x (.ins C dx [])) (fun v H3 => v = .non ∧ Q (.ref x) H3) E) : tMakeK C n m sp gV E tNil tk σ H Q := by
  subst h0
  show tk σ H _
  refine cast (congrArg _ ?_) h
  funext zs H2
  exact propext ⟨fun z => ⟨rfl, z⟩, fun z => z.2⟩
theorem te_callw {n : Nat} {sp : Sp} {tk : TA} {σ : L2.St} {H : Hp} {Q : VK} (h : tk σ H fun zs H2 => zs.length = n ∧ sp zs H2 Q C8.E0) : Ks.tCallW n sp tk σ H Q := h
theorem te_sl {r : V → Option Int → Option Int → Hp → VK → Prop} {te : TE} {tl th : TO} {σ : L2.St} {H : Hp} {Q : VK} (h : te σ H fun x H1 => tl σ H1 fun l H2 => th σ H2 fun u H3 => r x l u H3 Q) : tSl r te tl th σ H Q := h
theorem to_part {t : TE} {σ : L2.St} {H : Hp} {Q : Option Int → Hp → Prop} (h : t σ H fun x H1 => ∃ i, x = .int i ∧ Q (some i) H1) : tPart t σ H Q := h
theorem to_no {σ : L2.St} {H : Hp} {Q : Option Int → Hp → Prop} (h : Q none H) : tNoPart σ H Q := h
theorem te_un {r : V → Hp → VK → Prop} {ta : TE} {σ : L2.St} {H : Hp} {Q : VK} (h : ta σ H fun x H1 => r x H1 Q) : tUn r ta σ H Q := h
theorem tt_and {t u : TT} {σ : L2.St} {H : Hp} {Q : Bool → Hp → Prop} (h : t σ H fun c H1 => if c = true then u σ H1 Q else Q false H1) : tAnd t u σ H Q := h
/-- files[i] -/
theorem file_at {K : PySem.W.Frag} {ft : Addr} {fs : Fs} {H : Hp} {Q : VK} {i : Int} {j : Nat} {q : Str × Str} (hf : Rep H (filesD fs) (.ref ft)) (hi : ∀ vs : List V, vs.length = fs.length → ixN vs.length i = some j) (hq : fs[j]? = some q) (k : ∀ t : Addr, Rd H t (.tup [.str q.1, .str q.2]) → Q (.ref t) H) :
    rIxT K (.ref ft) (.int i) H Q := by
  obtain ⟨t, vs, e, h, hz, r⟩ := hf
  cases e
  have hl := r.len
  rw [List.length_map] at hl
  obtain ⟨v, hv, hrep⟩ := r.get (i := j) (d := pairD q) (by rw [List.getElem?_map, hq]; rfl)
  obtain ⟨t, rfl, ht⟩ := pair_of hrep
  refine ⟨ft, vs, i, .ref t, rfl, rfl, .inl h, ?_, k t ht⟩
  unfold atI
  rw [hi vs hl]
  exact hv
theorem pair0 {K : PySem.W.Frag} {t : Addr} {x y : Str} {H : Hp} {Q : VK} (ht : Rd H t (.tup [.str x, .str y])) (k : Q (.str x) H) : rIxT K (.ref t) (.int 0) H Q := ⟨t, _, 0, _, rfl, rfl, .inl ht, rfl, k⟩
theorem pair1 {K : PySem.W.Frag} {t : Addr} {x y : Str} {H : Hp} {Q : VK} (ht : Rd H t (.tup [.str x, .str y])) (k : Q (.str y) H) : rIxT K (.ref t) (.int 1) H Q := ⟨t, _, 1, _, rfl, rfl, .inl ht, rfl, k⟩
theorem ta_strs {xs : List Str} {σ : L2.St} {H : Hp} {Q : List V → Hp → Prop} (h : Q (xs.map V.str) H) : tStrs xs σ H Q := h
theorem te_op {r : R2} {ta tb : TE} {σ : L2.St} {H : Hp} {Q : VK} (h : ta σ H fun x H1 => tb σ H1 fun y H2 => r x y H2 Q) : tOp r ta tb σ H Q := h
theorem tt_or {t u : TT} {σ : L2.St} {H : Hp} {Q : Bool → Hp → Prop} (h : t σ H fun c H1 => if c = true then Q true H1 else u σ H1 Q) : tOr t u σ H Q := h
theorem te_drop {te : TE} {D : Ends} {σ : L2.St} {H : Hp} (h : te σ H fun _ H1 => D.nx σ H1) : tDrop te D σ H := h
theorem rep_two {H : Hp} {nm : Str} {d : Kd.D} {v : V} (h : Rep H (.tup [.str nm, d]) v) : ∃ (t : Addr) (u : V), v = .ref t ∧ Rd H t (.tup [.str nm, u]) ∧ Rep H d u := by
  obtain ⟨t, vs, rfl, ht, _, x, r, rfl, hx, y, r2, rfl, hy, hn⟩ := h
  cases (show r2 = [] from hn)
  cases (show x = V.str nm from hx)
  exact ⟨t, y, rfl, ht, hy⟩
abbrev Cell (H : Hp) (b : Addr) : Prop := ∃ i : Int, 0 ≤ i ∧ H b = some (.lst [.int i])
theorem Rep.go {b : Addr} {H H' : Hp} {d : D} {v : V} (c : Cell H b) (g : Go b H H') (h : Rep H d v) : Rep H' d v := h.keep (g.tk c)
end Kl

namespace Kl
open PySem L2 Kd
abbrev sSo : Stmt := topS 47
theorem scSo : FnScope ["found", "meant", "k"] ["found", "meant"] (defScope sSo) := ⟨rfl, rfl, rfl, by decide +kernel, rfl, by decide +kernel, by decide +kernel⟩
def spSo (n : Nat) : Sp := fun vs H Q _ => ∃ (a b : D) (v u : V), vs = [v, u] ∧ Rep H a v ∧ Rep H b u ∧ D.dep b < n ∧ Q (.bl (D.eqb a b)) H
theorem isi_of {K : PySem.W.Frag} {H : Hp} {d : D} {v : V} (T : String) {b : Bool} (r : Rep H d v) (k : PySem.W.kitOne K (.type d.ty) (.type T) = some b) {Q : VK} (q : Q (.bl b) H) : rIsi K [v, .ty T] H Q :=
  ⟨v, .ty T, .type d.ty, .type T, b, rfl, .ty T, r.ty, k, q⟩
section
variable {P : Program} {w : World} {K : PySem.W.Frag} {mg : Str → Option Value} {base : Heap}
theorem ok_so {f : Addr} {fd : FuncData} (F : At K mg "_law_so" sSo ["found", "meant"] f fd) (T : Glo mg) : ∀ n : Nat, FnOk P w K mg base CX0 n f fd ["found", "meant"] (spSo n)
  | 0 => ⟨fun vs H Q E ⟨a, b, v, u, e, _⟩ => by subst e; rfl, fun A outer s H args us vs Q E hr he hb hv ⟨a, b, v, u, e, _, _, d, _⟩ => absurd d (Nat.not_lt_zero _)⟩
  | n + 1 => by
    have G := ok_so F T n
    refine F.fn.ok scSo (fun vs H Q E h => ?_) (fun cdv A outer s H vs Q E hr h => ?_)
    · obtain ⟨a, b, v, u, rfl, _⟩ := h
      rfl
    · obtain ⟨a, b, v, u, rfl, ra, rb, hd, k⟩ := h
      refine ⟨_, pss_cons (ps_if (pt_cmp (pc_isN (pv 1))) (pss_one (ps_ret (pe_cmp (pc_isN (pv 0))))) pss_nil)
        (pss_cons (ps_if (pt_val (pe_callB call_isi (by rfl) T.isi PyProof.Rows.boot_isinstance (pa_cons (pv 1) (pa_cons (pe_bltn (v := .ty "tuple") (by rfl) T.tuple PyProof.Rows.boot_tuple rfl) pa_nil))))
          (pss_cons (ps_if (PW.pt (pw_or (pt_not (pt_val (pe_callB call_isi (by rfl) T.isi PyProof.Rows.boot_isinstance (pa_cons (pv 0) (pa_cons (pe_bltn (v := .ty "tuple") (by rfl) T.tuple PyProof.Rows.boot_tuple rfl) pa_nil)))))
              (pw_or1 (pt_cmpR op_ne (pe_callB call_len_seq (by rfl) T.len PySem.boot_len (pa_cons (pv 0) pa_nil)) (pe_callB call_len_seq (by rfl) T.len PySem.boot_len (pa_cons (pv 1) pa_nil)) (nomark _))))) (pss_one (ps_ret pe_bl)) pss_nil)
          (pss_cons (ps_for PassesOwn.never rfl (pi_range1 (by rfl) T.range (pa_cons (pe_callB call_len_seq (by rfl) T.len PySem.boot_len (pa_cons (pv 1) pa_nil)) pa_nil)) (pg_name (i := 2) scSo.nd rfl (.inl rfl))
            (pss_one (ps_if (pt_not (pt_val (pe_call G hr (by rfl) F.mf F.fn.kp F.bd .nil pass0 (pa_cons (pe_ix ix_tup (pv 0) (pv 2) (fun _ _ => rfl)) (pa_cons (pe_ix ix_tup (pv 1) (pv 2) (fun _ _ => rfl)) pa_nil))))) (pss_one (ps_ret pe_bl)) pss_nil)))
          (pss_one (ps_ret pe_bl)))) pss_nil)
        (pss_cons (ps_if (PW.pt (pw_or (pt_val (pe_callB call_isi (by rfl) T.isi PyProof.Rows.boot_isinstance (pa_cons (pv 1) (pa_cons (pe_bltn (v := .ty "bool") (by rfl) T.bool (by decide +kernel) rfl) pa_nil))))
            (pw_or1 (pt_val (pe_callB call_isi (by rfl) T.isi PyProof.Rows.boot_isinstance (pa_cons (pv 0) (pa_cons (pe_bltn (v := .ty "bool") (by rfl) T.bool (by decide +kernel) rfl) pa_nil)))))))
          (pss_one (ps_ret (pe_and (pe_callB call_isi (by rfl) T.isi PyProof.Rows.boot_isinstance (pa_cons (pv 1) (pa_cons (pe_bltn (v := .ty "bool") (by rfl) T.bool (by decide +kernel) rfl) pa_nil)))
            (pe_and (pe_callB call_isi (by rfl) T.isi PyProof.Rows.boot_isinstance (pa_cons (pv 0) (pa_cons (pe_bltn (v := .ty "bool") (by rfl) T.bool (by decide +kernel) rfl) pa_nil))) (pe_one (pe_cmpR op_eq (pv 0) (pv 1) (nomark _))))))) pss_nil)
        (pss_cons (ps_if (pt_val (pe_callB call_isi (by rfl) T.isi PyProof.Rows.boot_isinstance (pa_cons (pv 1) (pa_cons (pe_bltn (v := .ty "int") (by rfl) T.int PyProof.Rows.boot_int rfl) pa_nil))))
          (pss_one (ps_ret (pe_and (pe_callB call_isi (by rfl) T.isi PyProof.Rows.boot_isinstance (pa_cons (pv 0) (pa_cons (pe_bltn (v := .ty "int") (by rfl) T.int PyProof.Rows.boot_int rfl) pa_nil))) (pe_one (pe_cmpR op_eq (pv 0) (pv 1) (nomark _)))))) pss_nil)
        (pss_one (ps_ret (pe_and (pe_callB call_isi (by rfl) T.isi PyProof.Rows.boot_isinstance (pa_cons (pv 1) (pa_cons (pe_bltn (v := .ty "str") (by rfl) T.str (by decide +kernel) rfl) pa_nil)))
            (pe_and (pe_callB call_isi (by rfl) T.isi PyProof.Rows.boot_isinstance (pa_cons (pv 0) (pa_cons (pe_bltn (v := .ty "str") (by rfl) T.str (by decide +kernel) rfl) pa_nil))) (pe_one (pe_cmpR op_eq (pv 0) (pv 1) (nomark _)))))))))), ?_⟩
      refine ⟨u, rfl, _, rfl, ?_⟩
      refine ite2 (fun c => ?_) (fun c => ?_)
      · have eu : u = .non := of_decide_eq_true c
        subst eu
        cases b with
        | non =>
          refine ⟨v, rfl, ?_⟩
          cases a with
          | non => cases (show v = V.non from ra); exact k
          | bl x => cases (show v = V.bl x from ra); exact k
          | int x => cases (show v = V.int x from ra); exact k
          | str x => cases (show v = V.str x from ra); exact k
          | tup x =>
            obtain ⟨p, q, e, _⟩ := id ra
            subst e
            exact k
        | bl x => cases (show V.non = V.bl x from rb)
        | int x => cases (show V.non = V.int x from rb)
        | str x => cases (show V.non = V.str x from rb)
        | tup x =>
          obtain ⟨p, q, e, _⟩ := id rb
          cases e
      · refine ⟨u, rfl, u, _, _, _, _, rfl, .ty _, rb.ty, D.kTup b, _, rfl, ?_⟩
        match b, rb, hd, k with
        | .non, rb, hd, k => exact absurd (decide_eq_true (show u = V.non from rb)) c
        | .tup bs, rb, hd, k =>
          obtain ⟨pb, ub, rfl, hb, zb, qb⟩ := id rb
          refine iteT ?_
          refine ⟨v, rfl, v, _, _, _, _, rfl, .ty _, ra.ty, D.kTup a, _, rfl, ?_⟩
          match a, ra, k with
          | .tup as, ra, k =>
            obtain ⟨pa, ua, rfl, ha, za, qa⟩ := id ra
            refine iteF ?_
            refine ⟨_, rfl, pa, ua, rfl, .inr (.inl ha), _, rfl, pb, ub, rfl, .inr (.inl hb), rfl, _, rfl, ?_⟩
            have la := qa.len
            have lb := qb.len
            refine ite2 (fun c2 => ?_) (fun c2 => ?_)
            · have ne : as.length ≠ bs.length := fun z => by
                rw [la, lb, z] at c2
                simp at c2
              have e : D.eqb (.tup as) (.tup bs) = false := by
                cases z : D.eqb (.tup as) (.tup bs) with
                | false => rfl
                | true => exact absurd (D.eqbs_len (by simpa only [D.eqb] using z)) ne
              rw [e] at k
              exact k
            · have eq : as.length = bs.length := by
                have z : ua.length = ub.length := by
                  have : ¬ (!decide (V.int (ua.length : Int) = V.int (ub.length : Int))) = true := c2
                  simp at this
                  omega
                omega
              refine ⟨_, rfl, pb, ub, rfl, .inr (.inl hb), ub.length, rfl, by omega, ?_, ?_⟩
              · rw [sizeLine_eq] at zb
                omega
              · refine for_range (n := ((ub.length : Nat) : Int).toNat) (fun i σ H2 => ∃ kk : Option V, σ = [some (.ref pa), some (.ref pb), kk] ∧ H2 = H ∧ D.eqbs (as.take i) (bs.take i) = true) ⟨none, rfl, rfl, by simp [D.eqbs]⟩ ?_ ?_
                · rintro i σ H2 hi ⟨kk, rfl, rfl, he⟩
                  have hi' : i < ub.length := by simpa using hi
                  have hia : i < as.length := by omega
                  have hib : i < bs.length := by omega
                  have ga := List.getElem?_eq_getElem hia
                  have gb := List.getElem?_eq_getElem hib
                  obtain ⟨x, ex, rx⟩ := qa.get ga
                  obtain ⟨y, ey, ry⟩ := qb.get gb
                  have ez : (0 : Int) + (i : Int) = (i : Int) := Int.zero_add _
                  refine ⟨_, rfl, _, rfl, pa, ua, _, x, rfl, rfl, .inl ha, at_of ez ex, _, rfl, _, rfl, pb, ub, _, y, rfl, rfl, .inl hb, at_of ez ey, ?_⟩
                  refine ⟨_, _, x, y, rfl, rx, ry, ?_, _, rfl, ?_⟩
                  · have := D.dep_mem gb
                    simp only [D.dep] at hd
                    omega
                  · have et := D.eqbs_take ga gb
                    rw [he, Bool.true_and] at et
                    cases z : D.eqb as[i] bs[i] with
                    | true =>
                      rw [z] at et
                      exact ⟨_, rfl, rfl, et⟩
                    | false =>
                      have e : D.eqb (.tup as) (.tup bs) = false := by
                        simp only [D.eqb]
                        exact D.eqbs_cut ga gb z
                      rw [e] at k
                      exact k
                · rintro σ H2 ⟨kk, rfl, rfl, he⟩
                  have e : D.eqb (.tup as) (.tup bs) = true := by
                    simp only [D.eqb]
                    have e1 : ((ub.length : Nat) : Int).toNat = bs.length := by simpa using lb
                    rw [e1, List.take_of_length_le (Nat.le_of_eq eq), List.take_length] at he
                    exact he
                  rw [e] at k
                  exact k
          | .non, ra, k => exact k
          | .bl x, ra, k => exact k
          | .int x, ra, k => exact k
          | .str x, ra, k => exact k
        | .bl y, rb, hd, k =>
          obtain rfl : u = V.bl y := id rb
          refine iteF ?_
          refine ⟨_, rfl, _, _, _, _, _, rfl, .ty _, rb.ty, D.kBl (.bl y), _, rfl, ?_⟩
          refine ⟨_, rfl, _, _, _, _, _, rfl, .ty _, rb.ty, D.kBl (.bl y), _, rfl, iteT ?_⟩
          refine ⟨_, rfl, v, _, _, _, _, rfl, .ty _, ra.ty, D.kBl a, _, rfl, ?_⟩
          match a, ra, k with
          | .bl x, ra, k =>
            obtain rfl : v = V.bl x := id ra
            refine iteT ⟨_, rfl, _, rfl, rfl, ?_⟩
            have e : decide (V.bl x = V.bl y) = D.eqb (.bl x) (.bl y) := by
              simp only [D.eqb, V.bl.injEq]
              cases x <;> cases y <;> rfl
            rw [e]
            exact k
          | .non, ra, k => exact k
          | .int x, ra, k => exact k
          | .str x, ra, k => exact k
          | .tup x, ra, k => exact k
        | .int y, rb, hd, k =>
          obtain rfl : u = V.int y := id rb
          refine iteF ?_
          refine ⟨_, rfl, _, _, _, _, _, rfl, .ty _, rb.ty, D.kBl (.int y), _, rfl, ?_⟩
          refine ⟨_, rfl, v, _, _, _, _, rfl, .ty _, ra.ty, D.kBl a, _, rfl, ?_⟩
          match a, ra, k with
          | .bl x, ra, k => exact ⟨_, rfl, _, _, _, _, _, rfl, .ty _, rb.ty, D.kBl (.int y), _, rfl, k⟩
          | .int x, ra, k =>
            obtain rfl : v = V.int x := id ra
            refine iteF ⟨_, rfl, _, _, _, _, _, rfl, .ty _, rb.ty, D.kInt (.int y), _, rfl, ?_⟩
            refine ⟨_, rfl, _, _, _, _, _, rfl, .ty _, ra.ty, D.kInt (.int x), _, rfl, iteT ⟨_, rfl, _, rfl, rfl, ?_⟩⟩
            have e : decide (V.int x = V.int y) = D.eqb (.int x) (.int y) := by
              simp only [D.eqb, V.int.injEq]
            rw [e]
            exact k
          | .non, ra, k => exact ⟨_, rfl, _, _, _, _, _, rfl, .ty _, rb.ty, D.kInt (.int y), _, rfl, _, rfl, _, _, _, _, _, rfl, .ty _, ra.ty, D.kInt .non, _, rfl, k⟩
          | .str x, ra, k => exact ⟨_, rfl, _, _, _, _, _, rfl, .ty _, rb.ty, D.kInt (.int y), _, rfl, _, rfl, _, _, _, _, _, rfl, .ty _, ra.ty, D.kInt (.str x), _, rfl, k⟩
          | .tup x, ra, k => exact ⟨_, rfl, _, _, _, _, _, rfl, .ty _, rb.ty, D.kInt (.int y), _, rfl, _, rfl, _, _, _, _, _, rfl, .ty _, ra.ty, D.kInt (.tup x), _, rfl, k⟩
        | .str y, rb, hd, k =>
          obtain rfl : u = V.str y := id rb
          refine iteF ?_
          refine ⟨_, rfl, _, _, _, _, _, rfl, .ty _, rb.ty, D.kBl (.str y), _, rfl, ?_⟩
          refine ⟨_, rfl, v, _, _, _, _, rfl, .ty _, ra.ty, D.kBl a, _, rfl, ?_⟩
          match a, ra, k with
          | .bl x, ra, k => exact ⟨_, rfl, _, _, _, _, _, rfl, .ty _, rb.ty, D.kBl (.str y), _, rfl, k⟩
          | .str x, ra, k =>
            obtain rfl : v = V.str x := id ra
            refine iteF ⟨_, rfl, _, _, _, _, _, rfl, .ty _, rb.ty, D.kInt (.str y), _, rfl, ?_⟩
            refine iteF ⟨_, rfl, _, _, _, _, _, rfl, .ty _, rb.ty, D.kStr (.str y), _, rfl, iteT ?_⟩
            refine ⟨_, rfl, _, _, _, _, _, rfl, .ty _, ra.ty, D.kStr (.str x), _, rfl, iteT ⟨_, rfl, _, rfl, rfl, ?_⟩⟩
            have e : decide (V.str x = V.str y) = D.eqb (.str x) (.str y) := by
              simp only [D.eqb, V.str.injEq]
            rw [e]
            exact k
          | .non, ra, k => exact ⟨_, rfl, _, _, _, _, _, rfl, .ty _, rb.ty, D.kInt (.str y), _, rfl, _, rfl, _, _, _, _, _, rfl, .ty _, rb.ty, D.kStr (.str y), _, rfl, _, rfl, _, _, _, _, _, rfl, .ty _, ra.ty, D.kStr .non, _, rfl, k⟩
          | .int x, ra, k => exact ⟨_, rfl, _, _, _, _, _, rfl, .ty _, rb.ty, D.kInt (.str y), _, rfl, _, rfl, _, _, _, _, _, rfl, .ty _, rb.ty, D.kStr (.str y), _, rfl, _, rfl, _, _, _, _, _, rfl, .ty _, ra.ty, D.kStr (.int x), _, rfl, k⟩
          | .tup x, ra, k => exact ⟨_, rfl, _, _, _, _, _, rfl, .ty _, rb.ty, D.kInt (.str y), _, rfl, _, rfl, _, _, _, _, _, rfl, .ty _, rb.ty, D.kStr (.str y), _, rfl, _, rfl, _, _, _, _, _, rfl, .ty _, ra.ty, D.kStr (.tup x), _, rfl, k⟩
end
end Kl

namespace Kl
open PySem L2 Kd
/-! a list or a tuple, walked, read, measured -/
theorem pi_or {X : Cx} {tg l : Expr} {w1 w2 : TI} (a : PI X tg l w1) (b : PI X tg l w2) : PI X tg l (fun σ H R => w1 σ H R ∨ w2 σ H R) := ⟨fun pins s σ H R I h => h.elim (a.run pins s σ H R I) (b.run pins s σ H R I)⟩
theorem ps_never {X : Cx} {st : Stmt} : PS X st (fun _ _ _ => False) := ⟨fun _ _ _ _ _ _ h => h.elim⟩
abbrev SeqAt (H : Hp) (a : Addr) (vs : List V) : Prop := Rd H a (.tup vs) ∨ H a = some (.lst vs)
theorem SeqAt.sq {K : PySem.W.Frag} {H : Hp} {a : Addr} {vs : List V} (h : SeqAt H a vs) : SqL K H a vs ∨ SqT K H a vs := h.elim (fun e => .inr (.inl e)) (fun e => .inl (SqL.of e))
theorem SeqAt.same {H H' : Hp} {a : Addr} {vs : List V} (s : Same H H') (h : SeqAt H a vs) : SeqAt H' a vs := h.imp (Rd.same s) (s _ _)
abbrev iSeq (K : PySem.W.Frag) (tl : TE) : TI := fun σ H R => iTup K tl σ H R ∨ iList K tl σ H R
theorem pi_seq {X : Cx} {tg l : Expr} {tl : TE} (hl : PE X l tl) : PI X tg l (iSeq X.K tl) := pi_or (pi_tup hl) (pi_list hl)
theorem seq_walk {K : PySem.W.Frag} {tl : TE} {σ : L2.St} {H H1 : Hp} {R : It → Hp → Prop} {a : Addr} {vs : List V} (h : SeqAt H1 a vs) (ht : ∀ Q : VK, Q (.ref a) H1 → tl σ H Q) (k : ∀ (J : It) (G : Hp → Prop), Walk J vs.length G (YAt vs) → (∀ H' : Hp, Same H1 H' → G H') → R J H1) : iSeq K tl σ H R := by
  rcases h with h | h
  · exact .inl (ht _ ⟨a, rfl, ⟨_, .inl h⟩, k _ (fun H => SqT K H a vs) walk_tup fun H' s => .inl (Rd.same s h)⟩)
  · exact .inr (ht _ ⟨a, rfl, ⟨_, SqL.of h⟩, k _ (fun H => SqL K H a vs) walk_list fun H' s => SqL.of (s _ _ h)⟩)
/-- xs[i] of a list or a tuple -/
theorem ix_any {K : PySem.W.Frag} {H : Hp} {a : Addr} {vs : List V} {i : Int} {x : V} {Q : VK} (h : SeqAt H a vs) (e : atI vs i = some x) (q : Q x H) : rIx K (.ref a) (.int i) H Q := by
  rcases h with h | h
  · exact .inr (.inl ⟨a, vs, i, x, rfl, rfl, .inl h, e, q⟩)
  · exact .inl ⟨a, vs, i, x, rfl, rfl, SqL.of h, e, q⟩
theorem ty_seq {K : PySem.W.Frag} {H : Hp} {a : Addr} {vs : List V} (h : SeqAt H a vs) : ∃ t : Value, TyX K H (.ref a) t ∧ PySem.W.kitAny K t [.type "list", .type "tuple"] = some true := by
  rcases h with h | h
  · exact ⟨_, h.elim (fun h => .base (.tup h)) (fun ⟨_, h⟩ => .fTuple h), kitAny_cons (b := false) (kit_ty (by decide +kernel)) (fun _ => kitAny_cons (b := true) (kit_ty (by decide +kernel)) (fun z => nomatch z) (fun _ => rfl)) (fun z => nomatch z)⟩
  · exact ⟨_, .base (.lst h), kitAny_cons (b := true) (kit_ty (by decide +kernel)) (fun z => nomatch z) (fun _ => rfl)⟩
theorem st_if {c : TT} {t u : TS} {D : Ends} {σ : L2.St} {H : Hp} (h : c σ H fun b H1 => if b = true then t D σ H1 else u D σ H1) : tIfS c t u D σ H := h
theorem st_next {D : Ends} {σ : L2.St} {H : Hp} (h : D.nx σ H) : tNext D σ H := h
theorem tt_not {t : TT} {σ : L2.St} {H : Hp} {Q : Bool → Hp → Prop} (h : t σ H fun c H1 => Q (!c) H1) : tNot t σ H Q := h
theorem tt_b {t : TE} {σ : L2.St} {H : Hp} {Q : Bool → Hp → Prop} (h : t σ H fun x H1 => ∃ c, x = .bl c ∧ Q c H1) : tB t σ H Q := h
theorem te_cb {r : List V → Hp → VK → Prop} {t : TA} {σ : L2.St} {H : Hp} {Q : VK} (h : t σ H fun vs H1 => r vs H1 Q) : tCB r t σ H Q := h
theorem te_call {sp : Sp} {dvs : List V} {E : XK} {t : TA} {σ : L2.St} {H : Hp} {Q : VK} (h : t σ H fun vs H1 => sp (vs ++ dvs) H1 Q E) : tCall sp dvs E t σ H Q := h
theorem st_ret {te : TE} {D : Ends} {σ : L2.St} {H : Hp} (h : te σ H D.rt) : tRet te D σ H := h
theorem te_lc {wi : TI} {g : TG} {tt : TT} {te : TE} {vs : List Nat} {σ : L2.St} {H : Hp} {Q : VK} (h : wi σ H fun J H1 => ∀ D, H1 D = none → ∃ W : Nat → Nat → Hp → Prop, (∃ m, W 0 m (upd H1 D (.lst []))) ∧ ∀ i m H, W i m H →
    (J.stop i H ∧ Q (.ref D) H) ∨ (J.go i H ∧ ∃ Nx : Hp → Prop, (∀ H', Nx H' → ∃ m', m' < m ∧ W (i + 1) m' H') ∧ ∀ x H', J.yld i H x H' → g x (wipe σ vs) H' fun σ2 H2 => wipe σ2 vs = wipe σ vs ∧ tt σ2 H2 fun b H3 =>
    if b = true then te σ2 H3 fun y H4 => ∃ acc, H4 D = some (.lst acc) ∧ acc.length < sizeLine ∧ Nx (upd H4 D (.lst (acc ++ [y]))) else Nx H3)) : tLc wi g tt te vs σ H Q := h
/-- a list or a tuple: yes -/
def spSeq (_ : PySem.W.Frag) : Sp := fun vs H Q _ => ∃ (a : Addr) (ws : List V), vs = [.ref a] ∧ SeqAt H a ws ∧ ∀ H' : Hp, Same H H' → Q (.bl true) H'
def spRow (_ : PySem.W.Frag) : Sp := fun vs H Q _ => ∃ (a : Addr) (ws : List V) (n : Int), vs = [.ref a, .int n] ∧ SeqAt H a ws ∧ ∀ H' : Hp, Same H H' → Q (.bl (decide (V.int (ws.length : Int) = V.int n))) H'
section
variable {P : Program} {w : World} {K : PySem.W.Frag} {mg : Str → Option Value} {base : Heap}
abbrev s_is_sequence : Stmt := topS 6
theorem sc_is_sequence : FnScope ["value"] ["value"] (defScope s_is_sequence) := ⟨rfl, rfl, rfl, by decide +kernel, rfl, by decide +kernel, by decide +kernel⟩
theorem ok_sequence {f : Addr} {fd : FuncData} (F : Fun K "is_sequence" "is_sequence" s_is_sequence f fd) (T : Glo mg) : FnOk P w K mg base CX0 1 f fd ["value"] (spSeq K) := by
  refine F.ok sc_is_sequence (fun vs H Q E h => ?_) (fun cdv A outer s H vs Q E hr h => ?_)
  · obtain ⟨a, ws, rfl, _⟩ := h
    rfl
  · obtain ⟨a, ws, rfl, hs, k⟩ := h
    refine ⟨_, (pss_one (ps_ret (pe_callB call_isiT (by rfl) T.isi PyProof.Rows.boot_isinstance (pa_cons (pv 0) (pa_cons (pe_tup (pa_cons (pe_bltn (v := .ty "list") (by rfl) T.list PyProof.Rows.boot_list rfl) (pa_cons (pe_bltn (v := .ty "tuple") (by rfl) T.tuple PyProof.Rows.boot_tuple rfl) pa_nil))) pa_nil))))), ?_⟩
    obtain ⟨t, ty, kt⟩ := ty_seq (K := K) hs
    refine ⟨_, rfl, (by show 2 ≤ sizeLine; decide), fun p hp => ?_⟩
    have s1 : Same H (upd H p (.tup [.ty "list", .ty "tuple"])) := Same.new hp
    obtain ⟨t, ty, kt⟩ := ty_seq (K := K) (hs.same s1)
    exact ⟨_, p, _, t, [.type "list", .type "tuple"], true, rfl, upd_same, .cons (.ty "list") (.cons (.ty "tuple") .nil), ty, kt, k _ s1⟩
abbrev s_is_row : Stmt := topS 7
theorem sc_is_row : FnScope ["value", "length"] ["value", "length"] (defScope s_is_row) := ⟨rfl, rfl, rfl, by decide +kernel, rfl, by decide +kernel, by decide +kernel⟩
theorem ok_row {f : Addr} {fd : FuncData} (F : Fun K "is_row" "is_row" s_is_row f fd) (T : Glo mg) (c_is_sequence : C8.Cal P w K mg base 1 "is_sequence" (spSeq K) []) : FnOk P w K mg base CX0 2 f fd ["value", "length"] (spRow K) := by
  refine F.ok sc_is_row (fun vs H Q E h => ?_) (fun cdv A outer s H vs Q E hr h => ?_)
  · obtain ⟨a, ws, n, rfl, _⟩ := h
    rfl
  · obtain ⟨a, ws, n, rfl, hs, k⟩ := h
    refine ⟨_, (pss_one (ps_ret (pe_and (C8.pe_c c_is_sequence hr (by omega) (by rfl) (pa_cons (pv 0) pa_nil)) (pe_one (pe_cmpR op_eq (pe_callB call_len_seq (by rfl) T.len PySem.boot_len (pa_cons (pv 0) pa_nil)) (pv 1) (nomark _)))))), ?_⟩
    refine ⟨_, rfl, a, ws, rfl, hs, fun H1 s1 => ⟨_, rfl, iteT ?_⟩⟩
    exact ⟨_, rfl, a, ws, rfl, (hs.same s1).sq, _, rfl, rfl, k H1 s1⟩
end
end Kl

namespace Kl
open PySem L2 Kd
def wordB (x : Str) : Bool := decide (1 ≤ x.length) && (decide (x.length ≤ 12) && (Txt.isascii x && (Txt.isalnum x && (Txt.isalpha ⟨#[x.cps.getD 0 0]⟩ && decide (Txt.lower x = x)))))
def pathB (p : Str) : Bool := decide ((Txt.split p "/").length ≤ 4) && (Txt.split p "/").all wordB
structure WordOk (x : Str) : Prop where
  lo : 1 ≤ x.length
  hi : x.length ≤ 12
  ascii : Txt.isascii x = true
  alnum : Txt.isalnum x = true
  alpha : Txt.isalpha ⟨#[x.cps.getD 0 0]⟩ = true
  lower : Txt.lower x = x
theorem word_of {x : Str} (h : wordB x = true) : WordOk x := by
  unfold wordB at h
  simp only [Bool.and_eq_true, decide_eq_true_eq] at h
  exact ⟨h.1, h.2.1, h.2.2.1, h.2.2.2.1, h.2.2.2.2.1, h.2.2.2.2.2⟩
theorem allPaths_ok : allPaths.all pathB = true := by decide +kernel
def spWord (_ : PySem.W.Frag) : Sp := fun vs H Q _ => ∃ x : Str, vs = [.str x] ∧ wordB x = true ∧ Q (.bl true) H
def spPath (_ : PySem.W.Frag) : Sp := fun vs H Q _ => ∃ x : Str, vs = [.str x] ∧ pathB x = true ∧ x.length ≤ 1000 ∧ ∀ H' : Hp, Same H H' → Q (.bl true) H'
theorem isi_str {K : PySem.W.Frag} {H : Hp} {x : Str} {Q : VK} (q : Q (.bl true) H) : rIsi K [.str x, .ty "str"] H Q := ⟨.str x, .ty "str", .type "str", .type "str", true, rfl, .ty "str", .base (.str _), kit_ty (by decide +kernel), q⟩
section
variable {P : Program} {w : World} {K : PySem.W.Frag} {mg : Str → Option Value} {base : Heap}
abbrev s_is_word : Stmt := topS 9
theorem sc_is_word : FnScope ["value"] ["value"] (defScope s_is_word) := ⟨rfl, rfl, rfl, by decide +kernel, rfl, by decide +kernel, by decide +kernel⟩
theorem ok_word {f : Addr} {fd : FuncData} (F : Fun K "is_word" "is_word" s_is_word f fd) (T : Glo mg) {t12 : Tok} (m_MOST_WORD_SIGNS : mg "MOST_WORD_SIGNS" = some (.int 12 t12)) : FnOk P w K mg base CX0 1 f fd ["value"] (spWord K) := by
  refine F.ok sc_is_word (fun vs H Q E h => ?_) (fun cdv A outer s H vs Q E hr h => ?_)
  · obtain ⟨x, rfl, _⟩ := h
    rfl
  · obtain ⟨x, rfl, hx, k⟩ := h
    have W := word_of hx
    refine ⟨_, (C8.pss_cut (ps_if (PW.pt (pw_or (pt_not (pt_val (pe_callB call_isi (by rfl) T.isi PyProof.Rows.boot_isinstance (pa_cons (pv 0) (pa_cons (pe_bltn (v := .ty "str") (by rfl) T.str (by decide +kernel) rfl) pa_nil))))) (pw_or1 (pt_not (pt_chain op_le op_le pe_int (pe_callB call_len_str (by rfl) T.len PySem.boot_len (pa_cons (pv 0) pa_nil)) (pe_glob (v := .int 12) (by rfl) m_MOST_WORD_SIGNS ⟨_, rfl⟩))))))
      (pss_one ps_never)
      pss_nil)
      (C8.pss_cut (ps_if (PW.pt (pw_or (pt_not (pt_val (pe_m0 PySem.F.slot_str_isascii PySem.F.type_str_isascii mt_isascii (pv 0)))) (pw_or (pt_not (pt_val (pe_m0 PySem.F.slot_str_isalnum PySem.F.type_str_isalnum mt_isalnum (pv 0)))) (pw_or1 (pt_not (pt_val (pe_m0 PySem.F.slot_str_isalpha PySem.F.type_str_isalpha mt_isalpha (pe_ix ix_str (pv 0) pe_int (fun _ _ => rfl)))))))))
      (pss_one ps_never)
      pss_nil)
      (pss_one (ps_ret (pe_cmpR op_eq (pv 0) (pe_lower (pv 0)) (nomark _)))))), ?_⟩
    have h1 := W.lo
    have h2 := W.hi
    refine ⟨fun σ' H' => σ' = [some (.str x)] ∧ H' = H, ?_, ?_⟩
    · refine ⟨_, rfl, .str x, .ty "str", .type "str", .type "str", true, rfl, .ty "str", .base (.str _), kit_ty (by decide +kernel), _, rfl, iteF ?_⟩
      refine ⟨_, rfl, _, rfl, small_of (by omega), _, _, rfl, rfl, _, rfl, ite2 (fun _ => ?_) (fun z => absurd (decide_eq_true (show (1 : Int) ≤ (x.length : Int) by omega)) z)⟩
      refine ⟨_, _, rfl, rfl, _, rfl, ite2 (fun z => ?_) (fun _ => ⟨rfl, rfl⟩)⟩
      rw [decide_eq_true (show (x.length : Int) ≤ 12 by omega)] at z
      cases z
    rintro σ' H' ⟨rfl, rfl⟩
    refine ⟨fun σ' H'' => σ' = [some (.str x)] ∧ H'' = H', ?_, ?_⟩
    · have hc : atI x.cps.toList 0 = some (x.cps.getD 0 0) := by
        have hp : 0 < x.cps.size := h1
        refine atI_nat (j := 0) ?_
        rw [Array.getElem?_toList, Array.getD_eq_getD_getElem?, Array.getElem?_eq_getElem hp]
        rfl
      refine ⟨_, rfl, ⟨_, rfl⟩, _, rfl, rfl, trivial, _, rfl, ?_⟩
      rw [W.ascii]
      refine iteF ⟨_, rfl, ⟨_, rfl⟩, _, rfl, rfl, trivial, _, rfl, ?_⟩
      rw [W.alnum]
      refine iteF ⟨_, rfl, x, 0, _, rfl, rfl, small_of (by omega), hc, ⟨_, rfl⟩, _, rfl, rfl, trivial, _, rfl, ?_⟩
      rw [W.alpha]
      exact iteF ⟨rfl, rfl⟩
    rintro σ' H'' ⟨rfl, rfl⟩
    refine ⟨_, rfl, _, rfl, ⟨_, rfl⟩, _, rfl, rfl, Nat.le_trans h2 (by decide), rfl, ?_⟩
    rw [W.lower, decide_eq_true rfl]
    exact k
abbrev s_is_path : Stmt := topS 10
theorem sc_is_path : FnScope ["value", "words", "word"] ["value"] (defScope s_is_path) := ⟨rfl, rfl, rfl, by decide +kernel, rfl, by decide +kernel, by decide +kernel⟩
theorem ok_path {f : Addr} {fd : FuncData} (F : Fun K "is_path" "is_path" s_is_path f fd) (T : Glo mg) {t4 : Tok} (m_MOST_PATH_WORDS : mg "MOST_PATH_WORDS" = some (.int 4 t4)) (c_is_word : C8.Cal P w K mg base 1 "is_word" (spWord K) []) : FnOk P w K mg base CX0 2 f fd ["value"] (spPath K) := by
  refine F.ok sc_is_path (fun vs H Q E h => ?_) (fun cdv A outer s H vs Q E hr h => ?_)
  · obtain ⟨x, rfl, _⟩ := h
    rfl
  · obtain ⟨x, rfl, hx, hz, k⟩ := h
    unfold pathB at hx
    rw [Bool.and_eq_true] at hx
    have h4 := of_decide_eq_true hx.1
    have hw := List.all_eq_true.mp hx.2
    refine ⟨_, (pss_cons (ps_if (pt_not (pt_val (pe_callB call_isi (by rfl) T.isi PyProof.Rows.boot_isinstance (pa_cons (pv 0) (pa_cons (pe_bltn (v := .ty "str") (by rfl) T.str (by decide +kernel) rfl) pa_nil)))))
      (pss_one ps_never)
      pss_nil)
      (pss_cons (ps_set (i := 1) sc_is_path.nd rfl (.inl rfl) (pe_split (pv 0) pe_str))
      (pss_one (ps_ret (pe_and (pe_cmpR op_le (pe_callB call_len_seq (by rfl) T.len PySem.boot_len (pa_cons (pv 1) pa_nil)) (pe_glob (v := .int 4) (by rfl) m_MOST_PATH_WORDS ⟨_, rfl⟩) (nomark _)) (pe_one (pe_callB (cr_all rfl) (by rfl) T.all (by decide +kernel) (pa_cons (pe_lc (own := [("word", 2)]) (g := gName 2) (tt := tYes) rfl sc_is_path.nd (pi_list (pv 1)) (blkOk_by (N := ["value", "words", "word"]) (sc := defScope s_is_path) (by decide +kernel)) (fun _ _ _ _ _ => (pg_name (i := 2) sc_is_path.nd rfl (.inl rfl))) (fun _ _ _ _ _ => pts_nil) (fun _ _ _ _ _ => (C8.pe_c c_is_word hr (by omega) (by rfl) (pa_cons (pv 2) pa_nil)))) pa_nil)))))))), ?_⟩
    refine ⟨_, rfl, .str x, .ty "str", .type "str", .type "str", true, rfl, .ty "str", .base (.str _), kit_ty (by decide +kernel), _, rfl, iteF ?_⟩
    refine ⟨_, rfl, ⟨_, rfl⟩, x, "/", rfl, rfl, by decide +kernel, small_of (by omega), fun p hp => ?_⟩
    have s1 : Same H (upd H p (.lst ((Txt.split x "/").map V.str))) := Same.new hp
    have p1 : upd H p (.lst ((Txt.split x "/").map V.str)) p = some (.lst ((Txt.split x "/").map V.str)) := upd_same
    generalize upd H p (.lst ((Txt.split x "/").map V.str)) = H1 at s1 p1 ⊢
    refine ⟨_, rfl, p, _, rfl, .inl (SqL.of p1), _, _, rfl, rfl, _, rfl, ite2 (fun _ => ?_) (fun z => absurd (decide_eq_true (show (((Txt.split x "/").map V.str).length : Int) ≤ 4 by rw [List.length_map]; omega)) z)⟩
    refine ⟨_, rfl, p, rfl, ⟨_, SqL.of p1⟩, fun D hD => lc_list (K := K) (xs := (Txt.split x "/").map V.str) (fun i H2 => Same H1 H2 ∧ H2 D = some (.lst ((List.replicate i true).map V.bl))) ⟨Same.new hD, upd_same⟩ (fun i H2 _ q => SqL.of (q.1 _ _ p1)) ?_ ?_⟩
    · rintro i y H2 hy ⟨s2, e2⟩
      rw [List.getElem?_map] at hy
      obtain ⟨w0, hw0, rfl⟩ := Option.map_eq_some_iff.mp hy
      have hil : i < (Txt.split x "/").length := (List.getElem?_eq_some_iff.mp hw0).1
      refine ⟨rfl, _, rfl, w0, rfl, hw w0 (List.mem_of_getElem? hw0), _, e2, ?_, Same.mut s2 hD, ?_⟩
      · rw [List.length_map, List.length_replicate]
        exact small_lt (by omega)
      · rw [upd_same, List.replicate_succ', List.map_append]
        rfl
    · rintro H2 ⟨s2, e2⟩
      refine ⟨D, _, rfl, SqL.of e2, ?_⟩
      have : (List.replicate ((Txt.split x "/").map V.str).length true).all id = true := List.all_eq_true.mpr fun b hb => (List.mem_replicate.mp hb).2
      rw [this]
      exact k H2 fun b o e => s2 b o (s1 b o e)
end
end Kl

namespace Kl
open PySem L2 Kd
/-! what may stand in a file -/
def okx (c : Nat) : Bool := 32 ≤ c && (c ≤ 126 && c != 37)
structure Shown (x : Str) : Prop where
  len : x.length ≤ 1000
  all : ∀ c ∈ x.cps.toList, okx c = true
structure Cont (x : Str) : Prop where
  len : x.length ≤ 1000
  all : ∀ c ∈ x.cps.toList, c = 10 ∨ okx c = true
theorem okx_of {c : Nat} (h : okx c = true) : 32 ≤ c ∧ c ≤ 126 ∧ c ≠ 37 := by
  unfold okx at h
  simp only [Bool.and_eq_true, decide_eq_true_eq, bne_iff_ne] at h
  exact ⟨h.1, h.2.1, h.2.2⟩
theorem Ct.cont {x : Str} (h : Ct 1000 x) : Cont x := ⟨h.len, fun c hc => by
  have := h.all c hc
  unfold ctc okc at this
  rw [Bool.or_eq_true] at this
  rcases this with e | e
  · exact .inl (eq_of_beq e)
  · refine .inr ?_
    unfold okx
    simp only [Bool.or_eq_true, Bool.and_eq_true, decide_eq_true_eq, bne_iff_ne, beq_iff_eq] at e ⊢
    omega⟩
theorem Shown.ascii {x : Str} (h : Shown x) : Txt.isascii x = true := by
  unfold Txt.isascii
  rw [← Array.all_toList, List.all_eq_true]
  intro c hc
  have := okx_of (h.all c hc)
  exact decide_eq_true (by omega)
theorem print_fact : ∀ c : Nat, 32 ≤ c → c ≤ 126 → Unicode.isPrintable c = true := by
  intro c h1 h2
  have : ∀ c : Fin 127, 32 ≤ c.val → Unicode.isPrintable c.val = true := by decide +kernel
  exact this ⟨c, by omega⟩ h1
theorem Shown.print {x : Str} (h : Shown x) : Txt.isprintable x = true := by
  unfold Txt.isprintable
  rw [← Array.all_toList, List.all_eq_true]
  intro c hc
  have := okx_of (h.all c hc)
  exact print_fact c this.1 this.2.1
theorem Cont.strike {x : Str} (h : Cont x) : Shown (Txt.replace x "\n" "") := by
  have e : (Txt.replace x "\n" "").cps.toList = x.cps.toList.filter (· != 10) := PyProof.Rows.replace_strikes x 10
  refine ⟨?_, fun c hc => ?_⟩
  · rw [← len_tl, e]
    exact Nat.le_trans (List.length_filter_le _ _) (by rw [len_tl]; exact h.len)
  · rw [e, List.mem_filter] at hc
    rcases h.all c hc.1 with e | e
    · rw [e] at hc
      exact absurd hc.2 (by decide)
    · exact e
/-- a def whose body wants a token -/
theorem Fun.okT {P : Program} {w : World} {K : PySem.W.Frag} {mg : Str → Option Value} {base : Heap} {x qual : Str} {st : Stmt} {f : Addr} {fd : FuncData} {N ps : List Str} {k : Nat} {sp : Sp} (F : Fun K x qual st f fd) (S : FnScope N ps (defScope st)) (hnc : ∀ y ∈ (defScope st).names, y.2 ≠ .cell) (hps : 1 ≤ ps.length) (len : ∀ vs H Q E, sp vs H Q E → vs.length = ps.length)
    (hbody : ∀ (cdv : Value) (A : Around) (outer : List Env) (s : Shared) (H : Hp) (vs : List V) (Q : VK) (E : XK), Room k (A.deeper (PyProof.Rows.envOfC qual (defScope st) s.heap.objs.size f cdv)) → sp vs H Q E →
      ∃ t, PSsT (cxOf CX0 P w K mg base N qual (defScope st) f cdv A outer s H E) (defBody st) t ∧ t { nx := fun _ H' => Q .non H', rt := Q } (start N vs) H) : FnOk P w K mg base CX0 (k + 1) f fd ps sp := by
  obtain ⟨oc, od, kV, doc, pm, an, cdv, ct, osl, rfl, lk, hcd⟩ := F.ex
  exact fn_ofT lk hcd S hnc hps len fun A outer s H vs Q E hr hsp => hbody cdv A outer s H vs Q E hr hsp
/-- an own def called, its arguments want a token -/
theorem pet_c {X : Cx} {k j : Nat} {x : Str} {sp : Sp} {dvs : List V} {p pos : Pos} {e : Expr} {es : List Expr} {t : TA} (c : C8.Cal X.prog X.w X.K X.mg X.base k x sp dvs) (hr : Room j X.A) (hk : k ≤ j) (hg : Gl X x) (ha : PAT X (e :: es) t)
    (hdb : (x == ("__debug__" : Str)) = false := by decide) (he : starEach (e :: es) X.env = (false, eval e X.env) :: starEach es X.env := by rfl) (hpl : (backTo pos (starEach es X.env)).any (·.1) = false := by rfl) :
    PET X (.Call (.Name x p) (e :: es) [] pos) (tCall sp dvs E0 t) := by
  obtain ⟨f, fd, ps, ds, F, hm, kp, b, d⟩ := c.ex
  intro pins s σ H Q h0 I h
  refine wpAny_Call_Name_kw (ld_glob I hg hm ?_ hdb)
  refine PySem.W.callWith_K (h₀ := X.base) I.ok.mod.kin kp (thn (ha pos pins s σ H _ h0 I h) fun us s1 ⟨vs, H1, I1, r, q⟩ => ⟨I1.kIn, ?_⟩) he hpl
  exact run_fn F (hr.mono hk) b d pass0 I1 r q
open PySem.Spec PyProof.Rows in
/-- a and b, where b wants a token -/
theorem pet_and {X : Cx} {a b : Expr} {rest : List Expr} {ta tb : TE} {pos : Pos} (ha : PE X a ta) (hb : PET X (.BoolOp .And (b :: rest) pos) tb) : PET X (.BoolOp .And (a :: b :: rest) pos) (tAndV ta tb) := by
  intro pins s σ H Q h0 I h
  refine BoolOp_and (wpAny_mono (PySem.wpAny_toks (ha.run pins s σ H _ I h)) (fun v s1 q => ?_) fun _ _ z => z.2)
  obtain ⟨hk, x, H1, I1, r1, c, rfl, q1⟩ := q
  cases r1
  refine wpAny_truthy_bool ?_
  cases c with
  | true => exact hb pins s1 σ H1 Q (Nat.le_trans h0 hk) I1 q1
  | false => exact ⟨.bl false, H1, I1, rfl, q1⟩
open PySem.Spec PyProof.Rows in
theorem pet_one {X : Cx} {op : BoolOp} {a : Expr} {t : TE} {pos : Pos} (h : PET X a t) : PET X (.BoolOp op [a] pos) t := fun pins s σ H Q h0 I hw => BoolOp_one (h pins s σ H Q h0 I hw)
def spShown (_ : PySem.W.Frag) : Sp := fun vs H Q _ => ∃ x : Str, vs = [.str x] ∧ Shown x ∧ ∀ H' : Hp, Same H H' → Q (.bl true) H'
def spCont (_ : PySem.W.Frag) : Sp := fun vs H Q _ => ∃ x : Str, vs = [.str x] ∧ Cont x ∧ ∀ H' : Hp, Same H H' → Q (.bl true) H'
section
variable {P : Program} {w : World} {K : PySem.W.Frag} {mg : Str → Option Value} {base : Heap}
abbrev s_is_shown : Stmt := topS 8
theorem sc_is_shown : FnScope ["value", "sign"] ["value"] (defScope s_is_shown) := ⟨rfl, rfl, rfl, by decide +kernel, rfl, by decide +kernel, by decide +kernel⟩
theorem ok_shown {f : Addr} {fd : FuncData} (F : Fun K "is_shown" "is_shown" s_is_shown f fd) (T : Glo mg) {t37 : Tok} (m_PERCENT_NUMBER : mg "PERCENT_NUMBER" = some (.int 37 t37)) : FnOk P w K mg base CX0 1 f fd ["value"] (spShown K) := by
  refine F.ok sc_is_shown (fun vs H Q E h => ?_) (fun cdv A outer s H vs Q E hr h => ?_)
  · obtain ⟨x, rfl, _⟩ := h
    rfl
  · obtain ⟨x, rfl, hx, k⟩ := h
    have hl := hx.len
    refine ⟨_, (C8.pss_cut (ps_if (PW.pt (pw_or (pt_not (pt_val (pe_callB call_isi (by rfl) T.isi PyProof.Rows.boot_isinstance (pa_cons (pv 0) (pa_cons (pe_bltn (v := .ty "str") (by rfl) T.str (by decide +kernel) rfl) pa_nil))))) (pw_or (pt_not (pt_val (pe_m0 PySem.F.slot_str_isascii PySem.F.type_str_isascii mt_isascii (pv 0)))) (pw_or1 (pt_not (pt_val (pe_m0 PySem.F.slot_str_isprintable PySem.F.type_str_isprintable mt_isprintable (pv 0))))))))
      (pss_one ps_never)
      pss_nil)
      (pss_one (ps_ret (pe_cmpR op_notIn_seq (pe_glob (v := .int 37) (by rfl) m_PERCENT_NUMBER ⟨_, rfl⟩) (pe_lc (own := [("sign", 1)]) (g := gName 1) (tt := tYes) rfl sc_is_shown.nd (pi_str (pv 0)) (blkOk_by (N := ["value", "sign"]) (sc := defScope s_is_shown) (by decide +kernel)) (fun _ _ _ _ _ => (pg_name (i := 1) sc_is_shown.nd rfl (.inl rfl))) (fun _ _ _ _ _ => pts_nil) (fun _ _ _ _ _ => (pe_callB call_ord (by rfl) T.ord (by decide +kernel) (pa_cons (pv 1) pa_nil)))) (by rfl))))), ?_⟩
    refine ⟨fun σ' H' => σ' = [some (.str x), none] ∧ H' = H, ?_, ?_⟩
    · refine ⟨_, rfl, .str x, .ty "str", .type "str", .type "str", true, rfl, .ty "str", .base (.str _), kit_ty (by decide +kernel), _, rfl, iteF ?_⟩
      refine ⟨_, rfl, ⟨_, rfl⟩, _, rfl, rfl, trivial, _, rfl, ?_⟩
      rw [hx.ascii]
      refine iteF ⟨_, rfl, ⟨_, rfl⟩, _, rfl, rfl, trivial, _, rfl, ?_⟩
      rw [hx.print]
      exact iteF ⟨rfl, rfl⟩
    rintro σ' H' ⟨rfl, rfl⟩
    refine ⟨_, rfl, x, rfl, fun D hD => lc_it walk_str (fun i H2 => Same H' H2 ∧ H2 D = some (.lst (((x.cps.toList.take i).map fun c : Nat => V.int ((c : Nat) : Int))))) ⟨Same.new hD, upd_same⟩ (fun _ _ _ _ => trivial) ?_ ?_⟩
    · rintro i y H2 H3 hi ⟨s2, e2⟩ ⟨rfl, c, hc, rfl⟩
      have hc' : x.cps.toList[i]? = some c := by rw [Array.getElem?_toList]; exact hc
      refine ⟨rfl, _, rfl, _, rfl, rfl, _, e2, ?_, Same.mut s2 hD, ?_⟩
      · rw [List.length_map, List.length_take]
        exact small_lt (by have : x.cps.size = x.length := rfl; omega)
      · rw [upd_same, List.take_add_one, hc', List.map_append]
        rfl
    · rintro H2 ⟨s2, e2⟩
      have e3 : x.cps.toList.take x.cps.size = x.cps.toList := List.take_of_length_le (by rw [Array.length_toList]; exact Nat.le_refl _)
      rw [e3] at e2
      refine ⟨D, _, rfl, .inl (SqL.of e2), rfl, ?_, ?_⟩
      · rw [List.all_eq_true]
        intro v hv
        obtain ⟨c, _, rfl⟩ := List.mem_map.mp hv
        rfl
      · have : inV (.int 37) (x.cps.toList.map fun c : Nat => V.int ((c : Nat) : Int)) = false := by
          unfold inV
          rw [List.any_eq_false]
          intro v hv
          obtain ⟨c, hc, rfl⟩ := List.mem_map.mp hv
          have := okx_of (hx.all c hc)
          intro z
          have z' : ((c : Nat) : Int) = 37 := by simpa [eqV] using z
          omega
        rw [this]
        exact k H2 s2
/-- a text of at most so many signs: yes -/
def spSigns (_ : PySem.W.Frag) : Sp := fun vs H Q _ => ∃ (x : Str) (n : Int), vs = [.str x, .int n] ∧ Cont x ∧ (x.length : Int) ≤ n ∧ ∀ H' : Hp, Same H H' → Q (.bl true) H'
abbrev s_is_signs : Stmt := topS 11
theorem sc_is_signs : FnScope ["value", "most"] ["value", "most"] (defScope s_is_signs) := ⟨rfl, rfl, rfl, by decide +kernel, rfl, by decide +kernel, by decide +kernel⟩
theorem ok_signs {f : Addr} {fd : FuncData} (F : Fun K "is_signs" "is_signs" s_is_signs f fd) (T : Glo mg) (c_is_shown : C8.Cal P w K mg base 1 "is_shown" (spShown K) []) : FnOk P w K mg base CX0 2 f fd ["value", "most"] (spSigns K) := by
  refine Fun.okT F sc_is_signs (by decide +kernel) (by decide) (fun vs H Q E h => ?_) (fun cdv A outer s H vs Q E hr h => ?_)
  · obtain ⟨x, n, rfl, _⟩ := h
    rfl
  · obtain ⟨x, n, rfl, hx, hn, k⟩ := h
    have hl := hx.len
    refine ⟨_, CwR.psst_one (CwR.pst_ret (pet_and (pe_callB call_isi (by rfl) T.isi PyProof.Rows.boot_isinstance (pa_cons (pv 0) (pa_cons (pe_bltn (v := .ty "str") (by rfl) T.str (by decide +kernel) rfl) pa_nil)))
      (pet_and (pe_cmpR op_le (pe_callB call_len_str (by rfl) T.len PySem.boot_len (pa_cons (pv 0) pa_nil)) (pv 1) (nomark _))
      (pet_one (pet_c c_is_shown hr (by omega) (by rfl) (pat_cons (CwR.pet_replC (pv 0)) pat_nil)))))), ?_⟩
    refine ⟨_, rfl, .str x, .ty "str", .type "str", .type "str", true, rfl, .ty "str", .base (.str _), kit_ty (by decide +kernel), _, rfl, iteT ?_⟩
    refine ⟨_, rfl, _, rfl, small_of (by omega), _, rfl, _, _, rfl, rfl, _, rfl, ?_⟩
    rw [decide_eq_true hn]
    refine iteT ?_
    have e0 : ("" : Str).length = 0 := by decide +kernel
    exact ⟨_, rfl, x, rfl, by rw [e0]; omega, _, rfl, hx.strike, k⟩
abbrev s_is_content : Stmt := topS 12
theorem sc_is_content : FnScope ["value"] ["value"] (defScope s_is_content) := ⟨rfl, rfl, rfl, by decide +kernel, rfl, by decide +kernel, by decide +kernel⟩
theorem ok_cont {f : Addr} {fd : FuncData} (F : Fun K "is_content" "is_content" s_is_content f fd) {t1000 : Tok} (m_MOST_CONTENT_SIGNS : mg "MOST_CONTENT_SIGNS" = some (.int 1000 t1000)) (c_is_signs : C8.Cal P w K mg base 2 "is_signs" (spSigns K) []) : FnOk P w K mg base CX0 3 f fd ["value"] (spCont K) := by
  refine F.ok sc_is_content (fun vs H Q E h => ?_) (fun cdv A outer s H vs Q E hr h => ?_)
  · obtain ⟨x, rfl, _⟩ := h
    rfl
  · obtain ⟨x, rfl, hx, k⟩ := h
    have hl := hx.len
    refine ⟨_, (pss_one (ps_ret (C8.pe_c c_is_signs hr (by omega) (by rfl) (pa_cons (pv 0) (pa_cons (pe_glob (v := .int 1000) (by rfl) m_MOST_CONTENT_SIGNS ⟨_, rfl⟩) pa_nil))))), ?_⟩
    exact ⟨_, rfl, x, 1000, rfl, hx, by omega, k⟩
end
end Kl

namespace Kl
open PySem L2 Kd
def spAsc (_ : PySem.W.Frag) : Sp := fun vs H Q _ => ∃ (p : Addr) (ks : List Str), vs = [.ref p] ∧ Strs H p ks ∧ Asc ks ∧ ks.length ≤ 1000 ∧ ∀ H' : Hp, Same H H' → Q (.bl true) H'
section
variable {P : Program} {w : World} {K : PySem.W.Frag} {mg : Str → Option Value} {base : Heap}
abbrev s_is_ascending : Stmt := topS 13
theorem sc_is_ascending : FnScope ["keys", "key", "later"] ["keys"] (defScope s_is_ascending) := ⟨rfl, rfl, rfl, by decide +kernel, rfl, by decide +kernel, by decide +kernel⟩
theorem ok_asc {f : Addr} {fd : FuncData} (F : Fun K "is_ascending" "is_ascending" s_is_ascending f fd) (T : Glo mg) : FnOk P w K mg base CX0 1 f fd ["keys"] (spAsc K) := by
  refine F.ok sc_is_ascending (fun vs H Q E h => ?_) (fun cdv A outer s H vs Q E hr h => ?_)
  · obtain ⟨p, ks, rfl, _⟩ := h
    rfl
  · obtain ⟨p, ks, rfl, hp, asc, hl, k⟩ := h
    refine ⟨_, (pss_one (ps_ret (pe_callB (cr_all rfl) (by rfl) T.all (by decide +kernel) (pa_cons (pe_lc (own := [("key", 1), ("later", 2)]) (g := gTup K 2 (gCons (gName 1) (gCons (gName 2) gNil))) (tt := tYes) rfl sc_is_ascending.nd (pi_zip (by rfl) T.zip (pa_cons (pv 0) (pa_cons (pe_slice sl_list (pv 0) (po_some pe_int) po_none) pa_nil))) (blkOk_by (N := ["keys", "key", "later"]) (sc := defScope s_is_ascending) (by decide +kernel)) (fun _ _ _ _ _ => (pg_tup rfl (pgs_cons (pg_name (i := 1) sc_is_ascending.nd rfl (.inl rfl)) (pgs_cons (pg_name (i := 2) sc_is_ascending.nd rfl (.inl rfl)) pgs_nil)))) (fun _ _ _ _ _ => pts_nil) (fun _ _ _ _ _ => (pe_cmpR op_lt_str (pv 1) (pv 2) (nomark _)))) pa_nil)))), ?_⟩
    refine ⟨_, rfl, _, rfl, _, rfl, p, _, rfl, SqL.of hp, fun q hq => ?_⟩
    rw [show ((1 : Int)) = ((1 : Nat) : Int) from rfl, cut_drop]
    have s1 : Same H (upd H q (.lst ((ks.drop 1).map V.str))) := Same.new hq
    have q1 : upd H q (.lst ((ks.drop 1).map V.str)) q = some (.lst ((ks.drop 1).map V.str)) := upd_same
    have p1 := s1 _ _ hp
    generalize upd H q (.lst ((ks.drop 1).map V.str)) = H1 at s1 q1 p1 ⊢
    refine ⟨p, q, _, _, rfl, SqL.of p1, SqL.of q1, fun D hD => lc_it (walk_zip (xs := ks.map V.str) (ys := (ks.drop 1).map V.str) (n := ks.length - 1) (by rw [List.length_map, List.length_map, List.length_drop]; omega)) (fun i H2 => Same H1 H2 ∧ H2 D = some (.lst ((List.replicate i true).map V.bl))) ⟨Same.new hD, upd_same⟩ (fun i H2 _ z => ⟨SqL.of (z.1 _ _ p1), SqL.of (z.1 _ _ q1)⟩) ?_ ?_⟩
    · rintro i v H2 H3 hi ⟨s2, e2⟩ ⟨t, x, y, rfl, ht, rfl, hx, hy⟩
      replace hx : (ks.map V.str)[i]? = some x := hx
      replace hy : ((ks.drop 1).map V.str)[i]? = some y := hy
      rw [List.getElem?_map] at hx hy
      obtain ⟨k1, hk1, rfl⟩ := Option.map_eq_some_iff.mp hx
      obtain ⟨k2, hk2, rfl⟩ := Option.map_eq_some_iff.mp hy
      rw [List.getElem?_drop] at hk2
      have lt : k1.cps.toList < k2.cps.toList := by
        have h1 := (List.getElem?_eq_some_iff.mp hk1)
        have h2 := (List.getElem?_eq_some_iff.mp hk2)
        obtain ⟨i1, e1⟩ := h1
        obtain ⟨i2, e2⟩ := h2
        have := (List.pairwise_iff_getElem.mp asc) i (1 + i) i1 i2 (by omega)
        rw [e1, e2] at this
        exact this
      have tD : D ≠ t := fun z => by
        rw [← z, e2] at ht
        cases ht
      have s3 : Same H1 (upd H2 t (.tup [.str k1, .str k2])) := fun b o e => by
        rw [upd_ne (ne_of_none (s2 b o e) ht)]
        exact s2 b o e
      refine ⟨t, _, rfl, SqT.of upd_same, rfl, _, _, rfl, _, _, rfl, rfl, rfl, _, rfl, _, rfl, _, _, rfl, rfl, ?_⟩
      rw [decide_eq_true lt]
      refine ⟨_, by rw [upd_ne tD]; exact e2, ?_, Same.mut s3 hD, ?_⟩
      · rw [List.length_map, List.length_replicate]
        exact small_lt (by omega)
      · rw [upd_same, List.replicate_succ', List.map_append]
        rfl
    · rintro H2 ⟨s2, e2⟩
      refine ⟨D, _, rfl, SqL.of e2, ?_⟩
      have : (List.replicate (ks.length - 1) true).all id = true := List.all_eq_true.mpr fun b hb => (List.mem_replicate.mp hb).2
      rw [this]
      exact k H2 fun b o e => s2 b o (s1 b o e)
end
end Kl

namespace Kl
open PySem L2 Kd
def changeV : Str × Option Str → List V
  | (p, none) => [.str "drop", .str p]
  | (p, some c) => [.str "put", .str p, .str c]
theorem changeL_of {H : Hp} {q : Str × Option Str} {v : V} (h : RepL H (changeD q) v) : ∃ a, v = .ref a ∧ SeqAt H a (changeV q) := by
  obtain ⟨p, o⟩ := q
  cases o with
  | none =>
    obtain ⟨a, vs, rfl, _, ha, _, x, r, rfl, hx, y, r2, rfl, hy, hn⟩ := h
    cases (show r2 = [] from hn)
    cases (show x = V.str "drop" from hx)
    cases (show y = V.str p from hy)
    exact ⟨a, rfl, ha⟩
  | some c =>
    obtain ⟨a, vs, rfl, _, ha, _, x, r, rfl, hx, y, r2, rfl, hy, z, r3, rfl, hz, hn⟩ := h
    cases (show r3 = [] from hn)
    cases (show x = V.str "put" from hx)
    cases (show y = V.str p from hy)
    cases (show z = V.str c from hz)
    exact ⟨a, rfl, ha⟩
theorem pairL_of {H : Hp} {q : Str × Str} {v : V} (h : RepL H (pairD q) v) : ∃ a, v = .ref a ∧ SeqAt H a [.str q.1, .str q.2] := by
  obtain ⟨a, vs, rfl, _, ha, _, x, r, rfl, hx, y, r2, rfl, hy, hn⟩ := h
  cases (show r2 = [] from hn)
  cases (show x = V.str q.1 from hx)
  cases (show y = V.str q.2 from hy)
  exact ⟨a, rfl, ha⟩
structure ChOk (q : Str × Option Str) : Prop where
  path : pathB q.1 = true
  len : q.1.length ≤ 1000
  cont : ∀ c, q.2 = some c → Cont c
structure PairOk (q : Str × Str) : Prop where
  path : pathB q.1 = true
  len : q.1.length ≤ 1000
  cont : Cont q.2
  lay : PyData.canLay0 (.str q.1) = true
end Kl

namespace Kl
open PySem L2 Kd
/-! any data: none, bools, ints, texts, lists, tuples -/
theorem SqL.same {K : PySem.W.Frag} {H H' : Hp} {p : Addr} {xs : List V} (s : Same H H') (h : SqL K H p xs) : SqL K H' p xs := h.imp (Rd.same s) id
theorem SqT.same2 {K : PySem.W.Frag} {H H' : Hp} {p : Addr} {xs : List V} (s : Same H H') (h : SqT K H p xs) : SqT K H' p xs := h.imp (Rd.same s) id
abbrev SeqY (K : PySem.W.Frag) (H : Hp) (a : Addr) (vs : List V) : Prop := SqL K H a vs ∨ SqT K H a vs
theorem SeqY.same {K : PySem.W.Frag} {H H' : Hp} {p : Addr} {xs : List V} (s : Same H H') (h : SeqY K H p xs) : SeqY K H' p xs := h.imp (SqL.same s) (SqT.same2 s)
mutual
theorem Dp.same {K : PySem.W.Frag} {H H' : Hp} (s : Same H H') : ∀ {d : PyData} {v : V}, Dp K H v d → Dp K H' v d
  | .none, _, h => by cases h; exact .non
  | .bool b, _, h => by cases h; exact .bl b
  | .int i, _, h => by cases h; exact .int i
  | .str x, _, h => by cases h; exact .str x
  | .list ds, _, h => by
    cases h with
    | lst e r => exact .lst (SqL.same s e) (DpAll.same s r)
  | .tuple ds, _, h => by
    cases h with
    | tup e r => exact .tup (SqT.same2 s e) (DpAll.same s r)
  | .dict _, _, h => nomatch h
theorem DpAll.same {K : PySem.W.Frag} {H H' : Hp} (s : Same H H') : ∀ {ds : List PyData} {vs : List V}, DpAll K H vs ds → DpAll K H' vs ds
  | [], _, h => by cases h; exact .nil
  | d :: ds, _, h => by
    cases h with
    | cons a r => exact .cons (Dp.same s a) (DpAll.same s r)
end
theorem DpAll.len {K : PySem.W.Frag} {H : Hp} : ∀ {ds : List PyData} {vs : List V}, DpAll K H vs ds → vs.length = ds.length
  | [], _, h => by cases h; rfl
  | d :: ds, _, h => by
    cases h with
    | cons a r => rw [List.length_cons, List.length_cons, DpAll.len r]
theorem DpAll.get {K : PySem.W.Frag} {H : Hp} : ∀ {ds : List PyData} {vs : List V} {i : Nat} {d : PyData}, DpAll K H vs ds → ds[i]? = some d → ∃ v, vs[i]? = some v ∧ Dp K H v d
  | [], _, _, _, _, e => by simp at e
  | d :: ds, _, 0, _, h, e => by
    cases h with
    | cons a r => cases e; exact ⟨_, rfl, a⟩
  | d :: ds, _, i + 1, _, h, e => by
    cases h with
    | cons a r =>
      rw [List.getElem?_cons_succ] at e ⊢
      exact DpAll.get r e
theorem DpAll.append {K : PySem.W.Frag} {H : Hp} : ∀ {ds es : List PyData} {vs ws : List V}, DpAll K H vs ds → DpAll K H ws es → DpAll K H (vs ++ ws) (ds ++ es)
  | [], _, _, _, h, k => by cases h; exact k
  | d :: ds, _, _, _, h, k => by
    cases h with
    | cons a r => exact .cons a (DpAll.append r k)
/-- what is in it -/
def seqY : PyData → Option (List PyData)
  | .list ds => some ds
  | .tuple ds => some ds
  | _ => none
def tyY : PyData → String
  | .none => "NoneType"
  | .bool _ => "bool"
  | .int _ => "int"
  | .str _ => "str"
  | .list _ => "list"
  | .tuple _ => "tuple"
  | .dict _ => "dict"
theorem SqL.ty {K : PySem.W.Frag} {H : Hp} {a : Addr} {xs : List V} (h : SqL K H a xs) : TyX K H (.ref a) (.type "list") := by
  rcases h with (h | ⟨o, h⟩) | ⟨o, _, _, h, c, _⟩
  · exact .base (.lst h)
  · exact .base (.frz h)
  · exact .kList h c
theorem SqT.ty {K : PySem.W.Frag} {H : Hp} {a : Addr} {xs : List V} (h : SqT K H a xs) : TyX K H (.ref a) (.type "tuple") := by
  rcases h with (h | ⟨o, h⟩) | ⟨o, _, _, h, c, _⟩
  · exact .base (.tup h)
  · exact .fTuple h
  · exact .kTuple h c
theorem Dp.ty {K : PySem.W.Frag} {H : Hp} : ∀ {d : PyData} {v : V}, Dp K H v d → TyX K H v (.type (tyY d))
  | .none, _, h => by cases h; exact .base .non
  | .bool b, _, h => by cases h; exact .base (.bl b)
  | .int i, _, h => by cases h; exact .base (.int i)
  | .str x, _, h => by cases h; exact .base (.str x)
  | .list ds, _, h => by
    cases h with
    | lst e r => exact SqL.ty e
  | .tuple ds, _, h => by
    cases h with
    | tup e r => exact SqT.ty e
  | .dict _, _, h => nomatch h
theorem Dp.seq {K : PySem.W.Frag} {H : Hp} : ∀ {d : PyData} {v : V} {ds : List PyData}, Dp K H v d → seqY d = some ds → ∃ a vs, v = .ref a ∧ SeqY K H a vs ∧ DpAll K H vs ds
  | .list _, _, _, h, e => by
    cases e
    cases h with
    | lst q r => exact ⟨_, _, rfl, .inl q, r⟩
  | .tuple _, _, _, h, e => by
    cases e
    cases h with
    | tup q r => exact ⟨_, _, rfl, .inr q, r⟩
def isStrY : PyData → Bool
  | .str _ => true
  | _ => false
def isIntY : PyData → Bool
  | .int _ => true
  | .bool _ => true
  | _ => false
def isBoolY : PyData → Bool
  | .bool _ => true
  | _ => false
theorem kStrY {K : PySem.W.Frag} : ∀ d : PyData, (seqY d).isSome = true ∨ d = .none ∨ (∃ b, d = .bool b) ∨ (∃ i, d = .int i) ∨ (∃ x, d = .str x) → PySem.W.kitOne K (.type (tyY d)) (.type "str") = some (isStrY d)
  | .none, _ => kOne (a := "NoneType") (b := "str") (r := false) (by decide +kernel)
  | .bool _, _ => kOne (a := "bool") (b := "str") (r := false) (by decide +kernel)
  | .int _, _ => kOne (a := "int") (b := "str") (r := false) (by decide +kernel)
  | .str _, _ => kOne (a := "str") (b := "str") (r := true) (by decide +kernel)
  | .list _, _ => kOne (a := "list") (b := "str") (r := false) (by decide +kernel)
  | .tuple _, _ => kOne (a := "tuple") (b := "str") (r := false) (by decide +kernel)
  | .dict _, h => by rcases h with h | h | ⟨_, h⟩ | ⟨_, h⟩ | ⟨_, h⟩ <;> cases h
theorem Dp.kinds {K : PySem.W.Frag} {H : Hp} : ∀ {d : PyData} {v : V}, Dp K H v d → (seqY d).isSome = true ∨ d = .none ∨ (∃ b, d = .bool b) ∨ (∃ i, d = .int i) ∨ (∃ x, d = .str x)
  | .none, _, _ => .inr (.inl rfl)
  | .bool _, _, _ => .inr (.inr (.inl ⟨_, rfl⟩))
  | .int _, _, _ => .inr (.inr (.inr (.inl ⟨_, rfl⟩)))
  | .str _, _, _ => .inr (.inr (.inr (.inr ⟨_, rfl⟩)))
  | .list _, _, _ => .inl rfl
  | .tuple _, _, _ => .inl rfl
  | .dict _, _, h => nomatch h
theorem Dp.isiStr {K : PySem.W.Frag} {H : Hp} {d : PyData} {v : V} (h : Dp K H v d) {Q : VK} (q : Q (.bl (isStrY d)) H) : rIsi K [v, .ty "str"] H Q := ⟨v, .ty "str", _, .type "str", isStrY d, rfl, .ty "str", Dp.ty h, kStrY d (Dp.kinds h), q⟩
theorem Dp.isiInt {K : PySem.W.Frag} {H : Hp} {d : PyData} {v : V} (h : Dp K H v d) {Q : VK} (q : Q (.bl (isIntY d)) H) : rIsi K [v, .ty "int"] H Q := by
  refine ⟨v, .ty "int", _, .type "int", isIntY d, rfl, .ty "int", Dp.ty h, ?_, q⟩
  cases d with
  | none => exact kOne (a := "NoneType") (b := "int") (r := false) (by decide +kernel)
  | bool _ => exact kOne (a := "bool") (b := "int") (r := true) (by decide +kernel)
  | int _ => exact kOne (a := "int") (b := "int") (r := true) (by decide +kernel)
  | str _ => exact kOne (a := "str") (b := "int") (r := false) (by decide +kernel)
  | list _ => exact kOne (a := "list") (b := "int") (r := false) (by decide +kernel)
  | tuple _ => exact kOne (a := "tuple") (b := "int") (r := false) (by decide +kernel)
  | dict _ => exact nomatch h
theorem Dp.isiBool {K : PySem.W.Frag} {H : Hp} {d : PyData} {v : V} (h : Dp K H v d) {Q : VK} (q : Q (.bl (isBoolY d)) H) : rIsi K [v, .ty "bool"] H Q := by
  refine ⟨v, .ty "bool", _, .type "bool", isBoolY d, rfl, .ty "bool", Dp.ty h, ?_, q⟩
  cases d with
  | none => exact kOne (a := "NoneType") (b := "bool") (r := false) (by decide +kernel)
  | bool _ => exact kOne (a := "bool") (b := "bool") (r := true) (by decide +kernel)
  | int _ => exact kOne (a := "int") (b := "bool") (r := false) (by decide +kernel)
  | str _ => exact kOne (a := "str") (b := "bool") (r := false) (by decide +kernel)
  | list _ => exact kOne (a := "list") (b := "bool") (r := false) (by decide +kernel)
  | tuple _ => exact kOne (a := "tuple") (b := "bool") (r := false) (by decide +kernel)
  | dict _ => exact nomatch h
theorem Dp.kitSeq {K : PySem.W.Frag} {H : Hp} {d : PyData} {v : V} (h : Dp K H v d) : PySem.W.kitAny K (.type (tyY d)) [.type "list", .type "tuple"] = some (seqY d).isSome := by
  cases d with
  | none => exact kitAny_cons (b := false) (kOne (a := "NoneType") (b := "list") (r := false) (by decide +kernel)) (fun _ => kitAny_cons (b := false) (kOne (a := "NoneType") (b := "tuple") (r := false) (by decide +kernel)) (fun _ => rfl) (fun z => nomatch z)) (fun z => nomatch z)
  | bool _ => exact kitAny_cons (b := false) (kOne (a := "bool") (b := "list") (r := false) (by decide +kernel)) (fun _ => kitAny_cons (b := false) (kOne (a := "bool") (b := "tuple") (r := false) (by decide +kernel)) (fun _ => rfl) (fun z => nomatch z)) (fun z => nomatch z)
  | int _ => exact kitAny_cons (b := false) (kOne (a := "int") (b := "list") (r := false) (by decide +kernel)) (fun _ => kitAny_cons (b := false) (kOne (a := "int") (b := "tuple") (r := false) (by decide +kernel)) (fun _ => rfl) (fun z => nomatch z)) (fun z => nomatch z)
  | str _ => exact kitAny_cons (b := false) (kOne (a := "str") (b := "list") (r := false) (by decide +kernel)) (fun _ => kitAny_cons (b := false) (kOne (a := "str") (b := "tuple") (r := false) (by decide +kernel)) (fun _ => rfl) (fun z => nomatch z)) (fun z => nomatch z)
  | list _ => exact kitAny_cons (b := true) (kOne (a := "list") (b := "list") (r := true) (by decide +kernel)) (fun z => nomatch z) (fun _ => rfl)
  | tuple _ => exact kitAny_cons (b := false) (kOne (a := "tuple") (b := "list") (r := false) (by decide +kernel)) (fun _ => kitAny_cons (b := true) (kOne (a := "tuple") (b := "tuple") (r := true) (by decide +kernel)) (fun z => nomatch z) (fun _ => rfl)) (fun z => nomatch z)
  | dict _ => exact nomatch h
/-! sizes -/
mutual
def fitY : PyData → Bool
  | .str x => decide (x.length ≤ 100000) && PyData.strOk x
  | .list xs => decide (xs.length ≤ 100000) && fitsY xs
  | .tuple xs => decide (xs.length ≤ 100000) && fitsY xs
  | .dict _ => false
  | _ => true
def fitsY : List PyData → Bool
  | [] => true
  | d :: ds => fitY d && fitsY ds
end
structure YOk (d : PyData) : Prop where
  fit : fitY d = true
  dep : d.depth ≤ 60
theorem fitsY_mem : ∀ {ds : List PyData} {d : PyData}, fitsY ds = true → d ∈ ds → fitY d = true
  | [], _, _, h => nomatch h
  | e :: ds, d, h, m => by
    rw [fitsY, Bool.and_eq_true] at h
    rcases List.mem_cons.mp m with m | m
    · rw [m]; exact h.1
    · exact fitsY_mem h.2 m
theorem depthAll_mem : ∀ {ds : List PyData} {d : PyData}, d ∈ ds → d.depth ≤ PyData.depthAll ds
  | e :: ds, d, m => by
    have e1 : PyData.depthAll (e :: ds) = max e.depth (PyData.depthAll ds) := by rw [PyData.depthAll]
    rcases List.mem_cons.mp m with m | m
    · rw [m]; omega
    · have := depthAll_mem m
      omega
theorem YOk.mem {d : PyData} {ds : List PyData} {x : PyData} (e : seqY d = some ds) (h : YOk d) (m : x ∈ ds) : YOk x := by
  cases d with
  | list xs =>
    cases e
    have h1 := h.fit
    have h2 := h.dep
    rw [fitY, Bool.and_eq_true] at h1
    rw [PyData.depth] at h2
    have := depthAll_mem m
    exact ⟨fitsY_mem h1.2 m, by omega⟩
  | tuple xs =>
    cases e
    have h1 := h.fit
    have h2 := h.dep
    rw [fitY, Bool.and_eq_true] at h1
    rw [PyData.depth] at h2
    have := depthAll_mem m
    exact ⟨fitsY_mem h1.2 m, by omega⟩
  | none => cases e
  | bool _ => cases e
  | int _ => cases e
  | str _ => cases e
  | dict _ => cases e
theorem YOk.len {d : PyData} {ds : List PyData} (e : seqY d = some ds) (h : YOk d) : ds.length ≤ 100000 := by
  cases d with
  | list xs =>
    cases e
    have h1 := h.fit
    rw [fitY, Bool.and_eq_true, decide_eq_true_eq] at h1
    exact h1.1
  | tuple xs =>
    cases e
    have h1 := h.fit
    rw [fitY, Bool.and_eq_true, decide_eq_true_eq] at h1
    exact h1.1
  | none => cases e
  | bool _ => cases e
  | int _ => cases e
  | str _ => cases e
  | dict _ => cases e
theorem YOk.str {x : Str} (h : YOk (.str x)) : x.length ≤ 100000 ∧ PyData.strOk x = true := by
  have h1 := h.fit
  rw [fitY, Bool.and_eq_true, decide_eq_true_eq] at h1
  exact h1
mutual
theorem fit_lay : ∀ {d : PyData}, fitY d = true → d.canLay0 = true
  | .none, _ => rfl
  | .bool _, _ => rfl
  | .int _, _ => rfl
  | .str x, h => by
    rw [fitY, Bool.and_eq_true] at h
    exact h.2
  | .list xs, h => by
    rw [fitY, Bool.and_eq_true] at h
    exact fits_lay h.2
  | .tuple xs, h => by
    rw [fitY, Bool.and_eq_true] at h
    exact fits_lay h.2
  | .dict _, h => by
    rw [fitY] at h
    cases h
theorem fits_lay : ∀ {ds : List PyData}, fitsY ds = true → PyData.canLayAll0 ds = true
  | [], _ => rfl
  | d :: ds, h => by
    rw [fitsY, Bool.and_eq_true] at h
    rw [PyData.canLayAll0, fit_lay h.1, fits_lay h.2]
    rfl
end
theorem YOk.shaped {d : PyData} (h : YOk d) : SeqAt.shaped d = true := by
  unfold SeqAt.shaped
  rw [fit_lay h.fit, decide_eq_true (Nat.le_trans h.dep (by decide))]
  rfl
theorem strY_shaped {x : Str} (h : PyData.strOk x = true) : SeqAt.shaped (.str x) = true := by
  unfold SeqAt.shaped
  have e1 : (PyData.str x).canLay0 = true := h
  have e2 : (PyData.str x).depth ≤ 64 := by rw [PyData.depth]; decide
  rw [e1, decide_eq_true e2]
  rfl
/-! walked, read, measured -/
theorem seqY_walk {K : PySem.W.Frag} {tl : TE} {σ : L2.St} {H H1 : Hp} {R : It → Hp → Prop} {a : Addr} {vs : List V} (h : SeqY K H1 a vs) (ht : ∀ Q : VK, Q (.ref a) H1 → tl σ H Q) (k : ∀ (J : It) (G : Hp → Prop), Walk J vs.length G (YAt vs) → (∀ H' : Hp, Same H1 H' → G H') → R J H1) : iSeq K tl σ H R := by
  rcases h with h | h
  · exact .inr (ht _ ⟨a, rfl, ⟨_, h⟩, k _ (fun H => SqL K H a vs) walk_list fun H' s => SqL.same s h⟩)
  · exact .inl (ht _ ⟨a, rfl, ⟨_, h⟩, k _ (fun H => SqT K H a vs) walk_tup fun H' s => SqT.same2 s h⟩)
theorem ixY {K : PySem.W.Frag} {H : Hp} {a : Addr} {vs : List V} {i : Int} {x : V} {Q : VK} (h : SeqY K H a vs) (e : atI vs i = some x) (q : Q x H) : rIx K (.ref a) (.int i) H Q := by
  rcases h with h | h
  · exact .inl ⟨a, vs, i, x, rfl, rfl, h, e, q⟩
  · exact .inr (.inl ⟨a, vs, i, x, rfl, rfl, h, e, q⟩)
/-- an answer of data -/
def spY (f : PyData → Bool) (K : PySem.W.Frag) : Sp := fun vs H Q _ => ∃ (v : V) (d : PyData), vs = [v] ∧ Dp K H v d ∧ YOk d ∧ ∀ H' : Hp, Same H H' → Q (.bl (f d)) H'
def rowI (n : Int) (d : PyData) : Bool := match seqY d with | some ds => decide ((ds.length : Int) = n) | none => false
def spRowY (K : PySem.W.Frag) : Sp := fun vs H Q _ => ∃ (v : V) (d : PyData) (n : Int), vs = [v, .int n] ∧ Dp K H v d ∧ ∀ H' : Hp, Same H H' → Q (.bl (rowI n d)) H'
def rowY (n : Nat) (d : PyData) : Bool := match seqY d with | some ds => decide (ds.length = n) | none => false
def integerY : PyData → Bool
  | .int _ => true
  | _ => false
section
variable {P : Program} {w : World} {K : PySem.W.Frag} {mg : Str → Option Value} {base : Heap}
theorem ok_sequenceY {f : Addr} {fd : FuncData} (F : Fun K "is_sequence" "is_sequence" s_is_sequence f fd) (T : Glo mg) : FnOk P w K mg base CX0 1 f fd ["value"] (fun vs H Q _ => ∃ (v : V) (d : PyData), vs = [v] ∧ Dp K H v d ∧ ∀ H' : Hp, Same H H' → Q (.bl (seqY d).isSome) H') := by
  refine F.ok sc_is_sequence (fun vs H Q E h => ?_) (fun cdv A outer s H vs Q E hr h => ?_)
  · obtain ⟨v, d, rfl, _⟩ := h
    rfl
  · obtain ⟨v, d, rfl, hd, k⟩ := h
    refine ⟨_, (pss_one (ps_ret (pe_callB call_isiT (by rfl) T.isi PyProof.Rows.boot_isinstance (pa_cons (pv 0) (pa_cons (pe_tup (pa_cons (pe_bltn (v := .ty "list") (by rfl) T.list PyProof.Rows.boot_list rfl) (pa_cons (pe_bltn (v := .ty "tuple") (by rfl) T.tuple PyProof.Rows.boot_tuple rfl) pa_nil))) pa_nil))))), ?_⟩
    refine ⟨_, rfl, (by show 2 ≤ sizeLine; decide), fun p hp => ?_⟩
    have s1 : Same H (upd H p (.tup [.ty "list", .ty "tuple"])) := Same.new hp
    exact ⟨_, p, _, _, [.type "list", .type "tuple"], _, rfl, upd_same, .cons (.ty "list") (.cons (.ty "tuple") .nil), Dp.ty (Dp.same s1 hd), Dp.kitSeq hd, k _ s1⟩
abbrev spSeqY (K : PySem.W.Frag) : Sp := fun vs H Q _ => ∃ (v : V) (d : PyData), vs = [v] ∧ Dp K H v d ∧ ∀ H' : Hp, Same H H' → Q (.bl (seqY d).isSome) H'
theorem ok_rowY {f : Addr} {fd : FuncData} (F : Fun K "is_row" "is_row" s_is_row f fd) (T : Glo mg) (c_is_sequence : C8.Cal P w K mg base 1 "is_sequence" (spSeqY K) []) : FnOk P w K mg base CX0 2 f fd ["value", "length"] (spRowY K) := by
  refine F.ok sc_is_row (fun vs H Q E h => ?_) (fun cdv A outer s H vs Q E hr h => ?_)
  · obtain ⟨v, d, n, rfl, _⟩ := h
    rfl
  · obtain ⟨v, d, n, rfl, hd, k⟩ := h
    refine ⟨_, (pss_one (ps_ret (pe_and (C8.pe_c c_is_sequence hr (by omega) (by rfl) (pa_cons (pv 0) pa_nil)) (pe_one (pe_cmpR op_eq (pe_callB call_len_seq (by rfl) T.len PySem.boot_len (pa_cons (pv 0) pa_nil)) (pv 1) (nomark _)))))), ?_⟩
    refine st_ret (te_andv (te_call (ta_cons (te_v rfl (ta_nil ⟨v, d, rfl, hd, fun H1 s1 => ⟨_, rfl, ?_⟩⟩)))))
    cases e : seqY d with
    | none =>
      refine iteF ?_
      have := k H1 s1
      rw [show rowI n d = false by unfold rowI; rw [e]] at this
      exact this
    | some ds =>
      refine iteT ?_
      obtain ⟨a, us, rfl, sq, al⟩ := Dp.seq (Dp.same s1 hd) e
      refine te_op (te_cb (ta_cons (te_v rfl (ta_nil ⟨a, us, rfl, sq, te_v rfl ⟨rfl, ?_⟩⟩))))
      have := k H1 s1
      rw [show rowI n d = decide ((ds.length : Int) = n) by unfold rowI; rw [e]] at this
      have e2 : decide (V.int (us.length : Int) = V.int n) = decide ((ds.length : Int) = n) := by
        rw [DpAll.len al]
        by_cases c : (ds.length : Int) = n
        · rw [decide_eq_true c, decide_eq_true (show V.int _ = V.int n by rw [c])]
        · rw [decide_eq_false c, decide_eq_false (fun z => c (V.int.inj z))]
      rw [e2]
      exact this
end
end Kl

namespace Kl
open PySem L2 Kd
/-! words, paths, contents of any data; rising texts -/
def wordY : PyData → Bool
  | .str x => wordB x
  | _ => false
def pathY : PyData → Bool
  | .str x => pathB x
  | _ => false
def shownB (x : Str) : Bool := Txt.isascii x && (Txt.isprintable x && !(x.cps.toList.any fun c => c == 37))
def signsB (m : Nat) (x : Str) : Bool := decide (x.length ≤ m) && shownB (Txt.replace x "\n" "")
def contY : PyData → Bool
  | .str x => signsB 1000 x
  | _ => false
def ascB : List Str → Bool
  | [] => true
  | [_] => true
  | x :: y :: r => decide (Lt x y) && ascB (y :: r)
theorem ascB_asc : ∀ {ks : List Str}, ascB ks = true ↔ Asc ks
  | [] => ⟨fun _ => List.Pairwise.nil, fun _ => rfl⟩
  | [x] => ⟨fun _ => List.pairwise_singleton .., fun _ => rfl⟩
  | x :: y :: r => by
    rw [ascB, Bool.and_eq_true, decide_eq_true_eq, ascB_asc (ks := y :: r)]
    constructor
    · rintro ⟨h, a⟩
      refine List.pairwise_cons.mpr ⟨fun z hz => ?_, a⟩
      rcases List.mem_cons.mp hz with e | hz
      · rw [e]; exact h
      · exact Lt.trans h ((List.pairwise_cons.mp a).1 z hz)
    · intro h
      obtain ⟨h1, h2⟩ := List.pairwise_cons.mp h
      exact ⟨h1 y (List.mem_cons_self ..), h2⟩
theorem ascB_take : ∀ (ks : List Str) (i : Nat) {x y : Str}, ks[i]? = some x → ks[i + 1]? = some y → ascB (ks.take (i + 2)) = (ascB (ks.take (i + 1)) && decide (Lt x y))
  | [], _, _, _, h, _ => by simp at h
  | [_], 0, _, _, _, h => by simp at h
  | [_], i + 1, _, _, h, _ => by simp at h
  | a :: b :: r, 0, x, y, hx, hy => by
    simp only [List.getElem?_cons_zero, Option.some.injEq] at hx
    simp only [Nat.zero_add, List.getElem?_cons_succ, List.getElem?_cons_zero, Option.some.injEq] at hy
    subst hx hy
    simp [ascB]
  | a :: b :: r, i + 1, x, y, hx, hy => by
    have ih := ascB_take (b :: r) i (by simpa using hx) (by simpa using hy)
    show ascB (a :: (b :: r).take (i + 2)) = (ascB (a :: (b :: r).take (i + 1)) && decide (Lt x y))
    have e1 : (b :: r).take (i + 2) = b :: r.take (i + 1) := rfl
    have e2 : (b :: r).take (i + 1) = b :: r.take i := rfl
    rw [e1, e2] at ih ⊢
    rw [ascB, ascB, ih, Bool.and_assoc]
def spAscY (_ : PySem.W.Frag) : Sp := fun vs H Q _ => ∃ (p : Addr) (ks : List Str), vs = [.ref p] ∧ Strs H p ks ∧ ks.length ≤ 100000 ∧ ∀ H' : Hp, Same H H' → Q (.bl (ascB ks)) H'
def spShownY (_ : PySem.W.Frag) : Sp := fun vs H Q _ => ∃ x : Str, vs = [.str x] ∧ x.length ≤ 99999 ∧ ∀ H' : Hp, Same H H' → Q (.bl (shownB x)) H'
def spSignsY (K : PySem.W.Frag) : Sp := fun vs H Q _ => ∃ (v : V) (d : PyData) (n : Nat), vs = [v, .int n] ∧ Dp K H v d ∧ YOk d ∧ n ≤ 5000 ∧ ∀ H' : Hp, Same H H' → Q (.bl (match d with | .str x => signsB n x | _ => false)) H'
section
variable {P : Program} {w : World} {K : PySem.W.Frag} {mg : Str → Option Value} {base : Heap}
theorem ok_ascY {f : Addr} {fd : FuncData} (F : Fun K "is_ascending" "is_ascending" s_is_ascending f fd) (T : Glo mg) : FnOk P w K mg base CX0 1 f fd ["keys"] (spAscY K) := by
  refine F.ok sc_is_ascending (fun vs H Q E h => ?_) (fun cdv A outer s H vs Q E hr h => ?_)
  · obtain ⟨p, ks, rfl, _⟩ := h
    rfl
  · obtain ⟨p, ks, rfl, hp, hl, k⟩ := h
    refine ⟨_, (pss_one (ps_ret (pe_callB (cr_all rfl) (by rfl) T.all (by decide +kernel) (pa_cons (pe_lc (own := [("key", 1), ("later", 2)]) (g := gTup K 2 (gCons (gName 1) (gCons (gName 2) gNil))) (tt := tYes) rfl sc_is_ascending.nd (pi_zip (by rfl) T.zip (pa_cons (pv 0) (pa_cons (pe_slice sl_list (pv 0) (po_some pe_int) po_none) pa_nil))) (blkOk_by (N := ["keys", "key", "later"]) (sc := defScope s_is_ascending) (by decide +kernel)) (fun _ _ _ _ _ => (pg_tup rfl (pgs_cons (pg_name (i := 1) sc_is_ascending.nd rfl (.inl rfl)) (pgs_cons (pg_name (i := 2) sc_is_ascending.nd rfl (.inl rfl)) pgs_nil)))) (fun _ _ _ _ _ => pts_nil) (fun _ _ _ _ _ => (pe_cmpR op_lt_str (pv 1) (pv 2) (nomark _)))) pa_nil)))), ?_⟩
    refine ⟨_, rfl, _, rfl, _, rfl, p, _, rfl, SqL.of hp, fun q hq => ?_⟩
    rw [show ((1 : Int)) = ((1 : Nat) : Int) from rfl, cut_drop]
    have s1 : Same H (upd H q (.lst ((ks.drop 1).map V.str))) := Same.new hq
    have q1 : upd H q (.lst ((ks.drop 1).map V.str)) q = some (.lst ((ks.drop 1).map V.str)) := upd_same
    have p1 := s1 _ _ hp
    generalize upd H q (.lst ((ks.drop 1).map V.str)) = H1 at s1 q1 p1 ⊢
    refine ⟨p, q, _, _, rfl, SqL.of p1, SqL.of q1, fun D hD => lc_it (walk_zip (xs := ks.map V.str) (ys := (ks.drop 1).map V.str) (n := ks.length - 1) (by rw [List.length_map, List.length_map, List.length_drop]; omega)) (fun i H2 => Same H1 H2 ∧ ∃ bs : List Bool, H2 D = some (.lst (bs.map V.bl)) ∧ bs.length = i ∧ bs.all id = ascB (ks.take (i + 1))) ⟨Same.new hD, [], upd_same, rfl, ?_⟩ (fun i H2 _ z => ⟨SqL.of (z.1 _ _ p1), SqL.of (z.1 _ _ q1)⟩) ?_ ?_⟩
    · cases ks with
      | nil => rfl
      | cons a r => simp [ascB]
    · rintro i v H2 H3 hi ⟨s2, bs, e2, l2, b2⟩ ⟨t, x, y, rfl, ht, rfl, hx, hy⟩
      replace hx : (ks.map V.str)[i]? = some x := hx
      replace hy : ((ks.drop 1).map V.str)[i]? = some y := hy
      rw [List.getElem?_map] at hx hy
      obtain ⟨k1, hk1, rfl⟩ := Option.map_eq_some_iff.mp hx
      obtain ⟨k2, hk2, rfl⟩ := Option.map_eq_some_iff.mp hy
      rw [List.getElem?_drop, Nat.add_comm] at hk2
      have tD : D ≠ t := fun z => by
        rw [← z, e2] at ht
        cases ht
      have s3 : Same H1 (upd H2 t (.tup [.str k1, .str k2])) := fun b o e => by
        rw [upd_ne (ne_of_none (s2 b o e) ht)]
        exact s2 b o e
      refine ⟨t, _, rfl, SqT.of upd_same, rfl, _, _, rfl, _, _, rfl, rfl, rfl, _, rfl, _, rfl, _, _, rfl, rfl, ?_⟩
      refine ⟨_, by rw [upd_ne tD]; exact e2, ?_, Same.mut s3 hD, bs ++ [decide (Lt k1 k2)], ?_, by rw [List.length_append, l2]; rfl, ?_⟩
      · rw [List.length_map, l2]
        rw [sizeLine_eq]
        omega
      · rw [upd_same, List.map_append]
        rfl
      · rw [ascB_take ks i hk1 hk2, List.all_append, b2]
        simp
    · rintro H2 ⟨s2, bs, e2, l2, b2⟩
      refine ⟨D, _, rfl, SqL.of e2, ?_⟩
      have e : ks.take (ks.length - 1 + 1) = ks := List.take_of_length_le (by omega)
      rw [e] at b2
      rw [b2]
      exact k H2 fun b o e => s2 b o (s1 b o e)
theorem ok_shownY {f : Addr} {fd : FuncData} (F : Fun K "is_shown" "is_shown" s_is_shown f fd) (T : Glo mg) {t37 : Tok} (m_PERCENT_NUMBER : mg "PERCENT_NUMBER" = some (.int 37 t37)) : FnOk P w K mg base CX0 1 f fd ["value"] (spShownY K) := by
  refine F.ok sc_is_shown (fun vs H Q E h => ?_) (fun cdv A outer s H vs Q E hr h => ?_)
  · obtain ⟨x, rfl, _⟩ := h
    rfl
  · obtain ⟨x, rfl, hl, k⟩ := h
    refine ⟨_, (C8.pss_cut (ps_if (PW.pt (pw_or (pt_not (pt_val (pe_callB call_isi (by rfl) T.isi PyProof.Rows.boot_isinstance (pa_cons (pv 0) (pa_cons (pe_bltn (v := .ty "str") (by rfl) T.str (by decide +kernel) rfl) pa_nil))))) (pw_or (pt_not (pt_val (pe_m0 PySem.F.slot_str_isascii PySem.F.type_str_isascii mt_isascii (pv 0)))) (pw_or1 (pt_not (pt_val (pe_m0 PySem.F.slot_str_isprintable PySem.F.type_str_isprintable mt_isprintable (pv 0))))))))
      (pss_one (ps_ret pe_bl))
      pss_nil)
      (pss_one (ps_ret (pe_cmpR op_notIn_seq (pe_glob (v := .int 37) (by rfl) m_PERCENT_NUMBER ⟨_, rfl⟩) (pe_lc (own := [("sign", 1)]) (g := gName 1) (tt := tYes) rfl sc_is_shown.nd (pi_str (pv 0)) (blkOk_by (N := ["value", "sign"]) (sc := defScope s_is_shown) (by decide +kernel)) (fun _ _ _ _ _ => (pg_name (i := 1) sc_is_shown.nd rfl (.inl rfl))) (fun _ _ _ _ _ => pts_nil) (fun _ _ _ _ _ => (pe_callB call_ord (by rfl) T.ord (by decide +kernel) (pa_cons (pv 1) pa_nil)))) (by rfl))))), ?_⟩
    refine ⟨fun σ' H' => σ' = [some (.str x), none] ∧ H' = H ∧ Txt.isascii x = true ∧ Txt.isprintable x = true, ?_, ?_⟩
    · refine ⟨_, rfl, .str x, .ty "str", .type "str", .type "str", true, rfl, .ty "str", .base (.str _), kit_ty (by decide +kernel), _, rfl, iteF ?_⟩
      have no : shownB x = false → Q (.bl false) H := fun e => by
        have := k H (Same.refl H)
        rw [e] at this
        exact this
      refine ⟨_, rfl, ⟨_, rfl⟩, _, rfl, rfl, trivial, _, rfl, ?_⟩
      cases e1 : Txt.isascii x with
      | false => exact iteT (no (by unfold shownB; rw [e1]; rfl))
      | true =>
        refine iteF ⟨_, rfl, ⟨_, rfl⟩, _, rfl, rfl, trivial, _, rfl, ?_⟩
        cases e2 : Txt.isprintable x with
        | false => exact iteT (no (by unfold shownB; rw [e1, e2]; rfl))
        | true => exact iteF ⟨rfl, rfl, rfl, rfl⟩
    rintro σ' H' ⟨rfl, rfl, ha, hpr⟩
    refine ⟨_, rfl, x, rfl, fun D hD => lc_it walk_str (fun i H2 => Same H' H2 ∧ H2 D = some (.lst (((x.cps.toList.take i).map fun c : Nat => V.int ((c : Nat) : Int))))) ⟨Same.new hD, upd_same⟩ (fun _ _ _ _ => trivial) ?_ ?_⟩
    · rintro i y H2 H3 hi ⟨s2, e2⟩ ⟨rfl, c, hc, rfl⟩
      have hc' : x.cps.toList[i]? = some c := by rw [Array.getElem?_toList]; exact hc
      refine ⟨rfl, _, rfl, _, rfl, rfl, _, e2, ?_, Same.mut s2 hD, ?_⟩
      · rw [List.length_map, List.length_take]
        exact small_lt (by have : x.cps.size = x.length := rfl; omega)
      · rw [upd_same, List.take_add_one, hc', List.map_append]
        rfl
    · rintro H2 ⟨s2, e2⟩
      have e3 : x.cps.toList.take x.cps.size = x.cps.toList := List.take_of_length_le (by rw [Array.length_toList]; exact Nat.le_refl _)
      rw [e3] at e2
      refine ⟨D, _, rfl, .inl (SqL.of e2), rfl, ?_, ?_⟩
      · rw [List.all_eq_true]
        intro v hv
        obtain ⟨c, _, rfl⟩ := List.mem_map.mp hv
        rfl
      · have : (!inV (.int 37) (x.cps.toList.map fun c : Nat => V.int ((c : Nat) : Int))) = shownB x := by
          unfold shownB
          rw [ha, hpr, Bool.true_and, Bool.true_and]
          congr 1
          unfold inV
          rw [List.any_map]
          congr 1
          funext c
          show eqV (V.int (c : Int)) (V.int 37) = (c == 37)
          rw [Bool.eq_iff_iff]
          simp [eqV]
          omega
        rw [this]
        exact k H2 s2
theorem ok_signsY {f : Addr} {fd : FuncData} (F : Fun K "is_signs" "is_signs" s_is_signs f fd) (T : Glo mg) (c_is_shown : C8.Cal P w K mg base 1 "is_shown" (spShownY K) []) : FnOk P w K mg base CX0 2 f fd ["value", "most"] (spSignsY K) := by
  refine Fun.okT F sc_is_signs (by decide +kernel) (by decide) (fun vs H Q E h => ?_) (fun cdv A outer s H vs Q E hr h => ?_)
  · obtain ⟨v, d, n, rfl, _⟩ := h
    rfl
  · obtain ⟨v, d, n, rfl, hd, yo, hn, k⟩ := h
    refine ⟨_, CwR.psst_one (CwR.pst_ret (pet_and (pe_callB call_isi (by rfl) T.isi PyProof.Rows.boot_isinstance (pa_cons (pv 0) (pa_cons (pe_bltn (v := .ty "str") (by rfl) T.str (by decide +kernel) rfl) pa_nil)))
      (pet_and (pe_cmpR op_le (pe_callB call_len_str (by rfl) T.len PySem.boot_len (pa_cons (pv 0) pa_nil)) (pv 1) (nomark _))
      (pet_one (pet_c c_is_shown hr (by omega) (by rfl) (pat_cons (CwR.pet_replC (pv 0)) pat_nil)))))), ?_⟩
    refine ⟨_, rfl, v, .ty "str", _, .type "str", isStrY d, rfl, .ty "str", Dp.ty hd, kStrY d (Dp.kinds hd), _, rfl, ?_⟩
    cases d with
    | str x =>
      cases hd
      obtain ⟨hx, _⟩ := yo.str
      refine iteT ?_
      refine ⟨_, rfl, _, rfl, small_of (by omega), _, rfl, _, _, rfl, rfl, _, rfl, ?_⟩
      by_cases c : x.length ≤ n
      · rw [decide_eq_true (show ((x.length : Nat) : Int) ≤ (n : Int) by omega)]
        refine iteT ?_
        have e0 : ("" : Str).length = 0 := by decide +kernel
        refine ⟨_, rfl, x, rfl, by rw [e0]; omega, _, rfl, ?_, fun H' s => ?_⟩
        · have e : (Txt.replace x "\n" "").cps.toList = x.cps.toList.filter (· != 10) := PyProof.Rows.replace_strikes x 10
          rw [← len_tl, e]
          have h1 := List.length_filter_le (· != 10) x.cps.toList
          have h2 := len_tl x
          omega
        · have this : Q (V.bl (signsB n x)) H' := k H' s
          rw [show signsB n x = shownB (Txt.replace x "\n" "") by unfold signsB; rw [decide_eq_true c, Bool.true_and]] at this
          exact this
      · rw [decide_eq_false (show ¬ ((x.length : Nat) : Int) ≤ (n : Int) by omega)]
        refine iteF ?_
        have this : Q (V.bl (signsB n x)) H := k H (Same.refl H)
        rw [show signsB n x = false by unfold signsB; rw [decide_eq_false c, Bool.false_and]] at this
        exact this
    | none => exact iteF (k H (Same.refl H))
    | bool _ => exact iteF (k H (Same.refl H))
    | int _ => exact iteF (k H (Same.refl H))
    | list _ => exact iteF (k H (Same.refl H))
    | tuple _ => exact iteF (k H (Same.refl H))
    | dict _ => exact nomatch hd
theorem ok_contY {f : Addr} {fd : FuncData} (F : Fun K "is_content" "is_content" s_is_content f fd) {t1000 : Tok} (m_MOST_CONTENT_SIGNS : mg "MOST_CONTENT_SIGNS" = some (.int 1000 t1000)) (c_is_signs : C8.Cal P w K mg base 2 "is_signs" (spSignsY K) []) : FnOk P w K mg base CX0 3 f fd ["value"] (spY contY K) := by
  refine F.ok sc_is_content (fun vs H Q E h => ?_) (fun cdv A outer s H vs Q E hr h => ?_)
  · obtain ⟨v, d, rfl, _⟩ := h
    rfl
  · obtain ⟨v, d, rfl, hd, yo, k⟩ := h
    refine ⟨_, (pss_one (ps_ret (C8.pe_c c_is_signs hr (by omega) (by rfl) (pa_cons (pv 0) (pa_cons (pe_glob (v := .int 1000) (by rfl) m_MOST_CONTENT_SIGNS ⟨_, rfl⟩) pa_nil))))), ?_⟩
    exact ⟨_, rfl, v, d, 1000, rfl, hd, yo, by decide, fun H' s => by cases d <;> exact k H' s⟩
end
end Kl

namespace Kl
open PySem L2 Kd
/-! words and paths of any data -/
def lenY : PyData → Prop
  | .str x => x.length ≤ 100000
  | _ => True
theorem YOk.lenY : ∀ {d : PyData}, YOk d → Kl.lenY d
  | .str x, h => h.str.1
  | .none, _ => trivial
  | .bool _, _ => trivial
  | .int _, _ => trivial
  | .list _, _ => trivial
  | .tuple _, _ => trivial
  | .dict _, _ => trivial
/-- an answer that hangs on a text alone -/
def spX (f : PyData → Bool) (K : PySem.W.Frag) : Sp := fun vs H Q _ => ∃ (v : V) (d : PyData), vs = [v] ∧ Dp K H v d ∧ lenY d ∧ ∀ H' : Hp, Same H H' → Q (.bl (f d)) H'
section
variable {P : Program} {w : World} {K : PySem.W.Frag} {mg : Str → Option Value} {base : Heap}
theorem ok_wordY {f : Addr} {fd : FuncData} (F : Fun K "is_word" "is_word" s_is_word f fd) (T : Glo mg) {t12 : Tok} (m_MOST_WORD_SIGNS : mg "MOST_WORD_SIGNS" = some (.int 12 t12)) : FnOk P w K mg base CX0 1 f fd ["value"] (spX wordY K) := by
  refine F.ok sc_is_word (fun vs H Q E h => ?_) (fun cdv A outer s H vs Q E hr h => ?_)
  · obtain ⟨v, d, rfl, _⟩ := h
    rfl
  · obtain ⟨v, d, rfl, hd, yo, kk⟩ := h
    have k := kk H (Same.refl H)
    clear kk
    refine ⟨_, (C8.pss_cut (ps_if (PW.pt (pw_or (pt_not (pt_val (pe_callB call_isi (by rfl) T.isi PyProof.Rows.boot_isinstance (pa_cons (pv 0) (pa_cons (pe_bltn (v := .ty "str") (by rfl) T.str (by decide +kernel) rfl) pa_nil))))) (pw_or1 (pt_not (pt_chain op_le op_le pe_int (pe_callB call_len_str (by rfl) T.len PySem.boot_len (pa_cons (pv 0) pa_nil)) (pe_glob (v := .int 12) (by rfl) m_MOST_WORD_SIGNS ⟨_, rfl⟩))))))
      (pss_one (ps_ret pe_bl))
      pss_nil)
      (C8.pss_cut (ps_if (PW.pt (pw_or (pt_not (pt_val (pe_m0 PySem.F.slot_str_isascii PySem.F.type_str_isascii mt_isascii (pv 0)))) (pw_or (pt_not (pt_val (pe_m0 PySem.F.slot_str_isalnum PySem.F.type_str_isalnum mt_isalnum (pv 0)))) (pw_or1 (pt_not (pt_val (pe_m0 PySem.F.slot_str_isalpha PySem.F.type_str_isalpha mt_isalpha (pe_ix ix_str (pv 0) pe_int (fun _ _ => rfl)))))))))
      (pss_one (ps_ret pe_bl))
      pss_nil)
      (pss_one (ps_ret (pe_cmpR op_eq (pv 0) (pe_lower (pv 0)) (nomark _)))))), ?_⟩
    refine ⟨fun σ' H' => H' = H ∧ ∃ x : Str, d = .str x ∧ v = .str x ∧ σ' = [some (.str x)] ∧ 1 ≤ x.length ∧ x.length ≤ 12, ?_, ?_⟩
    · refine ⟨_, rfl, v, .ty "str", _, .type "str", isStrY d, rfl, .ty "str", Dp.ty hd, kStrY d (Dp.kinds hd), _, rfl, ?_⟩
      cases d with
      | none => exact iteT k
      | bool _ => exact iteT k
      | int _ => exact iteT k
      | list _ => exact iteT k
      | tuple _ => exact iteT k
      | dict _ => exact nomatch hd
      | str x =>
      cases hd
      replace k : Q (.bl (wordB x)) H := k
      have hx : x.length ≤ 100000 := yo
      refine iteF ?_
      refine ⟨_, rfl, _, rfl, small_of hx, _, _, rfl, rfl, _, rfl, ite2 (fun z1 => ?_) (fun z1 => ?_)⟩
      · have z1 := of_decide_eq_true z1
        refine ⟨_, _, rfl, rfl, _, rfl, ?_⟩
        by_cases h2 : (x.length : Int) ≤ 12
        · rw [decide_eq_true h2]
          exact iteF ⟨rfl, x, rfl, rfl, rfl, by omega, by omega⟩
        · rw [decide_eq_false h2]
          refine iteT ?_
          have e : wordB x = false := by
            unfold wordB
            rw [decide_eq_false (show ¬ x.length ≤ 12 by omega)]
            simp
          rw [e] at k
          exact k
      · have e : wordB x = false := by
          unfold wordB
          rw [decide_eq_false (show ¬ 1 ≤ x.length from fun h => z1 (decide_eq_true (by omega)))]
          rfl
        rw [e] at k
        exact ⟨_, rfl, iteT k⟩
    rintro σ' H' ⟨rfl, x, rfl, rfl, rfl, h1, h2⟩
    replace k : Q (.bl (wordB x)) H' := k
    refine ⟨fun σ' H'' => σ' = [some (.str x)] ∧ H'' = H' ∧ Txt.isascii x = true ∧ Txt.isalnum x = true ∧ Txt.isalpha ⟨#[x.cps.getD 0 0]⟩ = true, ?_, ?_⟩
    · have hc : atI x.cps.toList 0 = some (x.cps.getD 0 0) := by
        have hp : 0 < x.cps.size := h1
        refine atI_nat (j := 0) ?_
        rw [Array.getElem?_toList, Array.getD_eq_getD_getElem?, Array.getElem?_eq_getElem hp]
        rfl
      have no : wordB x = false → Q (.bl false) H' := fun e => by
        rw [e] at k
        exact k
      refine ⟨_, rfl, ⟨_, rfl⟩, _, rfl, rfl, trivial, _, rfl, ?_⟩
      cases e1 : Txt.isascii x with
      | false => exact iteT (no (by unfold wordB; rw [e1]; simp))
      | true =>
        refine iteF ⟨_, rfl, ⟨_, rfl⟩, _, rfl, rfl, trivial, _, rfl, ?_⟩
        cases e2 : Txt.isalnum x with
        | false => exact iteT (no (by unfold wordB; rw [e2]; simp))
        | true =>
          refine iteF ⟨_, rfl, x, 0, _, rfl, rfl, small_of (by omega), hc, ⟨_, rfl⟩, _, rfl, rfl, trivial, _, rfl, ?_⟩
          cases e3 : Txt.isalpha ⟨#[x.cps.getD 0 0]⟩ with
          | false => exact iteT (no (by unfold wordB; rw [e3]; simp))
          | true => exact iteF ⟨rfl, rfl, rfl, rfl, rfl⟩
    rintro σ' H'' ⟨rfl, rfl, e1, e2, e3⟩
    refine ⟨_, rfl, _, rfl, ⟨_, rfl⟩, _, rfl, rfl, Nat.le_trans h2 (by decide), rfl, ?_⟩
    have e : decide (V.str x = V.str (Txt.lower x)) = wordB x := by
      unfold wordB
      rw [e1, e2, e3, decide_eq_true h1, decide_eq_true h2]
      simp [eq_comm]
    rw [e]
    exact k
theorem ok_pathY {f : Addr} {fd : FuncData} (F : Fun K "is_path" "is_path" s_is_path f fd) (T : Glo mg) {t4 : Tok} (m_MOST_PATH_WORDS : mg "MOST_PATH_WORDS" = some (.int 4 t4)) (c_is_word : C8.Cal P w K mg base 1 "is_word" (spX wordY K) []) : FnOk P w K mg base CX0 2 f fd ["value"] (spX pathY K) := by
  refine F.ok sc_is_path (fun vs H Q E h => ?_) (fun cdv A outer s H vs Q E hr h => ?_)
  · obtain ⟨v, d, rfl, _⟩ := h
    rfl
  · obtain ⟨v, d, rfl, hd, yo, k⟩ := h
    refine ⟨_, (pss_cons (ps_if (pt_not (pt_val (pe_callB call_isi (by rfl) T.isi PyProof.Rows.boot_isinstance (pa_cons (pv 0) (pa_cons (pe_bltn (v := .ty "str") (by rfl) T.str (by decide +kernel) rfl) pa_nil)))))
      (pss_one (ps_ret pe_bl))
      pss_nil)
      (pss_cons (ps_set (i := 1) sc_is_path.nd rfl (.inl rfl) (pe_split (pv 0) pe_str))
      (pss_one (ps_ret (pe_and (pe_cmpR op_le (pe_callB call_len_seq (by rfl) T.len PySem.boot_len (pa_cons (pv 1) pa_nil)) (pe_glob (v := .int 4) (by rfl) m_MOST_PATH_WORDS ⟨_, rfl⟩) (nomark _)) (pe_one (pe_callB (cr_all rfl) (by rfl) T.all (by decide +kernel) (pa_cons (pe_lc (own := [("word", 2)]) (g := gName 2) (tt := tYes) rfl sc_is_path.nd (pi_list (pv 1)) (blkOk_by (N := ["value", "words", "word"]) (sc := defScope s_is_path) (by decide +kernel)) (fun _ _ _ _ _ => (pg_name (i := 2) sc_is_path.nd rfl (.inl rfl))) (fun _ _ _ _ _ => pts_nil) (fun _ _ _ _ _ => (C8.pe_c c_is_word hr (by omega) (by rfl) (pa_cons (pv 2) pa_nil)))) pa_nil)))))))), ?_⟩
    refine ⟨_, rfl, v, .ty "str", _, .type "str", isStrY d, rfl, .ty "str", Dp.ty hd, kStrY d (Dp.kinds hd), _, rfl, ?_⟩
    cases d with
    | none => exact iteT (k H (Same.refl H))
    | bool _ => exact iteT (k H (Same.refl H))
    | int _ => exact iteT (k H (Same.refl H))
    | list _ => exact iteT (k H (Same.refl H))
    | tuple _ => exact iteT (k H (Same.refl H))
    | dict _ => exact nomatch hd
    | str x =>
    cases hd
    replace k : ∀ H' : Hp, Same H H' → Q (.bl (pathB x)) H' := k
    have hz : x.length ≤ 100000 := yo
    refine iteF ?_
    refine ⟨_, rfl, ⟨_, rfl⟩, x, "/", rfl, rfl, by decide +kernel, (by rw [sizeLine_eq]; omega), fun p hp => ?_⟩
    have s1 : Same H (upd H p (.lst ((Txt.split x "/").map V.str))) := Same.new hp
    have p1 : upd H p (.lst ((Txt.split x "/").map V.str)) p = some (.lst ((Txt.split x "/").map V.str)) := upd_same
    generalize upd H p (.lst ((Txt.split x "/").map V.str)) = H1 at s1 p1 ⊢
    have sl := PyProof.Rows.split_le x "/"
    refine ⟨_, rfl, p, _, rfl, .inl (SqL.of p1), _, _, rfl, rfl, _, rfl, ?_⟩
    by_cases h4 : (Txt.split x "/").length ≤ 4
    · rw [decide_eq_true (show (((Txt.split x "/").map V.str).length : Int) ≤ 4 by rw [List.length_map]; omega)]
      refine iteT ?_
      refine ⟨_, rfl, p, rfl, ⟨_, SqL.of p1⟩, fun D hD => lc_list (K := K) (xs := (Txt.split x "/").map V.str) (fun i H2 => Same H1 H2 ∧ H2 D = some (.lst ((((Txt.split x "/").take i).map wordB).map V.bl))) ⟨Same.new hD, upd_same⟩ (fun i H2 _ q => SqL.of (q.1 _ _ p1)) ?_ ?_⟩
      · rintro i y H2 hy ⟨s2, e2⟩
        rw [List.getElem?_map] at hy
        obtain ⟨w0, hw0, rfl⟩ := Option.map_eq_some_iff.mp hy
        have hil : i < (Txt.split x "/").length := (List.getElem?_eq_some_iff.mp hw0).1
        refine ⟨rfl, _, rfl, .str w0, .str w0, rfl, .str w0, (show w0.length ≤ 100000 from Nat.le_trans (PyProof.Rows.part_short (List.mem_of_getElem? hw0)) hz), fun H3 s3 => ⟨_, s3 _ _ e2, ?_, Same.mut (fun b o e => s3 b o (s2 b o e)) hD, ?_⟩⟩
        · rw [List.length_map, List.length_map, List.length_take]
          exact small_lt (by omega)
        · rw [upd_same, List.take_add_one, hw0, List.map_append, List.map_append]
          rfl
      · rintro H2 ⟨s2, e2⟩
        rw [List.length_map, List.take_length] at e2
        refine ⟨D, _, rfl, SqL.of e2, ?_⟩
        have e : (((Txt.split x "/").map wordB).all id) = pathB x := by
          unfold pathB
          rw [decide_eq_true h4, Bool.true_and, List.all_map]
          rfl
        rw [e]
        exact k H2 fun b o e => s2 b o (s1 b o e)
    · rw [decide_eq_false (show ¬ (((Txt.split x "/").map V.str).length : Int) ≤ 4 by rw [List.length_map]; omega)]
      refine iteF ?_
      have e : pathB x = false := by
        unfold pathB
        rw [decide_eq_false h4]
        rfl
      have := k H1 s1
      rw [e] at this
      exact this
end
end Kl

namespace Kl
open PySem L2 Kd
/-! versions, needs, packages, edits, files of any data -/
def verY : PyData → Bool
  | .int i => decide (1 ≤ i) && decide (i ≤ 9)
  | _ => false
def leY : PyData → PyData → Bool
  | .int i, .int j => decide (i ≤ j)
  | _, _ => false
def needY (d : PyData) : Bool := match seqY d with | some [a, b, c] => wordY a && (verY b && (verY c && leY b c)) | _ => false
def nameY (d : PyData) : Str := match seqY d with | some (.str x :: _) => x | _ => ""
def needsY (n : Nat) (d : PyData) : Bool := match seqY d with | some ds => decide (ds.length ≤ n) && (ds.all needY && ascB (ds.map nameY)) | none => false
def pkgY (d : PyData) : Bool := match seqY d with | some [a, b, c, e] => wordY a && (verY b && (needsY 4 c && contY e)) | _ => false
def putY (d : PyData) : Bool := PyData.eqv d (.str "put")
def dropY (d : PyData) : Bool := PyData.eqv d (.str "drop")
def changeY (d : PyData) : Bool := match seqY d with | some [a, b, c] => putY a && (pathY b && contY c) | some [a, b] => dropY a && pathY b | _ => false
def keyY (d : PyData) : Str := match seqY d with | some (_ :: .str x :: _) => x | _ => ""
def editY (d : PyData) : Bool := match seqY d with | some ds => ds.all changeY && ascB (ds.map keyY) | none => false
def fileY (d : PyData) : Bool := match seqY d with | some [a, b] => pathY a && contY b | _ => false
def filesY (d : PyData) : Bool := match seqY d with | some ds => decide (ds.length ≤ 60) && (ds.all fileY && ascB (ds.map nameY)) | none => false
def spNeedsY (K : PySem.W.Frag) : Sp := fun vs H Q _ => ∃ (v : V) (d : PyData) (n : Nat), vs = [v, .int n] ∧ Dp K H v d ∧ YOk d ∧ ∀ H' : Hp, Same H H' → Q (.bl (needsY n d)) H'
theorem putY_sh : SeqAt.shaped (.str "put") = true := by decide +kernel
theorem dropY_sh : SeqAt.shaped (.str "drop") = true := by decide +kernel
theorem kIntY {K : PySem.W.Frag} {H : Hp} {d : PyData} {v : V} (h : Dp K H v d) : PySem.W.kitOne K (.type (tyY d)) (.type "int") = some (isIntY d) := by
  cases d with
  | none => exact kOne (a := "NoneType") (b := "int") (r := false) (by decide +kernel)
  | bool _ => exact kOne (a := "bool") (b := "int") (r := true) (by decide +kernel)
  | int _ => exact kOne (a := "int") (b := "int") (r := true) (by decide +kernel)
  | str _ => exact kOne (a := "str") (b := "int") (r := false) (by decide +kernel)
  | list _ => exact kOne (a := "list") (b := "int") (r := false) (by decide +kernel)
  | tuple _ => exact kOne (a := "tuple") (b := "int") (r := false) (by decide +kernel)
  | dict _ => exact nomatch h
/-- [f(x) for x in value] -/
theorem lc_mapY {K : PySem.W.Frag} {J : It} {G : Hp → Prop} {j : Nat} {te : TE} {σ : L2.St} {H1 : Hp} {D : Addr} {Qd : Hp → Prop} {vs : List V} {ds : List PyData} {out : PyData → V} (w : Walk J vs.length G (YAt vs)) (hG : ∀ H' : Hp, Same H1 H' → G H') (al : DpAll K H1 vs ds) (hl : ds.length ≤ 100000) (hD : H1 D = none)
    (hw : ∀ x, wipe ((wipe σ [j]).set j (some x)) [j] = wipe σ [j])
    (he : ∀ (v : V) (d : PyData) (H2 : Hp) (Qv : VK), d ∈ ds → Same H1 H2 → Dp K H2 v d → (∀ H3 : Hp, Same H2 H3 → Qv (out d) H3) → te ((wipe σ [j]).set j (some v)) H2 Qv)
    (hd : ∀ H2 : Hp, Same H1 H2 → H2 D = some (.lst (ds.map out)) → Qd H2) :
    ∃ W : Nat → Nat → Hp → Prop, (∃ m, W 0 m (upd H1 D (.lst []))) ∧ ∀ i m H, W i m H →
      (J.stop i H ∧ Qd H) ∨ (J.go i H ∧ ∃ Nx : Hp → Prop, (∀ H', Nx H' → ∃ m', m' < m ∧ W (i + 1) m' H') ∧ ∀ x H', J.yld i H x H' → gName j x (wipe σ [j]) H' fun σ2 H2 => wipe σ2 [j] = wipe σ [j] ∧ tYes σ2 H2 fun b H3 =>
        if b = true then te σ2 H3 fun y H4 => ∃ acc, H4 D = some (.lst acc) ∧ acc.length < sizeLine ∧ Nx (upd H4 D (.lst (acc ++ [y]))) else Nx H3) := by
  have ln := DpAll.len al
  refine lc_it w (fun i H => Same H1 H ∧ H D = some (.lst ((ds.take i).map out))) ⟨Same.new hD, upd_same⟩ (fun i H _ q => hG H q.1) ?_ ?_
  · rintro i y Hx H hi ⟨s, e⟩ ⟨rfl, hy⟩
    have hil : i < ds.length := by omega
    have hq : ds[i]? = some ds[i] := List.getElem?_eq_getElem hil
    obtain ⟨v, hv, hdp⟩ := DpAll.get al hq
    obtain rfl : v = y := Option.some.inj (hv.symm.trans hy)
    refine ⟨hw _, he v _ H _ (List.getElem_mem hil) s (Dp.same s hdp) fun H3 s3 => ⟨_, s3 _ _ e, ?_, Same.mut (fun b o z => s3 b o (s b o z)) hD, ?_⟩⟩
    · rw [List.length_map, List.length_take, sizeLine_eq]
      omega
    · rw [upd_same, List.take_add_one, hq, List.map_append]
      rfl
  · rintro H ⟨s, e⟩
    rw [ln, List.take_length] at e
    exact hd H s e
theorem seq3 {α : Type} {xs : List α} (h : xs.length = 3) : ∃ a b c, xs = [a, b, c] := by
  match xs, h with
  | [a, b, c], _ => exact ⟨a, b, c, rfl⟩
theorem seq2 {α : Type} {xs : List α} (h : xs.length = 2) : ∃ a b, xs = [a, b] := by
  match xs, h with
  | [a, b], _ => exact ⟨a, b, rfl⟩
theorem seq4 {α : Type} {xs : List α} (h : xs.length = 4) : ∃ a b c d, xs = [a, b, c, d] := by
  match xs, h with
  | [a, b, c, d], _ => exact ⟨a, b, c, d, rfl⟩
/-- a row of so many: what is_row answers, and what is there -/
theorem row_cases {K : PySem.W.Frag} {H H1 : Hp} {v : V} {d : PyData} {n : Nat} {i : Int} (hi : i = (n : Int)) (hd : Dp K H v d) (s1 : Same H H1) : (∃ (ds : List PyData) (a : Addr) (vs : List V), seqY d = some ds ∧ ds.length = n ∧ v = .ref a ∧ SeqY K H1 a vs ∧ DpAll K H1 vs ds ∧ rowI i d = true) ∨ (rowI i d = false ∧ ∀ ds, seqY d = some ds → ds.length ≠ n) := by
  subst hi
  cases e : seqY d with
  | none => exact .inr ⟨by unfold rowI; rw [e], fun _ z => nomatch z⟩
  | some ds =>
    by_cases c : ds.length = n
    · obtain ⟨a, vs, h1, h2, h3⟩ := Dp.seq (Dp.same s1 hd) e
      exact .inl ⟨ds, a, vs, rfl, c, h1, h2, h3, by unfold rowI; rw [e]; exact decide_eq_true (by omega)⟩
    · exact .inr ⟨by unfold rowI; rw [e]; exact decide_eq_false (by omega), fun _ z => by cases z; exact c⟩
section
variable {P : Program} {w : World} {K : PySem.W.Frag} {mg : Str → Option Value} {base : Heap}
abbrev s_is_integer : Stmt := topS 5
theorem sc_is_integer : FnScope ["value"] ["value"] (defScope s_is_integer) := ⟨rfl, rfl, rfl, by decide +kernel, rfl, by decide +kernel, by decide +kernel⟩
theorem ok_integerY {f : Addr} {fd : FuncData} (F : Fun K "is_integer" "is_integer" s_is_integer f fd) (T : Glo mg) : FnOk P w K mg base CX0 1 f fd ["value"] (spY integerY K) := by
  refine F.ok sc_is_integer (fun vs H Q E h => ?_) (fun cdv A outer s H vs Q E hr h => ?_)
  · obtain ⟨v, d, rfl, _⟩ := h
    rfl
  · obtain ⟨v, d, rfl, hd, yo, k⟩ := h
    refine ⟨_, (pss_one (ps_ret (pe_and (pe_callB call_isi (by rfl) T.isi PyProof.Rows.boot_isinstance (pa_cons (pv 0) (pa_cons (pe_bltn (v := .ty "int") (by rfl) T.int PyProof.Rows.boot_int rfl) pa_nil))) (pe_one (pe_not (pe_callB call_isi (by rfl) T.isi PyProof.Rows.boot_isinstance (pa_cons (pv 0) (pa_cons (pe_bltn (v := .ty "bool") (by rfl) T.bool (by decide +kernel) rfl) pa_nil)))))))), ?_⟩
    refine ⟨_, rfl, v, .ty "int", _, .type "int", isIntY d, rfl, .ty "int", Dp.ty hd, kIntY hd, ?_⟩
    cases d with
    | int i => exact ⟨_, rfl, iteT ⟨_, rfl, v, .ty "bool", _, .type "bool", false, rfl, .ty "bool", Dp.ty hd, kOne (a := "int") (b := "bool") (r := false) (by decide +kernel), _, rfl, k H (Same.refl H)⟩⟩
    | bool b => exact ⟨_, rfl, iteT ⟨_, rfl, v, .ty "bool", _, .type "bool", true, rfl, .ty "bool", Dp.ty hd, kOne (a := "bool") (b := "bool") (r := true) (by decide +kernel), _, rfl, k H (Same.refl H)⟩⟩
    | none => exact ⟨_, rfl, iteF (k H (Same.refl H))⟩
    | str _ => exact ⟨_, rfl, iteF (k H (Same.refl H))⟩
    | list _ => exact ⟨_, rfl, iteF (k H (Same.refl H))⟩
    | tuple _ => exact ⟨_, rfl, iteF (k H (Same.refl H))⟩
    | dict _ => exact nomatch hd
abbrev s_is_version : Stmt := topS 22
theorem sc_is_version : FnScope ["value"] ["value"] (defScope s_is_version) := ⟨rfl, rfl, rfl, by decide +kernel, rfl, by decide +kernel, by decide +kernel⟩
theorem ok_versionY {f : Addr} {fd : FuncData} (F : Fun K "is_version" "is_version" s_is_version f fd) {t9 : Tok} (m_MOST_VERSION : mg "MOST_VERSION" = some (.int 9 t9)) (c_is_integer : C8.Cal P w K mg base 1 "is_integer" (spY integerY K) []) : FnOk P w K mg base CX0 2 f fd ["value"] (spY verY K) := by
  refine F.ok sc_is_version (fun vs H Q E h => ?_) (fun cdv A outer s H vs Q E hr h => ?_)
  · obtain ⟨v, d, rfl, _⟩ := h
    rfl
  · obtain ⟨v, d, rfl, hd, yo, k⟩ := h
    refine ⟨_, (pss_one (ps_ret (pe_and (C8.pe_c c_is_integer hr (by omega) (by rfl) (pa_cons (pv 0) pa_nil)) (pe_one (pe_chain op_le op_le pe_int (pv 0) (pe_glob (v := .int 9) (by rfl) m_MOST_VERSION ⟨_, rfl⟩)))))), ?_⟩
    refine ⟨_, rfl, v, d, rfl, hd, yo, fun H1 s1 => ⟨_, rfl, ?_⟩⟩
    have k1 := k H1 s1
    cases d with
    | int i =>
      cases hd
      refine iteT ⟨_, rfl, _, _, rfl, rfl, _, rfl, ?_⟩
      by_cases c : 1 ≤ i
      · rw [decide_eq_true c]
        refine iteT ⟨_, _, rfl, rfl, ?_⟩
        have e : verY (.int i) = decide (i ≤ 9) := by show (decide (1 ≤ i) && decide (i ≤ 9)) = _; rw [decide_eq_true c, Bool.true_and]
        rw [e] at k1
        exact k1
      · rw [decide_eq_false c]
        have e : verY (.int i) = false := by show (decide (1 ≤ i) && decide (i ≤ 9)) = _; rw [decide_eq_false c, Bool.false_and]
        rw [e] at k1
        exact iteF k1
    | bool b => exact iteF k1
    | none => exact iteF k1
    | str _ => exact iteF k1
    | list _ => exact iteF k1
    | tuple _ => exact iteF k1
    | dict _ => exact nomatch hd
end
end Kl

namespace Kl
open PySem L2 Kd
/-! needs, packages, edits, files of any data -/
section
variable {P : Program} {w : World} {K : PySem.W.Frag} {mg : Str → Option Value} {base : Heap}
abbrev s_is_need : Stmt := topS 23
theorem sc_is_need : FnScope ["value"] ["value"] (defScope s_is_need) := ⟨rfl, rfl, rfl, by decide +kernel, rfl, by decide +kernel, by decide +kernel⟩
theorem ok_needY {f : Addr} {fd : FuncData} (F : Fun K "is_need" "is_need" s_is_need f fd) (c_is_row : C8.Cal P w K mg base 2 "is_row" (spRowY K) []) (c_is_word : C8.Cal P w K mg base 1 "is_word" (spX wordY K) []) (c_is_version : C8.Cal P w K mg base 2 "is_version" (spY verY K) []) : FnOk P w K mg base CX0 3 f fd ["value"] (spY needY K) := by
  refine F.ok sc_is_need (fun vs H Q E h => ?_) (fun cdv A outer s H vs Q E hr h => ?_)
  · obtain ⟨v, d, rfl, _⟩ := h
    rfl
  · obtain ⟨v, d, rfl, hd, yo, k⟩ := h
    refine ⟨_, (C8.pss_cut (ps_if (PW.pt (pw_or (pt_not (pt_val (C8.pe_c c_is_row hr (by omega) (by rfl) (pa_cons (pv 0) (pa_cons pe_int pa_nil))))) (pw_or1 (pt_not (pt_val (C8.pe_c c_is_word hr (by omega) (by rfl) (pa_cons (pe_ix (r := rIx K) ix_seq (pv 0) pe_int (fun _ _ => rfl)) pa_nil)))))))
      (pss_one (ps_ret pe_bl))
      pss_nil)
      (pss_one (ps_ret (pe_and (C8.pe_c c_is_version hr (by omega) (by rfl) (pa_cons (pe_ix (r := rIx K) ix_seq (pv 0) pe_int (fun _ _ => rfl)) pa_nil)) (pe_and (C8.pe_c c_is_version hr (by omega) (by rfl) (pa_cons (pe_ix (r := rIx K) ix_seq (pv 0) pe_int (fun _ _ => rfl)) pa_nil)) (pe_one (pe_cmpR op_le (pe_ix (r := rIx K) ix_seq (pv 0) pe_int (fun _ _ => rfl)) (pe_ix (r := rIx K) ix_seq (pv 0) pe_int (fun _ _ => rfl)) (nomark _)))))))), ?_⟩
    refine ⟨fun σ' H' => σ' = [some v] ∧ Same H H' ∧ ∃ a b c, seqY d = some [a, b, c] ∧ wordY a = true, ?_, ?_⟩
    · refine tt_or <| tt_not <| tt_b <| te_call <| ta_cons <| te_v rfl <| ta_cons <| te_c <| ta_nil ⟨v, d, 3, rfl, hd, fun H1 s1 => ⟨_, rfl, ?_⟩⟩
      rcases row_cases (n := 3) (i := 3) rfl hd s1 with ⟨ds, a, vs, e, l3, rfl, sq, al, eb⟩ | ⟨eb, ne⟩
      · rw [eb]
        obtain ⟨x, y, z, rfl⟩ := seq3 l3
        obtain ⟨v0, h0, d0⟩ := DpAll.get (i := 0) al rfl
        refine iteF <| tt_not <| tt_b <| te_call <| ta_cons <| te_op <| te_v rfl <| te_c <| ixY sq (atI_nat (j := 0) h0) <| ta_nil ⟨v0, x, rfl, d0, (yo.mem e (by simp)).lenY, fun H2 s2 => ⟨_, rfl, ?_⟩⟩
        cases ew : wordY x with
        | true => exact iteF ⟨rfl, fun b o z => s2 b o (s1 b o z), _, _, _, e, ew⟩
        | false =>
          refine iteT ?_
          have := k H2 fun b o z => s2 b o (s1 b o z)
          rw [show needY d = false by unfold needY; rw [e]; simp only [ew, Bool.false_and]] at this
          exact st_ret (te_c this)
      · rw [eb]
        refine iteT ?_
        have := k H1 s1
        rw [show needY d = false by
          unfold needY
          cases e : seqY d with
          | none => rfl
          | some ds =>
            match ds, ne ds e with
            | [], _ => rfl
            | [_], _ => rfl
            | [_, _], _ => rfl
            | _ :: _ :: _ :: _ :: _, _ => rfl
            | [_, _, _], z => exact absurd rfl z] at this
        exact st_ret (te_c this)
    rintro σ' H1 ⟨rfl, s1, x, y, z, e, ew⟩
    obtain ⟨a, vs, rfl, sq, al⟩ := Dp.seq (Dp.same s1 hd) e
    obtain ⟨v1, h1, d1⟩ := DpAll.get (i := 1) al rfl
    obtain ⟨v2, h2, d2⟩ := DpAll.get (i := 2) al rfl
    have ed : needY d = (verY y && (verY z && leY y z)) := by
      unfold needY
      rw [e]
      simp only [ew, Bool.true_and]
    refine st_ret <| te_andv <| te_call <| ta_cons <| te_op <| te_v rfl <| te_c <| ixY sq (atI_nat (j := 1) h1) <| ta_nil ⟨v1, y, rfl, d1, yo.mem e (by simp), fun H2 s2 => ⟨_, rfl, ?_⟩⟩
    have s02 : Same H H2 := fun b o z => s2 b o (s1 b o z)
    cases vy : verY y with
    | false =>
      refine iteF ?_
      have := k H2 s02
      rw [ed, vy, Bool.false_and] at this
      exact this
    | true =>
      refine iteT <| te_andv <| te_call <| ta_cons <| te_op <| te_v rfl <| te_c <| ixY (SeqY.same s2 sq) (atI_nat (j := 2) h2) <| ta_nil ⟨v2, z, rfl, Dp.same s2 d2, yo.mem e (by simp), fun H3 s3 => ⟨_, rfl, ?_⟩⟩
      have s03 : Same H H3 := fun b o z => s3 b o (s02 b o z)
      have s13 : Same H1 H3 := fun b o z => s3 b o (s2 b o z)
      cases vz : verY z with
      | false =>
        refine iteF ?_
        have := k H3 s03
        rw [ed, vy, vz, Bool.false_and, Bool.and_false] at this
        exact this
      | true =>
        have := k H3 s03
        rw [ed, vy, vz, Bool.true_and, Bool.true_and] at this
        cases y with
        | int i =>
          cases z with
          | int j =>
            cases d1
            cases d2
            exact iteT <| te_op <| te_op <| te_v rfl <| te_c <| ixY (SeqY.same s13 sq) (atI_nat (j := 1) h1) <| te_op <| te_v rfl <| te_c <| ixY (SeqY.same s13 sq) (atI_nat (j := 2) h2) ⟨_, _, rfl, rfl, this⟩
          | bool _ => cases vz
          | none => cases vz
          | str _ => cases vz
          | list _ => cases vz
          | tuple _ => cases vz
          | dict _ => cases vz
        | bool _ => cases vy
        | none => cases vy
        | str _ => cases vy
        | list _ => cases vy
        | tuple _ => cases vy
        | dict _ => cases vy
abbrev s_is_needs : Stmt := topS 24
theorem sc_is_needs : FnScope ["value", "most", "need"] ["value", "most"] (defScope s_is_needs) := ⟨rfl, rfl, rfl, by decide +kernel, rfl, by decide +kernel, by decide +kernel⟩
theorem need_name {d : PyData} (h : needY d = true) : ∃ x r, seqY d = some (.str x :: r) ∧ wordB x = true := by
  unfold needY at h
  split at h
  · rename_i a b c e
    rw [Bool.and_eq_true] at h
    cases a with
    | str x => exact ⟨x, _, e, h.1⟩
    | none => cases h.1
    | bool _ => cases h.1
    | int _ => cases h.1
    | list _ => cases h.1
    | tuple _ => cases h.1
    | dict _ => cases h.1
  · cases h
theorem ok_needsY {f : Addr} {fd : FuncData} (F : Fun K "is_needs" "is_needs" s_is_needs f fd) (T : Glo mg) (c_is_sequence : C8.Cal P w K mg base 1 "is_sequence" (spSeqY K) []) (c_is_need : C8.Cal P w K mg base 3 "is_need" (spY needY K) []) (c_is_ascending : C8.Cal P w K mg base 1 "is_ascending" (spAscY K) []) : FnOk P w K mg base CX0 4 f fd ["value", "most"] (spNeedsY K) := by
  refine F.ok sc_is_needs (fun vs H Q E h => ?_) (fun cdv A outer s H vs Q E hr h => ?_)
  · obtain ⟨v, d, n, rfl, _⟩ := h
    rfl
  · obtain ⟨v, d, n, rfl, hd, yo, k⟩ := h
    refine ⟨_, (C8.pss_cut (ps_if (PW.pt (pw_or (pt_not (pt_val (C8.pe_c c_is_sequence hr (by omega) (by rfl) (pa_cons (pv 0) pa_nil)))) (pw_or1 (pt_cmpR op_gt (pe_callB call_len_seq (by rfl) T.len PySem.boot_len (pa_cons (pv 0) pa_nil)) (pv 1) (nomark _)))))
      (pss_one (ps_ret pe_bl))
      pss_nil)
      (pss_cons (ps_if (pt_not (pt_val (pe_callB (cr_all rfl) (by rfl) T.all (by decide +kernel) (pa_cons (pe_lc (own := [("need", 2)]) (g := gName 2) (tt := tYes) rfl sc_is_needs.nd (pi_seq (pv 0)) (blkOk_by (N := ["value", "most", "need"]) (sc := defScope s_is_needs) (by decide +kernel)) (fun _ _ _ _ _ => (pg_name (i := 2) sc_is_needs.nd rfl (.inl rfl))) (fun _ _ _ _ _ => pts_nil) (fun _ _ _ _ _ => (C8.pe_c c_is_need hr (by omega) (by rfl) (pa_cons (pv 2) pa_nil)))) pa_nil))))
      (pss_one (ps_ret pe_bl))
      pss_nil)
      (pss_one (ps_ret (C8.pe_c c_is_ascending hr (by omega) (by rfl) (pa_cons (pe_lc (own := [("need", 2)]) (g := gName 2) (tt := tYes) rfl sc_is_needs.nd (pi_seq (pv 0)) (blkOk_by (N := ["value", "most", "need"]) (sc := defScope s_is_needs) (by decide +kernel)) (fun _ _ _ _ _ => (pg_name (i := 2) sc_is_needs.nd rfl (.inl rfl))) (fun _ _ _ _ _ => pts_nil) (fun _ _ _ _ _ => (pe_ix (r := rIx K) ix_seq (pv 2) pe_int (fun _ _ => rfl)))) pa_nil)))))), ?_⟩
    refine ⟨fun σ' H' => σ' = [some v, some (.int (n : Int)), none] ∧ Same H H' ∧ ∃ ds, seqY d = some ds ∧ ds.length ≤ n, ?_, ?_⟩
    · refine tt_or <| tt_not <| tt_b <| te_call <| ta_cons <| te_v rfl <| ta_nil ⟨v, d, rfl, hd, fun H1 s1 => ⟨_, rfl, ?_⟩⟩
      cases e : seqY d with
      | none =>
        refine iteT ?_
        have := k H1 s1
        rw [show needsY n d = false by unfold needsY; rw [e]] at this
        exact st_ret (te_c this)
      | some ds =>
        obtain ⟨a, vs, rfl, sq, al⟩ := Dp.seq (Dp.same s1 hd) e
        refine iteF <| tt_b <| te_op <| te_cb <| ta_cons <| te_v rfl <| ta_nil ⟨a, vs, rfl, sq, te_v rfl ⟨_, _, rfl, rfl, _, rfl, ?_⟩⟩
        rw [DpAll.len al]
        by_cases c : ds.length ≤ n
        · rw [decide_eq_false (show ¬ ((n : Nat) : Int) < (ds.length : Int) by omega)]
          exact iteF ⟨rfl, s1, ds, rfl, c⟩
        · rw [decide_eq_true (show ((n : Nat) : Int) < (ds.length : Int) by omega)]
          refine iteT ?_
          have := k H1 s1
          rw [show needsY n d = false by unfold needsY; rw [e]; simp only [decide_eq_false c, Bool.false_and]] at this
          exact st_ret (te_c this)
    rintro σ' H1 ⟨rfl, s1, ds, e, hl⟩
    obtain ⟨a, vs, rfl, sq, al⟩ := Dp.seq (Dp.same s1 hd) e
    have yl := yo.len e
    have ed : needsY n d = (ds.all needY && ascB (ds.map nameY)) := by
      unfold needsY
      rw [e]
      simp only [decide_eq_true hl, Bool.true_and]
    refine st_seq <| st_if <| tt_not <| tt_b <| te_cb <| ta_cons <| te_lc ?_
    refine seqY_walk sq (fun Q q => ⟨_, rfl, q⟩) fun J G wk hG D hD => lc_mapY (out := fun d => .bl (needY d)) wk hG al yl hD (fun _ => rfl) (fun v d H2 Qv m s2 h2 q => ?_) fun H2 s2 e2 => ?_
    · exact te_call <| ta_cons <| te_v rfl <| ta_nil ⟨v, d, rfl, h2, yo.mem e m, q⟩
    have s02 : Same H H2 := fun b o z => s2 b o (s1 b o z)
    rw [show ds.map (fun d => V.bl (needY d)) = (ds.map needY).map V.bl by rw [List.map_map]; rfl] at e2
    refine ta_nil ⟨D, _, rfl, SqL.of e2, _, rfl, ?_⟩
    rw [show ((ds.map needY).all id) = ds.all needY by rw [List.all_map]; rfl]
    cases an : ds.all needY with
    | false =>
      refine iteT ?_
      have := k H2 s02
      rw [ed, an, Bool.false_and] at this
      exact st_ret (te_c this)
    | true =>
      refine iteF (st_next ?_)
      dsimp only
      have sq2 := SeqY.same s2 sq
      have al2 := DpAll.same s2 al
      rw [List.all_eq_true] at an
      refine st_ret <| te_call <| ta_cons <| te_lc ?_
      refine seqY_walk sq2 (fun Q q => ⟨_, rfl, q⟩) fun J G wk hG D2 hD2 => lc_mapY (out := fun d => .str (nameY d)) wk hG al2 yl hD2 (fun _ => rfl) (fun v d H3 Qv m s3 h3 q => ?_) fun H3 s3 e3 => ?_
      · obtain ⟨x, r, ex, _⟩ := need_name (an d m)
        obtain ⟨a3, vs3, rfl, sq3, al3⟩ := Dp.seq h3 ex
        obtain ⟨v0, h0, d0⟩ := DpAll.get (i := 0) al3 rfl
        cases d0
        have := q H3 (Same.refl _)
        rw [show nameY d = x by unfold nameY; rw [ex]] at this
        exact te_op <| te_v rfl <| te_c <| ixY sq3 (atI_nat (j := 0) h0) this
      rw [show ds.map (fun d => V.str (nameY d)) = (ds.map nameY).map V.str by rw [List.map_map]; rfl] at e3
      refine ta_nil ⟨D2, ds.map nameY, rfl, e3, by rw [List.length_map]; exact yl, fun H4 s4 => ?_⟩
      have := k H4 fun b o z => s4 b o (s3 b o (s02 b o z))
      rw [ed, List.all_eq_true.mpr an, Bool.true_and] at this
      exact this
end
end Kl

namespace Kl
open PySem L2 Kd
/-! packages, edits, files of any data -/
section
variable {P : Program} {w : World} {K : PySem.W.Frag} {mg : Str → Option Value} {base : Heap}
abbrev s_is_package : Stmt := topS 25
theorem sc_is_package : FnScope ["value"] ["value"] (defScope s_is_package) := ⟨rfl, rfl, rfl, by decide +kernel, rfl, by decide +kernel, by decide +kernel⟩
theorem ok_pkgY {f : Addr} {fd : FuncData} (F : Fun K "is_package" "is_package" s_is_package f fd) {t4 : Tok} (m_MOST_NEEDS : mg "MOST_NEEDS" = some (.int 4 t4)) (c_is_row : C8.Cal P w K mg base 2 "is_row" (spRowY K) []) (c_is_word : C8.Cal P w K mg base 1 "is_word" (spX wordY K) []) (c_is_version : C8.Cal P w K mg base 2 "is_version" (spY verY K) [])
    (c_is_needs : C8.Cal P w K mg base 4 "is_needs" (spNeedsY K) []) (c_is_content : C8.Cal P w K mg base 3 "is_content" (spY contY K) []) : FnOk P w K mg base CX0 5 f fd ["value"] (spY pkgY K) := by
  refine F.ok sc_is_package (fun vs H Q E h => ?_) (fun cdv A outer s H vs Q E hr h => ?_)
  · obtain ⟨v, d, rfl, _⟩ := h
    rfl
  · obtain ⟨v, d, rfl, hd, yo, k⟩ := h
    refine ⟨_, (C8.pss_cut (ps_if (PW.pt (pw_or (pt_not (pt_val (C8.pe_c c_is_row hr (by omega) (by rfl) (pa_cons (pv 0) (pa_cons pe_int pa_nil))))) (pw_or (pt_not (pt_val (C8.pe_c c_is_word hr (by omega) (by rfl) (pa_cons (pe_ix (r := rIx K) ix_seq (pv 0) pe_int (fun _ _ => rfl)) pa_nil)))) (pw_or1 (pt_not (pt_val (C8.pe_c c_is_version hr (by omega) (by rfl) (pa_cons (pe_ix (r := rIx K) ix_seq (pv 0) pe_int (fun _ _ => rfl)) pa_nil))))))))
      (pss_one (ps_ret pe_bl))
      pss_nil)
      (pss_one (ps_ret (pe_and (C8.pe_c c_is_needs hr (by omega) (by rfl) (pa_cons (pe_ix (r := rIx K) ix_seq (pv 0) pe_int (fun _ _ => rfl)) (pa_cons (pe_glob (v := .int 4) (by rfl) m_MOST_NEEDS ⟨_, rfl⟩) pa_nil))) (pe_one (C8.pe_c c_is_content hr (by omega) (by rfl) (pa_cons (pe_ix (r := rIx K) ix_seq (pv 0) pe_int (fun _ _ => rfl)) pa_nil))))))), ?_⟩
    have no4 : (∀ ds, seqY d = some ds → ds.length ≠ 4) → pkgY d = false := fun ne => by
      unfold pkgY
      cases e : seqY d with
      | none => rfl
      | some ds =>
        match ds, ne ds e with
        | [], _ => rfl
        | [_], _ => rfl
        | [_, _], _ => rfl
        | [_, _, _], _ => rfl
        | _ :: _ :: _ :: _ :: _ :: _, _ => rfl
        | [_, _, _, _], z => exact absurd rfl z
    refine ⟨fun σ' H' => σ' = [some v] ∧ Same H H' ∧ ∃ a b c u, seqY d = some [a, b, c, u] ∧ wordY a = true ∧ verY b = true, ?_, ?_⟩
    · refine tt_or <| tt_not <| tt_b <| te_call <| ta_cons <| te_v rfl <| ta_cons <| te_c <| ta_nil ⟨v, d, 4, rfl, hd, fun H1 s1 => ⟨_, rfl, ?_⟩⟩
      rcases row_cases (n := 4) (i := 4) rfl hd s1 with ⟨ds, a, vs, e, l4, rfl, sq, al, eb⟩ | ⟨eb, ne⟩
      · rw [eb]
        obtain ⟨x, y, z, u, rfl⟩ := seq4 l4
        obtain ⟨v0, h0, d0⟩ := DpAll.get (i := 0) al rfl
        obtain ⟨v1, h1, d1⟩ := DpAll.get (i := 1) al rfl
        refine iteF <| tt_or <| tt_not <| tt_b <| te_call <| ta_cons <| te_op <| te_v rfl <| te_c <| ixY sq (atI_nat (j := 0) h0) <| ta_nil ⟨v0, x, rfl, d0, (yo.mem e (by simp)).lenY, fun H2 s2 => ⟨_, rfl, ?_⟩⟩
        cases ew : wordY x with
        | true =>
          refine iteF <| tt_not <| tt_b <| te_call <| ta_cons <| te_op <| te_v rfl <| te_c <| ixY (SeqY.same s2 sq) (atI_nat (j := 1) h1) <| ta_nil ⟨v1, y, rfl, Dp.same s2 d1, yo.mem e (by simp), fun H3 s3 => ⟨_, rfl, ?_⟩⟩
          have s03 : Same H H3 := fun b o z => s3 b o (s2 b o (s1 b o z))
          cases ev : verY y with
          | true => exact iteF ⟨rfl, s03, _, _, _, _, e, ew, ev⟩
          | false =>
            refine iteT ?_
            have := k H3 s03
            rw [show pkgY d = false by unfold pkgY; rw [e]; simp only [ew, ev, Bool.false_and, Bool.and_false]] at this
            exact st_ret (te_c this)
        | false =>
          refine iteT ?_
          have := k H2 fun b o z => s2 b o (s1 b o z)
          rw [show pkgY d = false by unfold pkgY; rw [e]; simp only [ew, Bool.false_and]] at this
          exact st_ret (te_c this)
      · rw [eb]
        refine iteT ?_
        have := k H1 s1
        rw [no4 ne] at this
        exact st_ret (te_c this)
    rintro σ' H1 ⟨rfl, s1, x, y, z, u, e, ew, ev⟩
    obtain ⟨a, vs, rfl, sq, al⟩ := Dp.seq (Dp.same s1 hd) e
    obtain ⟨v2, h2, d2⟩ := DpAll.get (i := 2) al rfl
    obtain ⟨v3, h3, d3⟩ := DpAll.get (i := 3) al rfl
    have ed : pkgY d = (needsY 4 z && contY u) := by
      unfold pkgY
      rw [e]
      simp only [ew, ev, Bool.true_and]
    refine st_ret <| te_andv <| te_call <| ta_cons <| te_op <| te_v rfl <| te_c <| ixY sq (atI_nat (j := 2) h2) <| ta_cons <| te_c <| ta_nil ⟨v2, z, 4, rfl, d2, yo.mem e (by simp), fun H2 s2 => ⟨_, rfl, ?_⟩⟩
    have s02 : Same H H2 := fun b o z => s2 b o (s1 b o z)
    cases vz : needsY 4 z with
    | false =>
      refine iteF ?_
      have := k H2 s02
      rw [ed, vz, Bool.false_and] at this
      exact this
    | true =>
      refine iteT <| te_call <| ta_cons <| te_op <| te_v rfl <| te_c <| ixY (SeqY.same s2 sq) (atI_nat (j := 3) h3) <| ta_nil ⟨v3, u, rfl, Dp.same s2 d3, yo.mem e (by simp), fun H3 s3 => ?_⟩
      have := k H3 fun b o z => s3 b o (s02 b o z)
      rw [ed, vz, Bool.true_and] at this
      exact this
abbrev s_is_change : Stmt := topS 32
theorem sc_is_change : FnScope ["value"] ["value"] (defScope s_is_change) := ⟨rfl, rfl, rfl, by decide +kernel, rfl, by decide +kernel, by decide +kernel⟩
theorem ok_changeY {f : Addr} {fd : FuncData} (F : Fun K "is_change" "is_change" s_is_change f fd) (c_is_row : C8.Cal P w K mg base 2 "is_row" (spRowY K) []) (c_is_path : C8.Cal P w K mg base 2 "is_path" (spX pathY K) []) (c_is_content : C8.Cal P w K mg base 3 "is_content" (spY contY K) []) : FnOk P w K mg base CX0 4 f fd ["value"] (spY changeY K) := by
  refine F.ok sc_is_change (fun vs H Q E h => ?_) (fun cdv A outer s H vs Q E hr h => ?_)
  · obtain ⟨v, d, rfl, _⟩ := h
    rfl
  · obtain ⟨v, d, rfl, hd, yo, k⟩ := h
    refine ⟨_, (C8.pss_cut (ps_if (PW.pt (pw_and (pt_val (C8.pe_c c_is_row hr (by omega) (by rfl) (pa_cons (pv 0) (pa_cons pe_int pa_nil)))) (pw_and1 (pt_cmpR (op_eqD hr.units) (pe_ix (r := rIx K) ix_seq (pv 0) pe_int (fun _ _ => rfl)) pe_str (nomark _)))))
      (pss_one (ps_ret (pe_and (C8.pe_c c_is_path hr (by omega) (by rfl) (pa_cons (pe_ix (r := rIx K) ix_seq (pv 0) pe_int (fun _ _ => rfl)) pa_nil)) (pe_one (C8.pe_c c_is_content hr (by omega) (by rfl) (pa_cons (pe_ix (r := rIx K) ix_seq (pv 0) pe_int (fun _ _ => rfl)) pa_nil))))))
      pss_nil)
      (pss_one (ps_ret (pe_and (C8.pe_c c_is_row hr (by omega) (by rfl) (pa_cons (pv 0) (pa_cons pe_int pa_nil))) (pe_and (pe_cmpR (op_eqD hr.units) (pe_ix (r := rIx K) ix_seq (pv 0) pe_int (fun _ _ => rfl)) pe_str (nomark _)) (pe_one (C8.pe_c c_is_path hr (by omega) (by rfl) (pa_cons (pe_ix (r := rIx K) ix_seq (pv 0) pe_int (fun _ _ => rfl)) pa_nil)))))))), ?_⟩
    refine ⟨fun σ' H' => σ' = [some v] ∧ Same H H' ∧ ∀ a b c, seqY d = some [a, b, c] → putY a = false, ?_, ?_⟩
    · refine tt_and <| tt_b <| te_call <| ta_cons <| te_v rfl <| ta_cons <| te_c <| ta_nil ⟨v, d, 3, rfl, hd, fun H1 s1 => ⟨_, rfl, ?_⟩⟩
      rcases row_cases (n := 3) (i := 3) rfl hd s1 with ⟨ds, a, vs, e, l3, rfl, sq, al, eb⟩ | ⟨eb, ne⟩
      · rw [eb]
        obtain ⟨x, y, z, rfl⟩ := seq3 l3
        obtain ⟨v0, h0, d0⟩ := DpAll.get (i := 0) al rfl
        obtain ⟨v1, h1, d1⟩ := DpAll.get (i := 1) al rfl
        obtain ⟨v2, h2, d2⟩ := DpAll.get (i := 2) al rfl
        refine iteT <| tt_b <| te_op <| te_op <| te_v rfl <| te_c <| ixY sq (atI_nat (j := 0) h0) <| te_c ⟨x, .str "put", d0, .str _, (yo.mem e (by simp)).shaped, putY_sh, _, rfl, ?_⟩
        cases ep : PyData.eqv x (.str "put") with
        | false =>
          refine iteF ⟨rfl, s1, fun a b c z => ?_⟩
          rw [e] at z
          cases z
          exact ep
        | true =>
          have ed : changeY d = (pathY y && contY z) := by
            unfold changeY
            rw [e]
            show (putY x && _) = _
            rw [show putY x = true from ep, Bool.true_and]
          refine iteT <| st_ret <| te_andv <| te_call <| ta_cons <| te_op <| te_v rfl <| te_c <| ixY sq (atI_nat (j := 1) h1) <| ta_nil ⟨v1, y, rfl, d1, (yo.mem e (by simp)).lenY, fun H2 s2 => ⟨_, rfl, ?_⟩⟩
          have s02 : Same H H2 := fun b o z => s2 b o (s1 b o z)
          cases py : pathY y with
          | false =>
            refine iteF ?_
            have := k H2 s02
            rw [ed, py, Bool.false_and] at this
            exact this
          | true =>
            refine iteT <| te_call <| ta_cons <| te_op <| te_v rfl <| te_c <| ixY (SeqY.same s2 sq) (atI_nat (j := 2) h2) <| ta_nil ⟨v2, z, rfl, Dp.same s2 d2, yo.mem e (by simp), fun H3 s3 => ?_⟩
            have := k H3 fun b o z => s3 b o (s02 b o z)
            rw [ed, py, Bool.true_and] at this
            exact this
      · rw [eb]
        exact iteF <| iteF ⟨rfl, s1, fun a b c z => absurd rfl (ne _ z)⟩
    rintro σ' H1 ⟨rfl, s1, np⟩
    refine st_ret <| te_andv <| te_call <| ta_cons <| te_v rfl <| ta_cons <| te_c <| ta_nil ⟨v, d, 2, rfl, Dp.same s1 hd, fun H2 s2 => ⟨_, rfl, ?_⟩⟩
    have s02 : Same H H2 := fun b o z => s2 b o (s1 b o z)
    rcases row_cases (n := 2) (i := 2) rfl hd s02 with ⟨ds, a, vs, e, l2, rfl, sq, al, eb⟩ | ⟨eb, ne⟩
    · rw [eb]
      obtain ⟨x, y, rfl⟩ := seq2 l2
      obtain ⟨v0, h0, d0⟩ := DpAll.get (i := 0) al rfl
      obtain ⟨v1, h1, d1⟩ := DpAll.get (i := 1) al rfl
      have ed : changeY d = (dropY x && pathY y) := by
        unfold changeY
        rw [e]
      refine iteT <| te_andv <| te_op <| te_op <| te_v rfl <| te_c <| ixY sq (atI_nat (j := 0) h0) <| te_c ⟨x, .str "drop", d0, .str _, (yo.mem e (by simp)).shaped, dropY_sh, _, rfl, ?_⟩
      cases ep : PyData.eqv x (.str "drop") with
      | false =>
        refine iteF ?_
        have := k H2 s02
        rw [ed, show dropY x = false from ep, Bool.false_and] at this
        exact this
      | true =>
        refine iteT <| te_call <| ta_cons <| te_op <| te_v rfl <| te_c <| ixY sq (atI_nat (j := 1) h1) <| ta_nil ⟨v1, y, rfl, d1, (yo.mem e (by simp)).lenY, fun H3 s3 => ?_⟩
        have := k H3 fun b o z => s3 b o (s02 b o z)
        rw [ed, show dropY x = true from ep, Bool.true_and] at this
        exact this
    · rw [eb]
      refine iteF ?_
      have := k H2 s02
      rw [show changeY d = false by
        unfold changeY
        cases e : seqY d with
        | none => rfl
        | some ds =>
          match ds, ne ds e, e with
          | [], _, _ => rfl
          | [_], _, _ => rfl
          | [_, _], z, _ => exact absurd rfl z
          | [x, y, z], _, e =>
            show (putY x && _) = false
            rw [np x y z e, Bool.false_and]
          | _ :: _ :: _ :: _ :: _, _, _ => rfl] at this
      exact this
abbrev s_is_edit : Stmt := topS 33
theorem sc_is_edit : FnScope ["value", "change"] ["value"] (defScope s_is_edit) := ⟨rfl, rfl, rfl, by decide +kernel, rfl, by decide +kernel, by decide +kernel⟩
theorem change_key {d : PyData} (h : changeY d = true) : ∃ u x r, seqY d = some (u :: .str x :: r) ∧ pathB x = true := by
  unfold changeY at h
  split at h
  · rename_i a b c e
    rw [Bool.and_eq_true, Bool.and_eq_true] at h
    cases b with
    | str x => exact ⟨_, x, _, e, h.2.1⟩
    | none => cases h.2.1
    | bool _ => cases h.2.1
    | int _ => cases h.2.1
    | list _ => cases h.2.1
    | tuple _ => cases h.2.1
    | dict _ => cases h.2.1
  · rename_i a b e
    rw [Bool.and_eq_true] at h
    cases b with
    | str x => exact ⟨_, x, _, e, h.2⟩
    | none => cases h.2
    | bool _ => cases h.2
    | int _ => cases h.2
    | list _ => cases h.2
    | tuple _ => cases h.2
    | dict _ => cases h.2
  · cases h
theorem ok_editY {f : Addr} {fd : FuncData} (F : Fun K "is_edit" "is_edit" s_is_edit f fd) (T : Glo mg) (c_is_sequence : C8.Cal P w K mg base 1 "is_sequence" (spSeqY K) []) (c_is_change : C8.Cal P w K mg base 4 "is_change" (spY changeY K) []) (c_is_ascending : C8.Cal P w K mg base 1 "is_ascending" (spAscY K) []) : FnOk P w K mg base CX0 5 f fd ["value"] (spY editY K) := by
  refine F.ok sc_is_edit (fun vs H Q E h => ?_) (fun cdv A outer s H vs Q E hr h => ?_)
  · obtain ⟨v, d, rfl, _⟩ := h
    rfl
  · obtain ⟨v, d, rfl, hd, yo, k⟩ := h
    refine ⟨_, (C8.pss_cut (ps_if (PW.pt (pw_or (pt_not (pt_val (C8.pe_c c_is_sequence hr (by omega) (by rfl) (pa_cons (pv 0) pa_nil)))) (pw_or1 (pt_not (pt_val (pe_callB (cr_all rfl) (by rfl) T.all (by decide +kernel) (pa_cons (pe_lc (own := [("change", 1)]) (g := gName 1) (tt := tYes) rfl sc_is_edit.nd (pi_seq (pv 0)) (blkOk_by (N := ["value", "change"]) (sc := defScope s_is_edit) (by decide +kernel)) (fun _ _ _ _ _ => (pg_name (i := 1) sc_is_edit.nd rfl (.inl rfl))) (fun _ _ _ _ _ => pts_nil) (fun _ _ _ _ _ => (C8.pe_c c_is_change hr (by omega) (by rfl) (pa_cons (pv 1) pa_nil)))) pa_nil)))))))
      (pss_one (ps_ret pe_bl))
      pss_nil)
      (pss_one (ps_ret (C8.pe_c c_is_ascending hr (by omega) (by rfl) (pa_cons (pe_lc (own := [("change", 1)]) (g := gName 1) (tt := tYes) rfl sc_is_edit.nd (pi_seq (pv 0)) (blkOk_by (N := ["value", "change"]) (sc := defScope s_is_edit) (by decide +kernel)) (fun _ _ _ _ _ => (pg_name (i := 1) sc_is_edit.nd rfl (.inl rfl))) (fun _ _ _ _ _ => pts_nil) (fun _ _ _ _ _ => (pe_ix (r := rIx K) ix_seq (pv 1) pe_int (fun _ _ => rfl)))) pa_nil))))), ?_⟩
    refine ⟨fun σ' H' => σ' = [some v, none] ∧ Same H H' ∧ ∃ ds, seqY d = some ds ∧ ds.all changeY = true, ?_, ?_⟩
    · refine tt_or <| tt_not <| tt_b <| te_call <| ta_cons <| te_v rfl <| ta_nil ⟨v, d, rfl, hd, fun H1 s1 => ⟨_, rfl, ?_⟩⟩
      cases e : seqY d with
      | none =>
        refine iteT ?_
        have := k H1 s1
        rw [show editY d = false by unfold editY; rw [e]] at this
        exact st_ret (te_c this)
      | some ds =>
        obtain ⟨a, vs, rfl, sq, al⟩ := Dp.seq (Dp.same s1 hd) e
        have yl := yo.len e
        refine iteF <| tt_not <| tt_b <| te_cb <| ta_cons <| te_lc ?_
        refine seqY_walk sq (fun Q q => ⟨_, rfl, q⟩) fun J G wk hG D hD => lc_mapY (out := fun d => .bl (changeY d)) wk hG al yl hD (fun _ => rfl) (fun v d H2 Qv m s2 h2 q => ?_) fun H2 s2 e2 => ?_
        · exact te_call <| ta_cons <| te_v rfl <| ta_nil ⟨v, d, rfl, h2, yo.mem e m, q⟩
        have s02 : Same H H2 := fun b o z => s2 b o (s1 b o z)
        rw [show ds.map (fun d => V.bl (changeY d)) = (ds.map changeY).map V.bl by rw [List.map_map]; rfl] at e2
        refine ta_nil ⟨D, _, rfl, SqL.of e2, _, rfl, ?_⟩
        rw [show ((ds.map changeY).all id) = ds.all changeY by rw [List.all_map]; rfl]
        cases an : ds.all changeY with
        | false =>
          refine iteT ?_
          have := k H2 s02
          rw [show editY d = false by unfold editY; rw [e]; simp only [an, Bool.false_and]] at this
          exact st_ret (te_c this)
        | true => exact iteF ⟨rfl, s02, ds, rfl, an⟩
    rintro σ' H1 ⟨rfl, s1, ds, e, an⟩
    obtain ⟨a, vs, rfl, sq, al⟩ := Dp.seq (Dp.same s1 hd) e
    have yl := yo.len e
    have ed : editY d = ascB (ds.map keyY) := by
      unfold editY
      rw [e]
      simp only [an, Bool.true_and]
    rw [List.all_eq_true] at an
    refine st_ret <| te_call <| ta_cons <| te_lc ?_
    refine seqY_walk sq (fun Q q => ⟨_, rfl, q⟩) fun J G wk hG D2 hD2 => lc_mapY (out := fun d => .str (keyY d)) wk hG al yl hD2 (fun _ => rfl) (fun v d H3 Qv m s3 h3 q => ?_) fun H3 s3 e3 => ?_
    · obtain ⟨u, x, r, ex, _⟩ := change_key (an d m)
      obtain ⟨a3, vs3, rfl, sq3, al3⟩ := Dp.seq h3 ex
      obtain ⟨v0, h0, d0⟩ := DpAll.get (i := 1) al3 rfl
      cases d0
      have := q H3 (Same.refl _)
      rw [show keyY d = x by unfold keyY; rw [ex]] at this
      exact te_op <| te_v rfl <| te_c <| ixY sq3 (atI_nat (j := 1) h0) this
    rw [show ds.map (fun d => V.str (keyY d)) = (ds.map keyY).map V.str by rw [List.map_map]; rfl] at e3
    refine ta_nil ⟨D2, ds.map keyY, rfl, e3, by rw [List.length_map]; exact yl, fun H4 s4 => ?_⟩
    have := k H4 fun b o z => s4 b o (s3 b o (s1 b o z))
    rw [ed] at this
    exact this
abbrev s_is_files : Stmt := topS 31
theorem sc_is_files : FnScope ["value", "pair"] ["value"] (defScope s_is_files) := ⟨rfl, rfl, rfl, by decide +kernel, rfl, by decide +kernel, by decide +kernel⟩
theorem file_name {d : PyData} (h : fileY d = true) : ∃ x r, seqY d = some (.str x :: r) ∧ pathB x = true := by
  unfold fileY at h
  split at h
  · rename_i a b e
    rw [Bool.and_eq_true] at h
    cases a with
    | str x => exact ⟨x, _, e, h.1⟩
    | none => cases h.1
    | bool _ => cases h.1
    | int _ => cases h.1
    | list _ => cases h.1
    | tuple _ => cases h.1
    | dict _ => cases h.1
  · cases h
theorem ok_filesY {f : Addr} {fd : FuncData} (F : Fun K "is_files" "is_files" s_is_files f fd) (T : Glo mg) {t60 : Tok} (m_MOST_FILES : mg "MOST_FILES" = some (.int 60 t60)) (c_is_sequence : C8.Cal P w K mg base 1 "is_sequence" (spSeqY K) []) (c_is_row : C8.Cal P w K mg base 2 "is_row" (spRowY K) []) (c_is_path : C8.Cal P w K mg base 2 "is_path" (spX pathY K) []) (c_is_content : C8.Cal P w K mg base 3 "is_content" (spY contY K) []) (c_is_ascending : C8.Cal P w K mg base 1 "is_ascending" (spAscY K) []) : FnOk P w K mg base CX0 4 f fd ["value"] (spY filesY K) := by
  refine F.ok sc_is_files (fun vs H Q E h => ?_) (fun cdv A outer s H vs Q E hr h => ?_)
  · obtain ⟨v, d, rfl, _⟩ := h
    rfl
  · obtain ⟨v, d, rfl, hd, yo, k⟩ := h
    refine ⟨_, (C8.pss_cut (ps_if (PW.pt (pw_or (pt_not (pt_val (C8.pe_c c_is_sequence hr (by omega) (by rfl) (pa_cons (pv 0) pa_nil)))) (pw_or1 (pt_cmpR op_gt (pe_callB call_len_seq (by rfl) T.len PySem.boot_len (pa_cons (pv 0) pa_nil)) (pe_glob (v := .int 60) (by rfl) m_MOST_FILES ⟨_, rfl⟩) (nomark _)))))
      (pss_one (ps_ret pe_bl))
      pss_nil)
      (pss_cons (ps_if (pt_not (pt_val (pe_callB (cr_all rfl) (by rfl) T.all (by decide +kernel) (pa_cons (pe_lc (own := [("pair", 1)]) (g := gName 1) (tt := tYes) rfl sc_is_files.nd (pi_seq (pv 0)) (blkOk_by (N := ["value", "pair"]) (sc := defScope s_is_files) (by decide +kernel)) (fun _ _ _ _ _ => (pg_name (i := 1) sc_is_files.nd rfl (.inl rfl))) (fun _ _ _ _ _ => pts_nil) (fun _ _ _ _ _ => (pe_and (C8.pe_c c_is_row hr (by omega) (by rfl) (pa_cons (pv 1) (pa_cons pe_int pa_nil))) (pe_and (C8.pe_c c_is_path hr (by omega) (by rfl) (pa_cons (pe_ix (r := rIx K) ix_seq (pv 1) pe_int (fun _ _ => rfl)) pa_nil)) (pe_one (C8.pe_c c_is_content hr (by omega) (by rfl) (pa_cons (pe_ix (r := rIx K) ix_seq (pv 1) pe_int (fun _ _ => rfl)) pa_nil))))))) pa_nil))))
      (pss_one (ps_ret pe_bl))
      pss_nil)
      (pss_one (ps_ret (C8.pe_c c_is_ascending hr (by omega) (by rfl) (pa_cons (pe_lc (own := [("pair", 1)]) (g := gName 1) (tt := tYes) rfl sc_is_files.nd (pi_seq (pv 0)) (blkOk_by (N := ["value", "pair"]) (sc := defScope s_is_files) (by decide +kernel)) (fun _ _ _ _ _ => (pg_name (i := 1) sc_is_files.nd rfl (.inl rfl))) (fun _ _ _ _ _ => pts_nil) (fun _ _ _ _ _ => (pe_ix (r := rIx K) ix_seq (pv 1) pe_int (fun _ _ => rfl)))) pa_nil)))))), ?_⟩
    refine ⟨fun σ' H' => σ' = [some v, none] ∧ Same H H' ∧ ∃ ds, seqY d = some ds ∧ ds.length ≤ 60, ?_, ?_⟩
    · refine tt_or <| tt_not <| tt_b <| te_call <| ta_cons <| te_v rfl <| ta_nil ⟨v, d, rfl, hd, fun H1 s1 => ⟨_, rfl, ?_⟩⟩
      cases e : seqY d with
      | none =>
        refine iteT ?_
        have := k H1 s1
        rw [show filesY d = false by unfold filesY; rw [e]] at this
        exact st_ret (te_c this)
      | some ds =>
        obtain ⟨a, vs, rfl, sq, al⟩ := Dp.seq (Dp.same s1 hd) e
        refine iteF <| tt_b <| te_op <| te_cb <| ta_cons <| te_v rfl <| ta_nil ⟨a, vs, rfl, sq, te_c ⟨_, _, rfl, rfl, _, rfl, ?_⟩⟩
        rw [DpAll.len al]
        by_cases c : ds.length ≤ 60
        · rw [decide_eq_false (show ¬ (60 : Int) < (ds.length : Int) by omega)]
          exact iteF ⟨rfl, s1, ds, rfl, c⟩
        · rw [decide_eq_true (show (60 : Int) < (ds.length : Int) by omega)]
          refine iteT ?_
          have := k H1 s1
          rw [show filesY d = false by unfold filesY; rw [e]; simp only [decide_eq_false c, Bool.false_and]] at this
          exact st_ret (te_c this)
    rintro σ' H1 ⟨rfl, s1, ds, e, hl⟩
    obtain ⟨a, vs, rfl, sq, al⟩ := Dp.seq (Dp.same s1 hd) e
    have yl := yo.len e
    have ed : filesY d = (ds.all fileY && ascB (ds.map nameY)) := by
      unfold filesY
      rw [e]
      simp only [decide_eq_true hl, Bool.true_and]
    refine st_seq <| st_if <| tt_not <| tt_b <| te_cb <| ta_cons <| te_lc ?_
    refine seqY_walk sq (fun Q q => ⟨_, rfl, q⟩) fun J G wk hG D hD => lc_mapY (out := fun d => .bl (fileY d)) wk hG al yl hD (fun _ => rfl) (fun v d H2 Qv m s2 h2 q => ?_) fun H2 s2 e2 => ?_
    · have yd := yo.mem e m
      refine te_andv <| te_call <| ta_cons <| te_v rfl <| ta_cons <| te_c <| ta_nil ⟨v, d, 2, rfl, h2, fun H3 s3 => ⟨_, rfl, ?_⟩⟩
      rcases row_cases (n := 2) (i := 2) rfl h2 s3 with ⟨es, a, vs, e', l2, rfl, sq', al', eb⟩ | ⟨eb, ne⟩
      · rw [eb]
        obtain ⟨x, y, rfl⟩ := seq2 l2
        obtain ⟨v0, h0, d0⟩ := DpAll.get (i := 0) al' rfl
        obtain ⟨v1, h1, d1⟩ := DpAll.get (i := 1) al' rfl
        have ef : fileY d = (pathY x && contY y) := by
          unfold fileY
          rw [e']
        refine iteT <| te_andv <| te_call <| ta_cons <| te_op <| te_v rfl <| te_c <| ixY sq' (atI_nat (j := 0) h0) <| ta_nil ⟨v0, x, rfl, d0, (yd.mem e' (by simp)).lenY, fun H4 s4 => ⟨_, rfl, ?_⟩⟩
        have s24 : Same H2 H4 := fun b o z => s4 b o (s3 b o z)
        cases px : pathY x with
        | false =>
          refine iteF ?_
          have := q H4 s24
          rw [ef, px, Bool.false_and] at this
          exact this
        | true =>
          refine iteT <| te_call <| ta_cons <| te_op <| te_v rfl <| te_c <| ixY (SeqY.same s4 sq') (atI_nat (j := 1) h1) <| ta_nil ⟨v1, y, rfl, Dp.same s4 d1, yd.mem e' (by simp), fun H5 s5 => ?_⟩
          have := q H5 fun b o z => s5 b o (s24 b o z)
          rw [ef, px, Bool.true_and] at this
          exact this
      · rw [eb]
        refine iteF ?_
        have := q H3 s3
        rw [show fileY d = false by
          unfold fileY
          cases e' : seqY d with
          | none => rfl
          | some es =>
            match es, ne es e' with
            | [], _ => rfl
            | [_], _ => rfl
            | [_, _], z => exact absurd rfl z
            | _ :: _ :: _ :: _, _ => rfl] at this
        exact this
    have s02 : Same H H2 := fun b o z => s2 b o (s1 b o z)
    rw [show ds.map (fun d => V.bl (fileY d)) = (ds.map fileY).map V.bl by rw [List.map_map]; rfl] at e2
    refine ta_nil ⟨D, _, rfl, SqL.of e2, _, rfl, ?_⟩
    rw [show ((ds.map fileY).all id) = ds.all fileY by rw [List.all_map]; rfl]
    cases an : ds.all fileY with
    | false =>
      refine iteT ?_
      have := k H2 s02
      rw [ed, an, Bool.false_and] at this
      exact st_ret (te_c this)
    | true =>
      refine iteF (st_next ?_)
      dsimp only
      have sq2 := SeqY.same s2 sq
      have al2 := DpAll.same s2 al
      rw [List.all_eq_true] at an
      refine st_ret <| te_call <| ta_cons <| te_lc ?_
      refine seqY_walk sq2 (fun Q q => ⟨_, rfl, q⟩) fun J G wk hG D2 hD2 => lc_mapY (out := fun d => .str (nameY d)) wk hG al2 yl hD2 (fun _ => rfl) (fun v d H3 Qv m s3 h3 q => ?_) fun H3 s3 e3 => ?_
      · obtain ⟨x, r, ex, _⟩ := file_name (an d m)
        obtain ⟨a3, vs3, rfl, sq3, al3⟩ := Dp.seq h3 ex
        obtain ⟨v0, h0, d0⟩ := DpAll.get (i := 0) al3 rfl
        cases d0
        have := q H3 (Same.refl _)
        rw [show nameY d = x by unfold nameY; rw [ex]] at this
        exact te_op <| te_v rfl <| te_c <| ixY sq3 (atI_nat (j := 0) h0) this
      rw [show ds.map (fun d => V.str (nameY d)) = (ds.map nameY).map V.str by rw [List.map_map]; rfl] at e3
      refine ta_nil ⟨D2, ds.map nameY, rfl, e3, by rw [List.length_map]; exact yl, fun H4 s4 => ?_⟩
      have := k H4 fun b o z => s4 b o (s3 b o (s02 b o z))
      rw [ed, List.all_eq_true.mpr an, Bool.true_and] at this
      exact this
end
end Kl

/-! own exception classes over Exception: made, stored into, told apart -/
namespace Kx
open PySem PySem.Spec PyProof.Rows L2
abbrev exMro : List Value := [.type "Exception", .type "BaseException", .type "object"]
/-- what the written part says of such a class -/
structure ExC (K : PySem.W.Frag) (C : Addr) : Prop where
  mkd : PySem.W.excInitIn K C exMro "Exception.__new__" = true
  ov : PySem.W.excOver K C exMro = true
  hd : PySem.W.hasDictIn K C = true
  sa : PySem.W.findIn K (.ref C) "__setattr__" = some (some (.builtin "object.__setattr__"))
  sb : PySem.W.subIn K (.ref C) (.type "BaseException") = some true
  ty : PySem.W.typeIn K (.ref C) = some (.type "type")
  kp : PySem.W.keepIn K (.ref C) = true
section
open PySem.W PySem.Calls PySem.HandSPX Builtin Builtin.ObjectAttr
variable {prog : Program} {w : World} {A : Around} {R : Result → Shared → Prop} {K : PySem.W.Frag} {C x : Addr} {hh : Heap} {gs : Array GenState} {dr : Drawn} {tt : Nat} {oo : OsState} {nm : Str} {tk : Tok} {v : Value} {flds : Array Value}
theorem own_store (T : ExC K C) (X : K.In hh) {od : Option Obj} {ox : Obj} (I : InstAt hh x ox C od) (hn : findIn K (.ref C) nm = some none)
    (k : ∀ b, wpAny (model prog w) A.in1 (storeInOwnDict (.ref x) (.ref C) (.str nm tk) nm v b) (fun fin s' => match fin with | .done f => R (.ok f) s' | .again c' => c'.quiet = true ∧ codeAny (model prog w) A c' R s') (fun e s' => R (.error e) s') ⟨hh, gs, dr, tt, oo⟩) :
    codeAny (model prog w) A (.call (.builtin "object.__setattr__") ⟨[.ref x, .str nm tk, v], []⟩) R ⟨hh, gs, dr, tt, oo⟩ := by
  have ht : takerIn K C nm = some none := by
    unfold takerIn
    rw [hn]
    rfl
  exact osa_openX (r := none) F.store_Exception X I T.ov ht k
/-- the first field -/
theorem first_store (T : ExC K C) (X : K.In hh) (ho : hh.get? x = some { cls := .ref C, data := .fields flds }) (hn : findIn K (.ref C) nm = some none)
    (k : ∀ h2 t2 dx, (∀ b o, b ≠ x → hh.get? b = some o → h2.get? b = some o) → hh.objs.size ≤ dx → dx ≠ x → h2.get? x = some { cls := .ref C, dict := some dx, data := .fields flds } →
      h2.Ns1 dx (fun y => if y = nm then some v else none) → R (.ok (.ret .none)) ⟨h2, gs, dr, t2, oo⟩) :
    codeAny (model prog w) A (.call (.builtin "object.__setattr__") ⟨[.ref x, .str nm tk, v], []⟩) R ⟨hh, gs, dr, tt, oo⟩ := by
  have I : InstAt hh x { cls := .ref C, data := .fields flds } C none := ⟨ho, rfl, rfl, trivial⟩
  refine own_store T X I hn fun b => ?_
  obtain ⟨cd, hc, hb⟩ := any_some T.hd
  have lc : Looks (model prog w) hh (classData C) cd := looks_clsIn X hc
  have ne : x ≠ hh.objs.size := Nat.ne_of_lt (Heap.lt_size ho)
  obtain ⟨c1, c2, c3, c4, c5, c6, c7, c8, c9, c10, c11⟩ := cd
  dsimp only at hb
  subst hb
  unfold storeInOwnDict ownDictForStores
  repeat (first | with_reducible refine store_in_new ?_ ?_ | with_reducible refine wpAny_loadPart_at ho ?_ | with_reducible refine lc.at ?_ | wp_step)
  · exact ⟨_, #[], _, (Heap.get?_update_ne _ _ _ _ ne.symm).trans (Heap.get?_push_at rfl rfl), rfl, fun e he => absurd he (by simp), fun _ => rfl⟩
  · intro h2 t2 hns hsb
    have ho1 : (hh.push { cls := .type "dict", data := .dict #[] }).get? x = some { cls := .ref C, data := .fields flds } := Heap.get?_push_of_some _ ho
    exact k h2 t2 hh.objs.size (fun b o hb e => (hsb.2 b (Nat.ne_of_lt (Heap.lt_size e))).trans ((Heap.get?_update_ne _ _ _ _ hb).trans (Heap.get?_push_of_some _ e))) (Nat.le_refl _) ne.symm
      ((hsb.2 x ne).trans (Heap.get?_update_self _ ho1 rfl)) hns
/-- a further field -/
theorem next_store {dx : Addr} {m0 : Str → Option Value} {nl : List Str} (T : ExC K C) (X : K.In hh) (ho : hh.get? x = some { cls := .ref C, dict := some dx, data := .fields flds }) (hm : hh.Ns1 dx m0) (hw : Within m0 nl) (hz : nl.length ≤ 1000) (hn : findIn K (.ref C) nm = some none)
    (k : ∀ h2 t2, (∀ b o, b ≠ dx → hh.get? b = some o → h2.get? b = some o) → h2.Ns1 dx (fun y => if y = nm then some v else m0 y) → R (.ok (.ret .none)) ⟨h2, gs, dr, t2, oo⟩) :
    codeAny (model prog w) A (.call (.builtin "object.__setattr__") ⟨[.ref x, .str nm tk, v], []⟩) R ⟨hh, gs, dr, tt, oo⟩ := by
  obtain ⟨oD, q1, q2, hoD, q3, q4⟩ := hm.count hw
  have I : InstAt hh x { cls := .ref C, dict := some dx, data := .fields flds } C (some oD) := ⟨ho, rfl, rfl, hoD⟩
  refine own_store T X I hn fun b => ?_
  obtain ⟨cd, hc, hb⟩ := any_some T.hd
  have lc : Looks (model prog w) hh (classData C) cd := looks_clsIn X hc
  obtain ⟨c1, c2, c3, c4, c5, c6, c7, c8, c9, c10, c11⟩ := cd
  dsimp only at hb
  subst hb
  unfold storeInOwnDict ownDictForStores
  repeat (first | with_reducible refine PySem.OEX.store_in_old hm hw hz ?_ | with_reducible refine wpAny_loadPart_at ho ?_ | with_reducible refine lc.at ?_ | wp_step)
  intro h2 t2 hns hsb
  exact k h2 t2 (fun b o hb e => (hsb.2 b hb).trans e) hns
end
section
variable {X : Cx} {pins : List (Addr × Obj)} {σ : L2.St} {H : Hp} {s : Shared} {a C dx : Addr} {f : Str} {y : V} {u : Value} {fs : List (Str × V)} {Q : Unit → Shared → Prop} {E : Value → Shared → Prop} {A : Around}
theorem put_first (T : ExC X.K C) (I : Inv X pins σ H s) (e : H a = some (exo a C none)) (hno : PySem.W.findIn X.K (.ref C) f = some none) (ry : RelV y u)
    (k : ∀ dx s2, H dx = none → dx ≠ a → Inv X pins σ (upd (upd H dx (exd dx [(f, y)])) a (exo a C (some dx))) s2 → Q () s2) : wpAny (model X.prog X.w) A (setAttr (.ref a) f u) Q E s := by
  obtain ⟨t1, ho⟩ := exo_at I.hok e
  obtain ⟨hh, gs, dr, tt, oo⟩ := s
  refine PySem.W.set_plain I.kIn (ox := { cls := .ref C, dict := none, data := .fields #[.ref t1, .none, .none, .none, .bool false, .none] }) (od := none) ⟨ho, rfl, rfl, trivial⟩ T.sa ?_
  refine first_store T I.kIn ho hno (fun h2 t2 dx kk dn dne hx hn => ?_)
  have fresh : H dx = none := I.hok.fresh dn
  have old : ∀ {b : Addr} {o : Obj}, hh.get? b = some o → b ≠ dx := fun {b o} q => Nat.ne_of_lt (Nat.lt_of_lt_of_le (Heap.lt_size q) dn)
  have na : ∀ {b : Addr}, H b = none → b ≠ a := fun {b} n z => by
    rw [z, e] at n
    exact nomatch n
  have through : ∀ {b : Addr} {o : HO}, H b = some o → exo a C none ≠ o → (upd (upd H dx (exd dx [(f, y)])) a (exo a C (some dx))) b = some o := fun {b o} q d => by
    rw [upd_ne (at_ne e q d), upd_ne (ne_of_none q fresh)]
    exact q
  refine k dx _ fresh dne (I.un (t' := t2) (h' := h2) ⟨fun b o q n _ _ => kk b o (na n) q, fun b o q n _ _ => ⟨o.slots, kk b o (na n) q⟩, fun b o q n _ => ?_, fun b o q _ => ?_, fun b xs q => through q exo_tup, fun b o v q => through q exo_frz, fun b ps q => ⟨#[], ?_⟩⟩ fun b o q => ?_)
  · rw [upd_ne (na n), upd_ne (old q)]
    exact n
  · by_cases hb : b = a
    · subst hb
      exact ⟨_, hx⟩
    · exact ⟨o, kk b o hb q⟩
  · rw [through q exo_tbl]
    simp
  · by_cases hb : b = a
    · subst hb
      rw [upd_same] at q
      obtain rfl := Option.some.inj q
      exact exo_ok hx
    · rw [upd_ne hb] at q
      by_cases hd : b = dx
      · subst hd
        rw [upd_same] at q
        obtain rfl := Option.some.inj q
        exact exd_ok hn (relO_put (fs := []) ry fun g => trivial)
      · rw [upd_ne hd] at q
        refine (I.hok b o q).stay (fun c v hc z => kk c v ?_ z) (fun c hc => through hc exo_own) (fun c xs hc => through hc exo_tup)
        rcases hc with hc | hc
        · rw [hc]
          exact hb
        · exact at_ne e hc exo_own
theorem put_next (T : ExC X.K C) (I : Inv X pins σ H s) (e : H a = some (exo a C (some dx))) (ed : H dx = some (exd dx fs)) (hl : fs.length ≤ 900) (hno : PySem.W.findIn X.K (.ref C) f = some none) (ry : RelV y u)
    (k : ∀ s2, Inv X pins σ (upd H dx (exd dx ((f, y) :: fs))) s2 → Q () s2) : wpAny (model X.prog X.w) A (setAttr (.ref a) f u) Q E s := by
  obtain ⟨t1, ho⟩ := exo_at I.hok e
  obtain ⟨m0, hm, rel⟩ := exd_at I.hok ed
  have hw := within_of rel
  obtain ⟨hh, gs, dr, tt, oo⟩ := s
  obtain ⟨oD, q1, q2, hoD, q3, q4⟩ := hm.count hw
  refine PySem.W.set_plain I.kIn (ox := { cls := .ref C, dict := some dx, data := .fields #[.ref t1, .none, .none, .none, .bool false, .none] }) (od := some oD) ⟨ho, rfl, rfl, hoD⟩ T.sa ?_
  refine next_store T I.kIn ho hm hw (by rw [List.length_map]; omega) hno (fun h2 t2 kk hn => ?_)
  have there : ∃ o, h2.get? dx = some o := by
    obtain ⟨o, z1, z2, e2, z3⟩ := hn
    exact ⟨o, e2⟩
  exact k _ (I.write (t' := t2) (x := dx) (e := dx) (o := exd dx ((f, y) :: fs)) (by rw [ed]; trivial) (.inl rfl) kk there (exd_ok hn (relO_put ry rel)))
end
/-- self.f = e, self an exception that is being made -/
def tPut (K : PySem.W.Frag) (f : Str) (to te : TE) : TS := fun D σ H => te σ H fun y H1 => to σ H1 fun x H2 => ∃ a C : Addr, x = .ref a ∧ ExC K C ∧ PySem.W.findIn K (.ref C) f = some none ∧
  ((H2 a = some (exo a C none) ∧ ∀ dx, H2 dx = none → dx ≠ a → D.nx σ (upd (upd H2 dx (exd dx [(f, y)])) a (exo a C (some dx)))) ∨
    ∃ (dx : Addr) (fs : List (Str × V)), H2 a = some (exo a C (some dx)) ∧ H2 dx = some (exd dx fs) ∧ fs.length ≤ 900 ∧ D.nx σ (upd H2 dx (exd dx ((f, y) :: fs))))
section
variable {X : Cx} {o e : Expr} {es : List Expr} {to te : TE} {ta : TA} {f : Str} {p p' p1 p2 pos : Pos}
theorem ps_put (ho : PE X o to) (he : PE X e te) (hs : swapsWith e (some (.Attribute o f p')) pos.line X.env = pure false := by rfl) : PS X (.Assign [.Attribute o f p'] e pos) (tPut X.K f to te) := by
  refine ⟨fun pins s σ H D I h => plainObj_wpAny_Assign_Attribute (thn (he.run pins s σ H _ I h) fun v s1 ⟨y, H1, I1, r1, q1⟩ => thn (ho.run pins s1 σ H1 _ I1 q1) fun u s2 ⟨x, H2, I2, r2, a, C, ex, T, hno, q⟩ => ?_) hs⟩
  subst ex
  obtain rfl : u = Value.ref a := r2
  rcases q with ⟨ea, q⟩ | ⟨dx, fs, ea, ed, hl, q⟩
  · exact put_first T I2 ea hno r1 fun dx s2 n ne J => ⟨σ, _, J, q dx n ne⟩
  · exact put_next T I2 ea ed hl hno r1 fun s2 J => ⟨σ, _, J, q⟩
/-- C(e, ..) by its own __init__ -/
theorem nmk_ex {CX : CXT} {x : Str} {C fI : Addr} {k : Nat} {fd : FuncData} {ps : List Str} {sp : Sp} (T : ExC X.K C) (iC : PySem.W.findIn X.K (.ref C) "__init__" = some (some (.ref fI))) (tI : PySem.W.typeIn X.K (.ref fI) = some (.type "function"))
    (G : FnOk X.prog X.w X.K X.mg X.base CX k fI fd ps sp) (hr : Room (k + 1) X.A) (hb : Binds X.K fd ps []) (hx : Passes CX X (fun _ _ _ => False)) (hg : Gl X x) (hm : X.mg x = some (.ref C)) (ha : PA X (e :: es) ta)
    (hdb : (x == ("__debug__" : Str)) = false := by decide) (he : starEach (e :: es) X.env = (false, eval e X.env) :: starEach es X.env := by rfl) (hpl : (backTo pos (starEach es X.env)).any (·.1) = false := by rfl) :
    L2N.PMk X (.Call (.Name x p) (e :: es) [] pos) (tMkO C sp [] ta) := by
  intro pins s σ H Q I h
  refine wpAny_Call_Name_kw (ld_glob I hg hm ?_ hdb)
  refine PySem.W.callWith_K (h₀ := X.base) I.ok.mod.kin T.kp (thn (ha.run pos pins s σ H _ I h) fun us s1 ⟨vs, H1, I1, r1, hz, q1⟩ => ⟨I1.kIn, ?_⟩) he hpl
  obtain ⟨hh, gs, dr, tt, oo⟩ := s1
  obtain ⟨c1, c2, c3, c4, c5, c6, c7, c8, c9, c10, c11, c12, c13, c14, c15, c16, hC, hT⟩ := PySem.W.excInit_of I1.kIn T.mkd
  have up : hh.objs.size ≤ hh.objs.size + 1 := Nat.le_succ _
  have now := q1 (hh.objs.size + 1) (I1.hok.fresh up)
  rw [List.append_nil] at now
  have keeps : ∀ b o, hh.get? b = some o → ((hh.push (PySem.W.kdv_tup us)).push (PySem.HandSPX.excO C hh.objs.size)).get? b = some o := fun b o z => Heap.get?_push_of_some _ (Heap.get?_push_of_some _ z)
  have made : ((hh.push (PySem.W.kdv_tup us)).push (PySem.HandSPX.excO C hh.objs.size)).get? (hh.objs.size + 1) = some (PySem.HandSPX.excO C hh.objs.size) := by heap_get
  have J : Inv X pins σ (upd H1 (hh.objs.size + 1) (exo (hh.objs.size + 1) C none)) ⟨(hh.push (PySem.W.kdv_tup us)).push (PySem.HandSPX.excO C hh.objs.size), gs, dr, tt, oo⟩ :=
    I1.laid (t' := tt) (a := hh.objs.size + 1) (o := exo (hh.objs.size + 1) C none) (h' := (hh.push (PySem.W.kdv_tup us)).push (PySem.HandSPX.excO C hh.objs.size)) keeps up (exo_ok made)
  have rr : Vals (V.ref (hh.objs.size + 1) :: vs) (Value.ref (hh.objs.size + 1) :: us) := .cons rfl r1
  have ll : (Value.ref (hh.objs.size + 1) :: us).length = ps.length := by
    have z := rr.length
    rw [G.len _ _ _ _ now] at z
    exact z.symm
  have small : us.length ≤ sizeLine := by
    rw [← Paired.length r1, sizeLine_eq]
    omega
  have run := G.run _ X.stack _ _ ⟨Value.ref (hh.objs.size + 1) :: us, []⟩ (Value.ref (hh.objs.size + 1) :: us) _ _ (fun _ _ _ => False) (hr.make C us []) (J.env0.make C us []) (by
    have z := hb _ (Value.ref (hh.objs.size + 1) :: us) J.kIn (by simpa using ll)
    rwa [List.append_nil] at z) rr now
  refine wpAny_call (PySem.HandSPX.call_own F.excBase_Exception hT hC (PySem.W.looks_findIn I1.kIn iC) (fun self => PySem.W.bind_fn I1.kIn self tI) small (codeAny_mono run fun r s2 z => ?_))
  match r, z with
  | .error er, z => exact hx pins σ _ _ er s2 J z
  | .ok (.ret u), z =>
    obtain ⟨v, H2, o2, b2, un2, ok2, rv, ev, d, fs, ea, ed, hd1, q2⟩ := z
    subst ev
    obtain ⟨h2, g2, d2, t2, oo2⟩ := s2
    obtain ⟨t0, G0, J2, kG, ge, hoe, na⟩ := mk_end0 (d2 := d2) (t2 := t2) I1 up keeps un2 ok2 o2 b2 ea ed hd1
    exact ⟨rv, hh.objs.size + 1, _, _, ⟨G0, g2, d2, t2, oo2⟩, _, .ref C, some d, rfl, J2, kG, ge, hoe, ⟨rfl, rfl, fun vs hv => by cases hv; rfl⟩, rfl, rfl, na, rfl, b2, raises_own T.sb T.ty, q2⟩
  | .ok .next, z => exact False.elim z
  | .ok .brk, z => exact False.elim z
  | .ok .cont, z => exact False.elim z
end
/-- what isinstance asks of the class of an error that a suite holds -/
structure IsC (K : PySem.W.Frag) (D : Addr) : Prop where
  c0 : (PySem.W.clsIn K D).isSome = true
  ga : PySem.W.findIn K (.ref D) "__getattribute__" = some (some (.builtin "BaseException.__getattribute__"))
  gg : PySem.W.findIn K (.ref D) "__getattr__" = some none
  sb : PySem.W.subIn K (.ref D) (.type "BaseException") = some true
  cl : PySem.W.findIn K (.ref D) "__class__" = some (some (.builtin "object.__class__"))
  gt : PySem.W.specialIn K (.builtin "object.__class__") "__get__" = some (some (.builtin "getset_descriptor.__get__"))
  tk : PySem.W.takesIn K (.builtin "object.__class__") = some true
  ob : PySem.W.mroIn K D (.type "object") = some true
/-- isinstance(e, c), e the error that the suite holds, at a: its class cls, its dict d -/
def rIsX (K : PySem.W.Frag) (cls : Value) (a : Addr) (d : Option Addr) : List V → Hp → VK → Prop := fun xs H Q => ∃ (D : Addr) (c : V) (cv : Value) (b : Bool), cls = .ref D ∧ IsC K D ∧ xs = [.ref a, c] ∧ ClsV c cv ∧ PySem.W.kitOne K (.ref D) cv = some b ∧ (∃ dd fs, d = some dd ∧ H dd = some (.xd fs)) ∧ Q (.bl b) H
theorem call_isX {X : Cx} {a : Addr} {cls : Value} {oe : Obj} {d : Option Addr} {pn : List (Addr × Obj)} (hz : Zc cls d oe) (hf : ∃ vs, oe.data = .fields vs) : CallR (X.suite a ((a, oe) :: pn)) (.builtin "isinstance") (rIsX X.K cls a d) := by
  intro pins s σ H xs us Q I r h
  obtain ⟨D, c, cv, b, rfl, T, rfl, hcv, e, ⟨dd, fs, rfl, hdd⟩, q⟩ := h
  obtain ⟨vs, hv⟩ := hf
  match r with
  | .cons rx (.cons rt .nil) =>
    cases rx
    have ec := hcv.eq rt
    subst ec
    obtain ⟨hget, _⟩ := I.pin (a, oe) (List.mem_append.mpr (.inl List.mem_cons_self))
    have hxd : ObjOk X.prog X.w H s.heap dd (.xd fs) := I.hok dd _ hdd
    obtain ⟨mA, hns, _⟩ := hxd
    obtain ⟨od, ho, _⟩ := lookIn_ns hns
    have J : PySem.W.InstAt s.heap a oe D (some od) := ⟨hget, hz.1, by unfold PySem.W.notCls; rw [hv] <;> rfl, by rw [hz.2]; exact ho⟩
    exact PySem.W.kia_one (PySem.W.kitx_exc T.c0 T.ga T.gg T.sb T.cl T.gt T.tk T.ob) I.kIn J e (fun z => by cases hcv <;> cases z) fun tk => ⟨.bl b, H, I.kept (t' := tk) fun _ _ z => z, rfl, q⟩
/-- e.f, e the error that the suite holds -/
def tGet (K : PySem.W.Frag) (a : Addr) (cls : Value) (d : Option Addr) (f : Str) (te : TE) : TE := fun σ H Q => te σ H fun x H1 => x = .ref a ∧ ∃ (C dd : Addr) (fs : List (Str × V)) (v : V), cls = .ref C ∧ XfC K C ∧ PySem.W.findIn K (.ref C) f = some none ∧ d = some dd ∧ H1 dd = some (.xd fs) ∧ fs.lookup f = some v ∧ Q v H1
theorem pe_get {X : Cx} {a : Addr} {oe : Obj} {cls : Value} {d : Option Addr} {pn : List (Addr × Obj)} {e : Expr} {te : TE} {pos : Pos} {n : Str} (hz : Zc cls d oe) (hf : ∃ vs, oe.data = .fields vs) (he : PE (X.suite a ((a, oe) :: pn)) e te)
    (hb : attributeBase e n X.env (eval e X.env) = eval e X.env := by rfl) : PE (X.suite a ((a, oe) :: pn)) (.Attribute e n pos) (tGet X.K a cls d n te) := by
  refine ⟨fun pins s σ H Q I h => attr_of hb (thn (he.run pins s σ H _ I h) fun u s1 hh => ?_)⟩
  obtain ⟨x, H1, I1, rx, rfl, C, dd, fs, v, rfl, T, hno, rfl, ea, l, q⟩ := hh
  obtain rfl : u = Value.ref a := rx
  obtain ⟨hget, _⟩ := I1.pin (a, oe) (List.mem_append_left _ List.mem_cons_self)
  obtain ⟨vs, hd⟩ := hf
  have hxd : ObjOk X.prog X.w H1 s1.heap dd (.xd fs) := I1.hok dd _ ea
  obtain ⟨mA, hns, hr⟩ := hxd
  obtain ⟨od, ho, hl⟩ := lookIn_ns hns
  obtain ⟨u, hu, ru⟩ := RelO.some_of (v := v) (o := mA n) (by rw [← l]; exact hr n)
  have J : PySem.W.InstAt s1.heap a oe C (some od) := ⟨hget, hz.1, by unfold PySem.W.notCls; rw [hd] <;> rfl, by rw [hz.2]; exact ho⟩
  exact HandSPX.exc_get I1.kIn J T.ga T.gg T.exC (PySem.W.findObj_own T.hdC hno rfl (by rw [hl, hu])) (handed_of ru) ⟨v, H1, I1.tok _, ru, q⟩
/-- a def that may raise, what it raises having no context -/
theorem okN {P : Program} {w : World} {K : PySem.W.Frag} {mg : Str → Option Value} {base : Heap} {x qual : Str} {st : Stmt} {f : Addr} {fd : FuncData} {N ps : List Str} {k : Nat} {sp : Sp} (F : Fun K x qual st f fd) (S : FnScope N ps (defScope st)) (len : ∀ vs H Q E, sp vs H Q E → vs.length = ps.length)
    (body : ∀ (cdv : Value) (A : Around) (outer : List Env) (s : Shared) (H : Hp) (vs : List V) (Q : VK) (E : XK), Room k (A.deeper (envOfC qual (defScope st) s.heap.objs.size f cdv)) → sp vs H Q E →
      ∃ t, PSs (cxOf (L2N.CX P w) P w K mg base N qual (defScope st) f cdv A outer s H E) (defBody st) t ∧ t { nx := fun _ H' => Q .non H', rt := Q } (start N vs) H) : FnOk P w K mg base (L2N.CX P w) (k + 1) f fd ps sp := by
  obtain ⟨e1, e2, e3, e4, e5, e6, e7, e8, e9, rfl, lk, hcd⟩ := F.ex
  exact fn_of lk hcd S len fun A outer s H vs Q E hr hs => body e7 A outer s H vs Q E hr hs
/-- a def called in an except suite -/
theorem okH {P : Program} {w : World} {K : PySem.W.Frag} {mg : Str → Option Value} {base : Heap} {x qual : Str} {st : Stmt} {f : Addr} {fd : FuncData} {N ps : List Str} {k : Nat} {sp : Sp} (F : Fun K x qual st f fd) (S : FnScope N ps (defScope st)) (len : ∀ vs H Q E, sp vs H Q E → vs.length = ps.length)
    (body : ∀ (cdv : Value) (A : Around) (outer : List Env) (s : Shared) (H : Hp) (vs : List V) (Q : VK) (E : XK) (p : Addr × Obj), L2H.Hot1 A p → L2H.RoomH k (A.deeper (envOfC qual (defScope st) s.heap.objs.size f cdv)) → sp vs H Q E →
      ∃ t, PSs (L2H.cxH CX0 P w K mg base N qual (defScope st) f cdv A outer s H E p).nox (defBody st) t ∧ t { nx := fun _ H' => Q .non H', rt := Q } (start N vs) H) : L2H.FnH P w K mg base CX0 (k + 1) f fd ps sp := by
  obtain ⟨e1, e2, e3, e4, e5, e6, e7, e8, e9, rfl, lk, hcd⟩ := F.ex
  refine L2H.fn_ofH lk hcd S len fun A outer s H vs Q E p hot hr hs => ?_
  obtain ⟨t, h, q⟩ := body e7 A outer s H vs Q E p hot hr hs
  exact ⟨t, h.nox, q⟩
/-- for the bodies of defs called in a suite -/
theorem hot_of {CXx : CXT} {P : Program} {w : World} {K : PySem.W.Frag} {mg : Str → Option Value} {base : Heap} {N : List Str} {qual : Str} {scope : Scope} {f : Addr} {cd : Value} {A : Around} {outer : List Env} {s : Shared} {H : Hp} {E : XK} {p : Addr × Obj}
    (h : L2H.Hot1 A p) : L2H.HotC (L2H.cxH CXx P w K mg base N qual scope f cd A outer s H E p).nox := ⟨p, h, List.mem_cons_self⟩
theorem pass_at {X : Cx} {E : L2.St → XK} : ∀ σ, PassesAt CX0 X σ (E σ) := fun _ _ _ _ _ _ _ h => h.elim
theorem hot_suite {X : Cx} {a : Addr} {cls : Value} {d : Option Addr} {oe : Obj} {pn : List (Addr × Obj)} (hz : L2N.Zn cls d oe) (hf : ∃ vs, oe.data = .fields vs) : L2H.HotC (X.suite a ((a, oe) :: pn)) := by
  obtain ⟨vs, hv⟩ := hf
  exact ⟨(a, oe), ⟨rfl, vs, hv, hz.2.2 vs hv⟩, List.mem_cons_self⟩
end Kx

namespace Kl
open PySem L2 Kd Kx
/-! an own error class, and what comes out -/
/-- an own error class: the class at C, its __init__ at fI -/
structure Err (K : PySem.W.Frag) (mg : Str → Option Value) (x : Str) (C fI : Addr) : Prop where
  ex : ExC K C
  ini : PySem.W.findIn K (.ref C) "__init__" = some (some (.ref fI))
  tI : PySem.W.typeIn K (.ref fI) = some (.type "function")
  mc : mg x = some (.ref C)
  xf : XfC K C
  is : IsC K C
/-- what is told of an error that comes out -/
structure Out (H H' : Hp) (d : Addr) (fs : List (Str × V)) : Prop where
  sm : Same H H'
  nw : H d = none
  xd : H' d = some (.xd fs)
theorem out_of {H H1 : Hp} {a d : Addr} {fs : List (Str × V)} (s : Same H H1) (ha : H a = none) (hd : H d = none) (hda : d ≠ a) : Out H (upd (del H1 a) d (.xd fs)) d fs :=
  ⟨fun b o e => by rw [upd_ne (ne_of_none e hd), del_ne (ne_of_none e ha)]; exact s b o e, hd, upd_same⟩
theorem te_callS {sp : Sp} {E : L2.St → XK} {t : TA} {σ : L2.St} {H : Hp} {Q : VK} (h : t σ H fun vs H1 => sp vs H1 Q (E σ)) : tCallS sp E t σ H Q := h
end Kl

namespace Kl
open PySem L2 Kd Kx
/-! BadValue and BadSyntax: made and raised -/
abbrev iBV : Stmt := inClass (topS 17) 0
abbrev iBS : Stmt := inClass (topS 18) 0
def spAt1 (K : PySem.W.Frag) (C : Addr) : Sp := fun vs H Q _ => ∃ (a : Addr) (v : V), vs = [.ref a, v] ∧ H a = some (exo a C none) ∧ ∀ d : Addr, H d = none → d ≠ a → Q .non (upd (upd H d (exd d [("at", v)])) a (exo a C (some d)))
section
variable {P : Program} {w : World} {K : PySem.W.Frag} {mg : Str → Option Value} {base : Heap}
theorem scBV : FnScope ["self", "at"] ["self", "at"] (defScope iBV) := ⟨rfl, rfl, rfl, by decide +kernel, rfl, by decide +kernel, by decide +kernel⟩
theorem scBS : FnScope ["self", "at"] ["self", "at"] (defScope iBS) := ⟨rfl, rfl, rfl, by decide +kernel, rfl, by decide +kernel, by decide +kernel⟩
theorem ok_iBV {f C : Addr} {fd : FuncData} (F : Fun K "__init__" "BadValue.__init__" iBV f fd) (T : ExC K C) (n1 : PySem.W.findIn K (.ref C) "at" = some none) : FnOk P w K mg base CX0 1 f fd ["self", "at"] (spAt1 K C) := by
  refine F.ok scBV (fun vs H Q E h => ?_) (fun cdv A outer s H vs Q E hr h => ?_)
  · obtain ⟨a, v, rfl, _⟩ := h
    rfl
  · obtain ⟨a, v, rfl, ha, k⟩ := h
    exact ⟨_, pss_one (ps_put (pv 0) (pv 1)), _, rfl, _, rfl, a, C, rfl, T, n1, .inl ⟨ha, fun d hd nd => k d hd nd⟩⟩
theorem ok_iBS {f C : Addr} {fd : FuncData} (F : Fun K "__init__" "BadSyntax.__init__" iBS f fd) (T : ExC K C) (n1 : PySem.W.findIn K (.ref C) "at" = some none) : FnOk P w K mg base CX0 1 f fd ["self", "at"] (spAt1 K C) := by
  refine F.ok scBS (fun vs H Q E h => ?_) (fun cdv A outer s H vs Q E hr h => ?_)
  · obtain ⟨a, v, rfl, _⟩ := h
    rfl
  · obtain ⟨a, v, rfl, ha, k⟩ := h
    exact ⟨_, pss_one (ps_put (pv 0) (pv 1)), _, rfl, _, rfl, a, C, rfl, T, n1, .inl ⟨ha, fun d hd nd => k d hd nd⟩⟩
end
end Kl

namespace Ks
open PySem L2
/-! {**a, **b, ..}: each dict poured into the new one -/
section
variable {P : Program} {w : World} {T : Type} [DecidableEq T] {kd : KeyKind P w T} {A : Around} {E : Value → Shared → Prop} {s : Shared}
theorem put_wp {a : Addr} {l : List (T × Value)} {k : T} {u v : Value} {Q : Unit → Shared → Prop} (hu : kd.is k u = true) (m : s.heap.DictOf kd a l) (z : l.length ≤ sizeLine)
    (q : ∀ h2, h2.DictOf kd a (stored l k v) → Heap.SameBut a s.heap h2 → Q () { s with heap := h2 }) : wpAny (model P w) A (dictPut a (kd.hash k) u v) Q E s := by
  obtain ⟨ob, ents, n, g1, g2, g3, g4, g5, g6⟩ := m
  have sz : ents.size ≤ sizeLine := by
    have a1 := g5.length
    have a2 : ents.toList.length = ents.size := by simp
    omega
  unfold dictPut
  refine wpAny_bind (wpAny_dictFind_of hu g1 g3 g4 ?_)
  have ix : (ents.findIdx? fun e => kd.is k e.key) = l.findIdx? fun kv => decide (kv.1 = k) := by
    rw [← g5.findIdx k]
    obtain ⟨ls⟩ := ents
    simp
  cases c : ents.findIdx? fun e => kd.is k e.key with
  | some i =>
    refine wpAny_updateDict g1 g3 (q _ ⟨_, _, n, Heap.get?_update_self _ g1 (Obj.isFreed_of_dict (Obj.data_mapDict g3 _)), g2.mapDict _, Obj.data_mapDict g3 _, g4.modify _ _, ?_, ?_⟩ (Heap.SameBut.update ..))
    · rw [stored, if_pos (any_of_findIdx_some (ix ▸ c))]
      have c2 : (ents.toList.findIdx? fun e => kd.is k e.key) = some i := by
        rw [← c]
        obtain ⟨ls⟩ := ents
        simp
      have := g5.modify g6 c2 v
      obtain ⟨ls⟩ := ents
      simpa using this
    · rw [stored, if_pos (any_of_findIdx_some (ix ▸ c)), keys_map_store]
      exact g6
  | none =>
    have c1 : k ∉ l.map (·.1) := not_mem_of_findIdx_none (ix ▸ c)
    have c2 : ¬ (l.any fun kv => decide (kv.1 = k)) = true := fun e => by
      obtain ⟨kv, h1, h2⟩ := List.any_eq_true.mp e
      exact c1 (List.mem_map.mpr ⟨kv, h1, of_decide_eq_true h2⟩)
    refine wpAny_updateDictKeys (hz := sz) g1 g3 (q _ ⟨_, _, n + 1, Heap.get?_update_self _ g1 (Obj.isFreed_of_dict (Obj.data_mapDictKeys g3 _)), g2.mapDictKeys _, Obj.data_mapDictKeys g3 _, g4.push hu _, ?_, ?_⟩ (Heap.SameBut.update ..))
    · rw [stored, if_neg c2]
      have := g5.append hu (kd.hash k) v
      obtain ⟨ls⟩ := ents
      simpa using this
    · rw [stored, if_neg c2, List.map_append, List.nodup_append]
      refine ⟨g6, by simp, fun x hx y hy => ?_⟩
      simp only [List.map_cons, List.map_nil, List.mem_singleton] at hy
      subst hy
      exact fun e => c1 (e ▸ hx)
theorem pour_wp {a o : Addr} {l m : List (T × Value)} {Q : Unit → Shared → Prop} (ne : a ≠ o) (ns : (o == sysModules) = false) (ha : s.heap.DictOf kd a l) (ho : s.heap.DictOf kd o m) (z : l.length + m.length ≤ sizeLine)
    (q : ∀ h2, h2.DictOf kd a (merged l m) → h2.DictOf kd o m → Heap.SameBut a s.heap h2 → Q () { s with heap := h2 }) : wpAny (model P w) A (mergeMapping a (.ref o) false) Q E s := by
  obtain ⟨oa, ea, na, ga1, ga2, ga3, ga4, ga5, ga6⟩ := id ha
  obtain ⟨oo, eo, no, go1, go2, go3, go4, go5, go6⟩ := id ho
  have len : m.length = eo.size := by
    rw [← go5.length]
    simp
  unfold mergeMapping
  refine wpAny_bind (wpAny_isInstance ho.typeIs isSubtype_dict_dict ?_)
  rw [if_pos rfl]
  refine wpAny_bind (wpAny_specialOf ho.typeIs F.slot_dict_iter.lookup (wpAny_bind (wpAny_pure ?_)))
  dsimp only
  rw [show ((some (Value.builtin "dict.__iter__") == some (Value.builtin "dict.__iter__")) = true) from rfl]
  dsimp only
  rw [if_neg (by rw [ns]; exact Bool.false_ne_true)]
  refine wpAny_bind (wpAny_dictEntries ga1 ga3 ?_)
  have stay : ∀ x ∈ eo, ∀ b, x.key ≠ .ref b := fun x hx b e => by
    obtain ⟨k, hk, _⟩ := go4 x hx
    have := kd.byValue k _ hk
    rw [e] at this
    cases this
  refine dite (ea.isEmpty = true) (fun c => ?one) (fun c => ?two)
  case' one =>
    rw [if_pos c]
    refine wpAny_bind (wpAny_dictEntries go1 go3 (wpAny_bind ?_))
    rw [← Array.forIn_toList]
    refine wpAny_forIn_list _ (fun rest _ s' => s' = s ∧ ∀ x ∈ rest, x ∈ eo) _ ?turn ?fin eo.toList _ ⟨rfl, fun x hx => Array.mem_toList_iff.mp hx⟩
  case turn =>
    rintro x rest b s' ⟨rfl, h⟩
    have hk := stay x (h x (List.mem_cons_self ..))
    split
    · rename_i b e
      exact absurd e (hk b)
    · exact wpAny_pure ⟨rfl, fun y hy => h y (List.mem_cons_of_mem _ hy)⟩
  case' fin =>
    rintro b s' ⟨e, _⟩
    rw [e]
  case' two => rw [if_neg c]
  all_goals
    refine wpAny_bind (wpAny_dictEntries go1 go3 ?_)
    refine wpAny_bind (wpAny_dictEpoch go1 go3 ?_)
    refine wpAny_bind ?_
    refine wpAny_forIn_list _ (fun rest _ st => ∃ (h2 : Heap) (i : Nat), st = { s with heap := h2 } ∧ rest = (List.range eo.size).drop i ∧ i ≤ eo.size ∧ h2.DictOf kd a (merged l (m.take i)) ∧ h2.get? o = some oo ∧ Heap.SameBut a s.heap h2) _ ?_ ?_ _ _
      ⟨s.heap, 0, rfl, List.drop_zero.symm, Nat.zero_le _, ha, go1, Heap.SameBut.refl _ _⟩
    · rintro x rest b st ⟨h2, i, rfl, er, le, d2, o2, sb⟩
      have hi : i < eo.size := by
        rcases Nat.lt_or_ge i eo.size with h | h
        · exact h
        · rw [List.drop_eq_nil_of_le (by rw [List.length_range]; exact h)] at er
          cases er
      rw [List.drop_eq_getElem_cons (by rw [List.length_range]; exact hi), List.getElem_range] at er
      obtain ⟨rfl, rfl⟩ := List.cons.inj er
      refine wpAny_bind (wpAny_dictEntries o2 go3 ?_)
      rw [Array.getElem?_eq_getElem hi]
      have hm : m[x]? = some (m[x]'(by rw [len]; exact hi)) := List.getElem?_eq_getElem _
      generalize m[x]'(by rw [len]; exact hi) = kv at hm
      obtain ⟨k, v⟩ := kv
      obtain ⟨hk, hv⟩ := go5.get? (e := eo[x]) (by simp [hi]) hm
      obtain ⟨k2, hk2, hh⟩ := go4 eo[x] (Array.getElem_mem hi)
      obtain rfl : k2 = k := kd.inj _ _ _ hk2 hk
      have zz : (merged l (m.take x)).length ≤ sizeLine := by
        have a1 := merged_length_le l (m.take x)
        have a2 : (m.take x).length ≤ m.length := by
          rw [List.length_take]
          omega
        omega
      dsimp only
      rw [hh, hv]
      refine wpAny_bind (wpAny_holding ?_)
      rw [if_neg Bool.false_ne_true]
      refine put_wp hk d2 zz fun h3 d3 sb3 => ?_
      have o3 : h3.get? o = some oo := (sb3.2 o (Ne.symm ne)).trans o2
      refine wpAny_bind (wpAny_dictEpoch o3 go3 ?_)
      rw [if_neg (by simp)]
      exact wpAny_pure ⟨h3, x + 1, rfl, rfl, hi, by rw [merged_take_succ l m x (k2, v) hm]; exact d3, o3, sb.trans sb3⟩
    · rintro b st ⟨h2, i, rfl, er, le, d2, o2, sb⟩
      have hi : i = eo.size := by
        rcases Nat.lt_or_ge i eo.size with h | h
        · rw [List.drop_eq_getElem_cons (by rw [List.length_range]; exact h)] at er
          cases er
        · exact Nat.le_antisymm le h
      refine wpAny_pure (q h2 ?_ (ho.sameBut sb (Ne.symm ne)) sb)
      rw [hi, ← len, List.take_length] at d2
      exact d2
end
end Ks

namespace Ks
open PySem L2
section
variable {X : Cx} {e1 e2 e3 : Expr} {t1 t2 t3 : TE} {pos : Pos}
theorem inv_pour {pins : List (Addr × Obj)} {σ : L2.St} {H : Hp} {s : Shared} {E : Value → Shared → Prop} {A : Around} {a o : Addr} {ka ko : List (Key × V)} {Q : Unit → Shared → Prop} (I : Inv X pins σ H s) (ha : H a = some (.dK ka)) (ho : H o = some (.dK ko)) (ne : a ≠ o) (z : ka.length + ko.length ≤ sizeLine)
    (q : ∀ s', Inv X pins σ (upd H a (.dK (mergeK ka ko))) s' → Q () s') : wpAny (model X.prog X.w) A (mergeMapping a (.ref o) false) Q E s := by
  obtain ⟨z1, n1, va, ra, da⟩ := dk_of I.hok ha
  obtain ⟨z2, n2, vo, ro, dd⟩ := dk_of I.hok ho
  have l1 := ra.length
  have l2 := ro.length
  refine pour_wp ne n2 da dd (by omega) fun h2 d2 o2 sb => q _ ?_
  have he : ∃ y, h2.get? a = some y := let ⟨y, _, _, hy, _⟩ := d2; ⟨y, hy⟩
  exact d_write I (by rw [ha]; exact True.intro) sb he (dk_new (Nat.le_trans (length_mergeK ko ka) z) n1 (KV.merge ro ra) d2)
/-- one dict more, poured into the one at p that holds acc -/
def tPour (p : Addr) (acc : List (Key × V)) (t : TE) (k : List (Key × V) → St → Hp → Prop) : St → Hp → Prop := fun σ H => t σ H fun x H1 => ∃ (a : Addr) (ka : List (Key × V)), x = .ref a ∧ H1 p = some (.dK acc) ∧ H1 a = some (.dK ka) ∧ p ≠ a ∧ acc.length + ka.length ≤ sizeLine ∧ k (mergeK acc ka) σ (upd H1 p (.dK (mergeK acc ka)))
/-- {**e1, **e2} -/
def tStar2 (t1 t2 : TE) : TE := fun σ H Q => ∀ p, H p = none → tPour p [] t1 (fun acc => tPour p acc t2 fun _ _ H1 => Q (.ref p) H1) σ (upd H p (.dK []))
def tStar3 (t1 t2 t3 : TE) : TE := fun σ H Q => ∀ p, H p = none → tPour p [] t1 (fun acc => tPour p acc t2 fun acc => tPour p acc t3 fun _ _ H1 => Q (.ref p) H1) σ (upd H p (.dK []))
theorem pe_star2 (h1 : PE X e1 t1) (h2 : PE X e2 t2) : PE X (.Dict [none, none] [e1, e2] pos) (tStar2 t1 t2) := by
  refine ⟨fun pins s σ H Q I h => ?_⟩
  rw [arm_eval_Dict]
  have e : (evalEachOpt [none, none] X.env).zip ((evalEach [e1, e2] X.env).map fun v => do let x ← v; standAt pos; pure x) = [(none, do let x ← eval e1 X.env; standAt pos; pure x), (none, do let x ← eval e2 X.env; standAt pos; pure x)] := rfl
  rw [e]
  unfold dictDisplay
  refine wpAny_bind (wpAny_standAt ?_)
  dsimp only
  refine wpAny_bind ?_
  rw [List.forIn_cons]
  refine wpAny_bind ?_
  dsimp only
  refine wpAny_bind (wpAny_pure (a := none) ?_)
  dsimp only
  refine wpAny_bind (wpAny_alloc ?_)
  have big := I.big
  have fr := I.hok.fresh (Nat.le_refl s.heap.objs.size)
  have I1 := I.laid (a := s.heap.objs.size) (o := .dK []) (h' := s.heap.push { cls := .type "dict", data := .dict #[] }) (t' := s.toks) (fun _ _ y => Heap.get?_push_of_some _ y) (Nat.le_refl _) (dk_empty s.heap big)
  refine wpAny_bind (wpAny_holding (wpAny_bind (thn (h1.run pins _ σ _ _ I1 (h _ fr)) fun v s1 ⟨x, H1, J1, r1, a, ka, ex, p1, a1, ne1, z1, h⟩ => ?_)))
  subst ex
  cases r1
  refine wpAny_bind (wpAny_standAt (wpAny_pure ?_))
  refine wpAny_bind (wpAny_onRaise (wpAny_tryCatch (wpAny_onRaise (wpAny_holding (inv_pour J1 p1 a1 ne1 z1 fun s2 J => ?_)))))
  refine wpAny_pure ?_
  dsimp only
  rw [List.forIn_cons]
  refine wpAny_bind ?_
  dsimp only
  refine wpAny_bind (wpAny_pure (a := some s.heap.objs.size) ?_)
  dsimp only
  refine wpAny_bind (wpAny_pure ?_)
  refine wpAny_bind (wpAny_holding (wpAny_bind (thn (h2.run pins _ σ _ _ J h) fun v s1 ⟨x, H1, J1, r1, a, ka, ex, p1, a1, ne1, z1, h⟩ => ?_)))
  subst ex
  cases r1
  refine wpAny_bind (wpAny_standAt (wpAny_pure ?_))
  refine wpAny_bind (wpAny_onRaise (wpAny_tryCatch (wpAny_onRaise (wpAny_holding (inv_pour J1 p1 a1 ne1 z1 fun s2 J => ?_)))))
  refine wpAny_pure ?_
  dsimp only
  rw [List.forIn_nil]
  refine wpAny_pure ?_
  dsimp only
  refine wpAny_bind (wpAny_pure (a := some s.heap.objs.size) ?_)
  dsimp only
  exact wpAny_pure ⟨.ref s.heap.objs.size, _, J, rfl, h⟩
theorem pe_star3 (h1 : PE X e1 t1) (h2 : PE X e2 t2) (h3 : PE X e3 t3) : PE X (.Dict [none, none, none] [e1, e2, e3] pos) (tStar3 t1 t2 t3) := by
  refine ⟨fun pins s σ H Q I h => ?_⟩
  rw [arm_eval_Dict]
  have e : (evalEachOpt [none, none, none] X.env).zip ((evalEach [e1, e2, e3] X.env).map fun v => do let x ← v; standAt pos; pure x) = [(none, do let x ← eval e1 X.env; standAt pos; pure x), (none, do let x ← eval e2 X.env; standAt pos; pure x), (none, do let x ← eval e3 X.env; standAt pos; pure x)] := rfl
  rw [e]
  unfold dictDisplay
  refine wpAny_bind (wpAny_standAt ?_)
  dsimp only
  refine wpAny_bind ?_
  rw [List.forIn_cons]
  refine wpAny_bind ?_
  dsimp only
  refine wpAny_bind (wpAny_pure (a := none) ?_)
  dsimp only
  refine wpAny_bind (wpAny_alloc ?_)
  have big := I.big
  have fr := I.hok.fresh (Nat.le_refl s.heap.objs.size)
  have I1 := I.laid (a := s.heap.objs.size) (o := .dK []) (h' := s.heap.push { cls := .type "dict", data := .dict #[] }) (t' := s.toks) (fun _ _ y => Heap.get?_push_of_some _ y) (Nat.le_refl _) (dk_empty s.heap big)
  refine wpAny_bind (wpAny_holding (wpAny_bind (thn (h1.run pins _ σ _ _ I1 (h _ fr)) fun v s1 ⟨x, H1, J1, r1, a, ka, ex, p1, a1, ne1, z1, h⟩ => ?_)))
  subst ex
  cases r1
  refine wpAny_bind (wpAny_standAt (wpAny_pure ?_))
  refine wpAny_bind (wpAny_onRaise (wpAny_tryCatch (wpAny_onRaise (wpAny_holding (inv_pour J1 p1 a1 ne1 z1 fun s2 J => ?_)))))
  refine wpAny_pure ?_
  dsimp only
  rw [List.forIn_cons]
  refine wpAny_bind ?_
  dsimp only
  refine wpAny_bind (wpAny_pure (a := some s.heap.objs.size) ?_)
  dsimp only
  refine wpAny_bind (wpAny_pure ?_)
  refine wpAny_bind (wpAny_holding (wpAny_bind (thn (h2.run pins _ σ _ _ J h) fun v s1 ⟨x, H1, J1, r1, a, ka, ex, p1, a1, ne1, z1, h⟩ => ?_)))
  subst ex
  cases r1
  refine wpAny_bind (wpAny_standAt (wpAny_pure ?_))
  refine wpAny_bind (wpAny_onRaise (wpAny_tryCatch (wpAny_onRaise (wpAny_holding (inv_pour J1 p1 a1 ne1 z1 fun s2 J => ?_)))))
  refine wpAny_pure ?_
  dsimp only
  rw [List.forIn_cons]
  refine wpAny_bind ?_
  dsimp only
  refine wpAny_bind (wpAny_pure (a := some s.heap.objs.size) ?_)
  dsimp only
  refine wpAny_bind (wpAny_pure ?_)
  refine wpAny_bind (wpAny_holding (wpAny_bind (thn (h3.run pins _ σ _ _ J h) fun v s1 ⟨x, H1, J1, r1, a, ka, ex, p1, a1, ne1, z1, h⟩ => ?_)))
  subst ex
  cases r1
  refine wpAny_bind (wpAny_standAt (wpAny_pure ?_))
  refine wpAny_bind (wpAny_onRaise (wpAny_tryCatch (wpAny_onRaise (wpAny_holding (inv_pour J1 p1 a1 ne1 z1 fun s2 J => ?_)))))
  refine wpAny_pure ?_
  dsimp only
  rw [List.forIn_nil]
  refine wpAny_pure ?_
  dsimp only
  refine wpAny_bind (wpAny_pure (a := some s.heap.objs.size) ?_)
  dsimp only
  exact wpAny_pure ⟨.ref s.heap.objs.size, _, J, rfl, h⟩
end
end Ks

namespace Ks
open PySem PySem.Spec PyProof.Rows L2
section
variable {X : Cx}
/-- the pairs as they stand, and what the dict makes of them -/
theorem stand_pairs {pins : List (Addr × Obj)} {σ : L2.St} {H : Hp} {s : Shared} (I : Inv X pins σ H s) : ∀ {ps : List Addr} {kvs : List (Key × V)}, Paired (fun p kv => SqT X.K H p [kV kv.1, kv.2]) ps kvs →
    ∃ (us : List (Value × Value)) (prs : List (Key × Value)), KV kvs prs ∧ us.length = ps.length ∧ prs.length = ps.length ∧ ∀ (j : Nat) (k v : Value), us[j]? = some (k, v) → ∃ (b : Addr) (kk : Key), ps[j]? = some b ∧ IsTup s.heap b #[k, v] ∧ prs[j]? = some (kk, v) ∧ keyIs kk k = true
  | _, _, .nil => ⟨[], [], .nil, rfl, rfl, fun j k v e => by simp at e⟩
  | _, _, .cons (a := p) (b := kv) h t => by
    obtain ⟨us, prs, r, l1, l2, w⟩ := stand_pairs I t
    obtain ⟨its, rv, tp, _⟩ := I.tuple h
    obtain ⟨u, y, ei, ru, ry⟩ := vals2 rv
    subst ei
    refine ⟨(u, y) :: us, (kv.1, y) :: prs, .cons ⟨rfl, ry⟩ r, by rw [List.length_cons, List.length_cons, l1], by rw [List.length_cons, List.length_cons, l2], fun j k v e => ?_⟩
    cases j with
    | zero =>
      have e' : (u, y) = (k, v) := Option.some.inj e
      cases e'
      exact ⟨p, kv.1, rfl, tp, rfl, kV_is (P := X.prog) (w := X.w) ru⟩
    | succ j =>
      obtain ⟨b, kk, e1, e2, e3, e4⟩ := w j k v (by simpa using e)
      exact ⟨b, kk, by simpa using e1, e2, by simpa using e3, e4⟩
/-- dict(t), t a tuple of pairs that is known to have no dict of its own -/
theorem call_dict_tup (hc : X.calm = true) : CallR X (.type "dict") (fun xs H Q => ∃ (a : Addr) (o : Obj) (ps : List Addr) (kvs : List (Key × V)), xs = [.ref a] ∧ H a = some (.frz o (.tup (ps.map V.ref))) ∧ o.dict = none ∧ Paired (fun p kv => SqT X.K H p [kV kv.1, kv.2]) ps kvs ∧
    ∀ p, H p = none → Q (.ref p) (upd H p (.dK (mergeK [] kvs)))) := by
  intro pins s σ H xs us Q I r q
  obtain ⟨a, o, ps, kvs, ex, ha, hd, hp, q⟩ := q
  subst ex
  obtain ⟨u, eu, rx⟩ := vals1 r
  subst eu
  cases rx
  obtain ⟨go, z, its, rv, o2, go2, gc, n, gd⟩ : s.heap.get? a = some o ∧ ObjOk X.prog X.w H s.heap a (.tup (ps.map V.ref)) := I.hok a _ ha
  obtain rfl : o = o2 := Option.some.inj (go.symm.trans go2)
  have ei := refs_at rv
  subst ei
  obtain ⟨us, prs, rel, l1, l2, w⟩ := stand_pairs I hp
  rw [List.length_map] at z
  have big := I.big
  have sq : PlainSeq "tuple" s.heap a (ps.map Value.ref).toArray := ⟨o, n, go, gc, hd, gd⟩
  have it : PairItems s.heap (ps.map Value.ref).toArray (fun j => ps.getD j 0) us := by
    refine ⟨by simp [l1], fun j k v e => ?_⟩
    obtain ⟨b, kk, e1, e2, _, _⟩ := w j k v e
    refine ⟨by simp [e1], .inl ?_⟩
    have e3 : ps.getD j 0 = b := by simp [e1]
    show IsTup s.heap (ps.getD j 0) #[k, v]
    rw [e3]
    exact e2
  have hv : PairsHave (mixKind X.prog X.w) us.length (PairRel us) prs := ⟨by rw [l1, l2], fun j k v e => by
    obtain ⟨b, kk, _, _, e3, e4⟩ := w j k v e
    exact ⟨kk, e3, e4⟩⟩
  refine PySem.call_dict_pairs (PairArg.tuple a _ (fun j => ps.getD j 0) us) (I.ok.hd hc) ⟨sq, it⟩ hv (by omega) fun h2 tk d2 k => ?_
  have ms : (s.heap.objs.size == sysModules) = false := beq_eq_false_iff_ne.mpr (Nat.ne_of_gt big)
  have lz : (mergeK [] kvs).length ≤ sizeLine := by
    refine Nat.le_trans (length_mergeK kvs []) ?_
    rw [List.length_nil, Nat.zero_add, rel.length, l2]
    exact z
  exact ⟨.ref s.heap.objs.size, upd H s.heap.objs.size (.dK (mergeK [] kvs)), I.laid (t' := tk) (fun b o e => k b o (by simp) e) (Nat.le_refl _) (show ObjOk X.prog X.w _ _ _ (.dK (mergeK [] kvs)) from ⟨lz, ms, merged [] prs, KV.merge rel .nil, d2⟩), rfl, q _ (I.hok.fresh (Nat.le_refl _))⟩
/-- tuple(xs), xs a list: a new tuple, known to have no dict of its own -/
theorem call_tup_frz : CallR X (.type "tuple") (fun xs H Q => ∃ (p : Addr) (ys : List V), xs = [.ref p] ∧ SqL X.K H p ys ∧ ∀ (l : Addr) (o : Obj), H l = none → o.dict = none → Q (.ref l) (upd H l (.frz o (.tup ys)))) := by
  intro pins s σ H xs us Q I r h
  obtain ⟨p, ys, rfl, hq, q⟩ := h
  obtain ⟨u, rfl, rx⟩ := vals1 r
  cases rx
  obtain ⟨its, r', pl, hz⟩ := I.list hq
  have n := r'.length
  refine call_tuple_list pl.isList (fun h2 k2 => ?_) (by simp only [List.size_toArray] <;> omega)
  have J : Inv X pins σ H { s with heap := h2 } := I.kept (t' := s.toks) k2
  have at2 : (h2.push { cls := .type "tuple", data := .seq its.toArray }).get? h2.objs.size = some { cls := .type "tuple", data := .seq its.toArray } := Heap.get?_push_size _ rfl
  have ok : ObjOk X.prog X.w (upd H h2.objs.size (.frz { cls := .type "tuple", data := .seq its.toArray } (.tup ys))) (h2.push { cls := .type "tuple", data := .seq its.toArray }) h2.objs.size (.frz { cls := .type "tuple", data := .seq its.toArray } (.tup ys)) :=
    ⟨at2, hz, its, r', IsTup.new _ _⟩
  exact ⟨.ref h2.objs.size, _, J.laid (t' := s.toks) (fun b o e => Heap.get?_push_of_some _ e) (Nat.le_refl _) ok, rfl, q _ _ (J.hok.fresh (Nat.le_refl _)) rfl⟩
end
end Ks

namespace Ks
open PySem PySem.Spec PyProof.Rows L2
theorem back {P : Value → Shared → Prop} {z : V} {v : Value} {s' : Shared} (r : RelV z v) (h : P v s') : PySem.W.CmpBack P v s' := by
  cases z with
  | non => cases (show v = Value.none from r); exact h
  | bl b => cases (show v = Value.bool b from r); exact h
  | int i => obtain ⟨t, e⟩ := (show ∃ t, v = Value.int i t from r); cases e; exact h
  | str x => obtain ⟨t, e⟩ := (show ∃ t, v = Value.str x t from r); cases e; exact h
  | byt b => obtain ⟨t, e⟩ := (show ∃ t, v = Value.bytes b t from r); cases e; exact h
  | flt b => obtain ⟨t, e⟩ := (show ∃ t, v = Value.float b t from r); cases e; exact h
  | ref a => cases (show v = Value.ref a from r); exact h
  | ty n => cases (show v = Value.type n from r); exact h
section
variable {X : Cx} {CX : CXT} {C f : Addr} {fd : FuncData} {ps : List Str} {n : Nat} {sp : Sp} {E : XK} {pos : Pos}
/-- x == y by the class's own def, y of a known type -/
def rOwnI (K : PySem.W.Frag) (C : Addr) (sp : Sp) (E : XK) : R2 := fun x y H Q => ∃ a dx fs tb, x = .ref a ∧ H a = some (.ins C dx fs) ∧ TyX K H y tb ∧ PySem.W.notFirst K C tb = true ∧ sp [x, y] H Q E
theorem op_ownI (F : FnOk X.prog X.w X.K X.mg X.base CX n f fd ps sp) (hs : PySem.W.findIn X.K (.ref C) "__eq__" = some (some (.ref f))) (hf : PySem.W.isFn X.K (.ref f) = true) (hb : Binds X.K fd ps []) (hr : Room n X.A) (hx : Passes CX X E) : OpR X (compareOp .Eq) (rOwnI X.K C sp E) := by
  intro pins s σ H x y v u Q I rx ry h
  obtain ⟨a, dx, fs, tb, rfl, ha, ty, hn, q⟩ := h
  cases (show v = Value.ref a from rx)
  obtain ⟨mA, J, _⟩ := ins_get I.hok ha
  obtain ⟨od, J, _⟩ := J.look
  obtain ⟨m, hF⟩ := I.fr
  obtain ⟨P, Z, p, _⟩ := kit_of I ry ty
  show wpAny (model X.prog X.w) X.A (richCompare .Eq (.ref a) u) (EP X pins σ Q) X.xe s
  refine PySem.W.cmp_K (op := .Eq) (tb := tb) hr.units0 hF I.ok.mod.kin J (Z.ty _ _ I.kIn p) hn hs hf ?_
  refine wpAny_mono (run_fn (us := [.ref a, u]) (vs := [.ref a, y]) F hr hb .nil hx I (.cons rfl (.cons ry .nil)) q) (fun w s' z => ?_) fun _ _ x => x
  obtain ⟨z', H', I', rz, qz⟩ := z
  exact back rz ⟨z', H', I', rz, qz⟩
/-- (a, b, ..) = a tuple or a list of that length -/
def gSeq (K : PySem.W.Frag) (n : Nat) (t : TGs) : TG := fun v σ H Q => gTup K n t v σ H Q ∨ gUnl K n t v σ H Q
theorem pg_seq {es : List Expr} {k : Nat} {t : TGs} {n : Nat} (hc : X.calm = true) (h : PGs X es t)
    (hn : (assignEach es X.env).length = n := by rfl) (hst : (assignEach es X.env).findIdx? (·.1) = none := by rfl) : PG X (.Tuple es k pos) (gSeq X.K n t) :=
  ⟨fun pins s σ H v u Q I r hw => hw.elim ((pg_tup hc h hn hst).run pins s σ H v u Q I r) ((pg_unl hc h hn hst).run pins s σ H v u Q I r)⟩
end
end Ks
namespace Kl
open PySem L2 Kd
/-! data as the library compares it -/
mutual
def py : D → PyData
  | .non => .none
  | .bl b => .bool b
  | .int i => .int i
  | .str x => .str x
  | .tup ds => .tuple (pys ds)
def pys : List D → List PyData
  | [] => []
  | d :: ds => py d :: pys ds
end
mutual
theorem Rep.dp {K : PySem.W.Frag} {H : Hp} : ∀ {d : D} {v : V}, Rep H d v → Dp K H v (py d)
  | .non, _, h => by cases (show _ = V.non from h); exact .non
  | .bl b, _, h => by cases (show _ = V.bl b from h); exact .bl b
  | .int i, _, h => by cases (show _ = V.int i from h); exact .int i
  | .str x, _, h => by cases (show _ = V.str x from h); exact .str x
  | .tup ds, _, ⟨a, vs, e, h, _, r⟩ => by subst e; exact .tup (.inl h) (Reps.dp r)
theorem Reps.dp {K : PySem.W.Frag} {H : Hp} : ∀ {ds : List D} {vs : List V}, Reps H ds vs → DpAll K H vs (pys ds)
  | [], _, h => by cases (show _ = [] from h); exact .nil
  | d :: ds, _, ⟨v, r, e, h, q⟩ => by subst e; exact .cons (Rep.dp h) (Reps.dp q)
end
theorem lay_cont {x : Str} (h : Cont x) : PyData.canLay0 (.str x) = true := by
  show (x.cps.all (· < 0x110000)) = true
  rw [← Array.all_toList, List.all_eq_true]
  intro c hc
  refine decide_eq_true ?_
  rcases h.all c hc with e | e
  · omega
  · have := okx_of e
    omega
structure Good (fs : Fs) : Prop where
  ok : ∀ q ∈ fs, PairOk q
  asc : Asc (fs.map (·.1))
  few : fs.length ≤ 60
theorem lay_files : ∀ {fs : Fs}, (∀ q ∈ fs, PairOk q) → PyData.canLayAll0 (pys (fs.map pairD)) = true
  | [], _ => rfl
  | q :: r, h => by
    have h1 := h q (List.mem_cons_self ..)
    have ih := lay_files (fs := r) fun z hz => h z (List.mem_cons_of_mem _ hz)
    have e1 := h1.lay
    have e2 := lay_cont h1.cont
    simp only [List.map_cons, pys, py, pairD, PyData.canLayAll0, PyData.canLay0, Bool.and_true] at ih e1 e2 ⊢
    rw [e1, e2, ih]
    rfl
theorem depth_files : ∀ fs : Fs, PyData.depthAll (pys (fs.map pairD)) ≤ 1
  | [] => by simp [pys, PyData.depthAll]
  | q :: r => by
    have ih := depth_files r
    have e : PyData.depthAll (pys ((q :: r).map pairD)) = max (max 0 (max 0 0) + 1) (PyData.depthAll (pys (r.map pairD))) := rfl
    omega
theorem shaped_files {fs : Fs} (h : ∀ q ∈ fs, PairOk q) : SeqAt.shaped (py (filesD fs)) = true := by
  have e1 : (py (filesD fs)).canLay0 = true := lay_files h
  have e2 : (py (filesD fs)).depth ≤ 64 := by
    have := depth_files fs
    show PyData.depthAll (pys (fs.map pairD)) + 1 ≤ 64
    omega
  unfold SeqAt.shaped
  rw [e1, decide_eq_true e2]
  rfl
theorem eqv_files : ∀ fs gs : Fs, PyData.eqvAll (pys (fs.map pairD)) (pys (gs.map pairD)) = decide (fs = gs)
  | [], [] => rfl
  | [], _ :: _ => rfl
  | _ :: _, [] => rfl
  | (a, b) :: r, (c, d) :: s => by
    have ih := eqv_files r s
    simp only [List.map_cons, pys, py, pairD, PyData.eqvAll, PyData.eqv, Bool.and_true] at ih ⊢
    rw [ih]
    rw [Bool.eq_iff_iff]
    simp only [Bool.and_eq_true, beq_iff_eq, decide_eq_true_eq, List.cons.injEq, Prod.mk.injEq]
theorem eqv_filesD (fs gs : Fs) : PyData.eqv (py (filesD fs)) (py (filesD gs)) = decide (fs = gs) := eqv_files fs gs
/-! the trees -/
structure TreeF (K : PySem.W.Frag) (mg : Str → Option Value) (C : Addr) : Prop where
  cl : Cls K C
  ca : PySem.W.findIn K (.ref C) "__class__" = some (some (.builtin "object.__class__"))
  cg : PySem.W.specialIn K (.builtin "object.__class__") "__get__" = some (some (.builtin "getset_descriptor.__get__"))
  ct : PySem.W.takesIn K (.builtin "object.__class__") = some true
  cm : PySem.W.mroIn K C (.type "object") = some true
  mC : mg "Tree" = some (.ref C)
  nf : NoAttr K C "_files"
  kC : PySem.W.kitOne K (.ref C) (.ref C) = some true
  kT : PySem.W.kitOne K (.type "tuple") (.ref C) = some false
  kN : PySem.W.kitOne K (.type "NoneType") (.ref C) = some false
  fT : PySem.W.notFirst K C (.type "tuple") = true
  fN : PySem.W.notFirst K C (.type "NoneType") = true
theorem TreeF.fC {K : PySem.W.Frag} {mg : Str → Option Value} {C : Addr} (F : TreeF K mg C) : PySem.W.notFirst K C (.ref C) = true := by
  unfold PySem.W.notFirst
  rw [beq_self_eq_true, Bool.true_or]
def TreeAt (C : Addr) (H : Hp) (a : Addr) (fs : Fs) : Prop := ∃ (dx t : Addr) (o : Obj) (vs : List V), H a = some (.ins C dx [("_files", .ref t)]) ∧ H t = some (.frz o (.tup vs)) ∧ o.dict = none ∧ vs.length ≤ sizeLine ∧ Reps H (fs.map pairD) vs
theorem TreeAt.same {C : Addr} {H H' : Hp} {a : Addr} {fs : Fs} (s : Same H H') (h : TreeAt C H a fs) : TreeAt C H' a fs := by
  obtain ⟨dx, t, o, vs, h1, h2, h3, h4, h5⟩ := h
  exact ⟨dx, t, o, vs, s _ _ h1, s _ _ h2, h3, h4, h5.keep (Same.tk s)⟩
theorem TreeAt.ty {K : PySem.W.Frag} {mg : Str → Option Value} {C : Addr} {H : Hp} {a : Addr} {fs : Fs} (F : TreeF K mg C) (h : TreeAt C H a fs) : TyX K H (.ref a) (.ref C) := by
  obtain ⟨dx, t, o, vs, h1, _⟩ := h
  exact .base (.ins h1 F.cl F.ca F.cg F.ct F.cm)
def spInit (_ : PySem.W.Frag) (C : Addr) : Sp := fun vs H Q _ => ∃ (x dx : Addr) (v : V) (fs : Fs), vs = [.ref x, v] ∧ H x = some (.ins C dx []) ∧ RepL H (filesD fs) v ∧ Good fs ∧
  ∀ H' : Hp, (∀ b o, b ≠ x → H b = some o → H' b = some o) → TreeAt C H' x fs → Q .non H'
/-- a tree made -/
theorem te_make {C : Addr} {sp : Sp} {dvs : List V} {E : XK} {t : TA} {σ : L2.St} {H : Hp} {Q : VK} (h : t σ H fun vs H1 => ∀ x dx, H1 x = none → H1 dx = none → dx ≠ x → sp (.ref x :: (vs ++ dvs)) (upd (upd H1 dx (.own x)) x (.ins C dx [])) (fun v H2 => v = .non ∧ Q (.ref x) H2) E) : tMake C sp dvs E t σ H Q := h
theorem mk_leaf {K : PySem.W.Frag} {C : Addr} {H1 : Hp} {R : Addr → Hp → Prop} {v : V} {fs : Fs} (hr : RepL H1 (filesD fs) v) (hg : Good fs) (k : ∀ (a : Addr) (H' : Hp), Same H1 H' → TreeAt C H' a fs → R a H') :
    ∀ x dx, H1 x = none → H1 dx = none → dx ≠ x → spInit K C [.ref x, v] (upd (upd H1 dx (.own x)) x (.ins C dx [])) (fun v H2 => v = .non ∧ R x H2) C8.E0 := by
  intro x dx hx hd ne
  have s1 : Same H1 (upd (upd H1 dx (.own x)) x (.ins C dx [])) := fun b o e => by
    rw [upd_ne (ne_of_none e hx), upd_ne (ne_of_none e hd)]
    exact e
  exact ⟨x, dx, v, fs, rfl, upd_same, RepX.same s1 hr, hg, fun H' s tr => ⟨rfl, k x H' (fun b o e => s b o (ne_of_none e hx) (s1 b o e)) tr⟩⟩
abbrev s_Tree_init : Stmt := inClass (topS 30) 0
theorem sc_Tree_init : FnScope ["self", "files", "path", "content"] ["self", "files"] (defScope s_Tree_init) := ⟨rfl, rfl, rfl, by decide +kernel, rfl, by decide +kernel, by decide +kernel⟩
end Kl

namespace Kl
open PySem L2 Kd
structure TreeP (P : Program) (w : World) (K : PySem.W.Frag) (mg : Str → Option Value) (base : Heap) (C : Addr) : Prop where
  tf : TreeF K mg C
  ex : ∃ (p g : Addr) (fd : FuncData), PropOf K C "files" p g ∧ FnOk P w K mg base CX0 1 g fd ["self"] (getSp C "_files") ∧ Binds K fd ["self"] []
theorem pe_files {X : Cx} {C : Addr} {j : Nat} {e : Expr} {ta : TE} {pos : Pos} (c : TreeP X.prog X.w X.K X.mg X.base C) (hr : Room j X.A) (hj : 2 ≤ j) (he : PE X e ta)
    (hab : attributeBase e "files" X.env (eval e X.env) = eval e X.env := by rfl) : PE X (.Attribute e "files" pos) (tProp C (getSp C "_files") [] C8.E0 ta) := by
  obtain ⟨p, g, fd, hp, F, b⟩ := c.ex
  exact pe_prop he c.tf.cl hp F (hr.mono hj) b .nil C8.pass0 hab
theorem te_prop {C : Addr} {sp : Sp} {dvs : List V} {E : XK} {ta : TE} {σ : L2.St} {H : Hp} {Q : VK} (h : ta σ H fun x H1 => ∃ a dx fs, x = .ref a ∧ H1 a = some (.ins C dx fs) ∧ sp (.ref a :: dvs) H1 Q E) : tProp C sp dvs E ta σ H Q := h
theorem files_leaf {C : Addr} {H : Hp} {Q : VK} {a : Addr} {fs : Fs} (h : TreeAt C H a fs) (k : ∀ (t : Addr) (o : Obj) (vs : List V), H t = some (.frz o (.tup vs)) → o.dict = none → vs.length ≤ sizeLine → Reps H (fs.map pairD) vs → Q (.ref t) H) :
    ∃ a' dx fs, V.ref a = .ref a' ∧ H a' = some (.ins C dx fs) ∧ getSp C "_files" [.ref a'] H Q C8.E0 := by
  obtain ⟨dx, t, o, vs, h1, h2, h3, h4, h5⟩ := h
  exact ⟨a, dx, _, rfl, h1, a, dx, _, .ref t, rfl, h1, rfl, k t o vs h2 h3 h4 h5⟩
/-- walked while what is newer changes -/
theorem seq_walk0 {K : PySem.W.Frag} {tl : TE} {σ : L2.St} {H H0 H1 : Hp} {R : It → Hp → Prop} {a : Addr} {vs : List V} (h : SeqAt H0 a vs) (s1 : Same H0 H1) (ht : ∀ Q : VK, Q (.ref a) H1 → tl σ H Q) (k : ∀ (J : It) (G : Hp → Prop), Walk J vs.length G (YAt vs) → (∀ H' : Hp, Same H0 H' → G H') → R J H1) : iSeq K tl σ H R := by
  rcases h with h | h
  · exact .inl (ht _ ⟨a, rfl, ⟨_, .inl (Rd.same s1 h)⟩, k _ (fun H => SqT K H a vs) walk_tup fun H' s => .inl (Rd.same s h)⟩)
  · exact .inr (ht _ ⟨a, rfl, ⟨_, SqL.of (s1 _ _ h)⟩, k _ (fun H => SqL K H a vs) walk_list fun H' s => SqL.of (s _ _ h)⟩)
/-- .files of a local -/
theorem te_filesV {C : Addr} {i : Nat} {a : Addr} {fs : Fs} {σ : L2.St} {H : Hp} {Q : VK} (hi : σ[i]? = some (some (.ref a))) (h : TreeAt C H a fs) (k : ∀ (t : Addr) (o : Obj) (vs : List V), H t = some (.frz o (.tup vs)) → o.dict = none → vs.length ≤ sizeLine → Reps H (fs.map pairD) vs → Q (.ref t) H) :
    tProp C (getSp C "_files") [] C8.E0 (tVar i) σ H Q := te_prop (te_v hi (files_leaf h k))
abbrev rDictTup (K : PySem.W.Frag) : List V → Hp → VK → Prop := fun xs H Q => ∃ (a : Addr) (o : Obj) (ps : List Addr) (kvs : List (Key × V)), xs = [.ref a] ∧ H a = some (.frz o (.tup (ps.map V.ref))) ∧ o.dict = none ∧ Paired (fun p kv => SqT K H p [kV kv.1, kv.2]) ps kvs ∧
    ∀ p, H p = none → Q (.ref p) (upd H p (.dK (mergeK [] kvs)))
theorem pairs_of {K : PySem.W.Frag} {H : Hp} : ∀ {fs : Fs} {vs : List V}, Reps H (fs.map pairD) vs → ∃ ps : List Addr, vs = ps.map V.ref ∧ Paired (fun p kv => SqT K H p [kV kv.1, kv.2]) ps (kvF fs)
  | [], _, h => by
    cases (show _ = [] from h)
    exact ⟨[], rfl, .nil⟩
  | q :: r, _, ⟨v, rest, e, hv, hr⟩ => by
    subst e
    obtain ⟨ps, rfl, pr⟩ := pairs_of (fs := r) hr
    obtain ⟨t, rfl, ht⟩ := pair_of hv
    exact ⟨t :: ps, rfl, .cons (.inl ht) pr⟩
/-- dict(x.files) -/
theorem te_dict {K : PySem.W.Frag} {C : Addr} {i : Nat} {a : Addr} {fs : Fs} {σ : L2.St} {H : Hp} {Q : VK} (hi : σ[i]? = some (some (.ref a))) (h : TreeAt C H a fs) (nd : (fs.map (·.1)).Nodup) (k : ∀ p : Addr, H p = none → Q (.ref p) (upd H p (.dK (kvF fs)))) :
    tCB (rDictTup K) (tCons (tProp C (getSp C "_files") [] C8.E0 (tVar i)) tNil) σ H Q := by
  refine te_cb (ta_cons (te_filesV hi h fun t o vs h1 h2 h3 h4 => ta_nil ?_))
  obtain ⟨ps, rfl, pr⟩ := pairs_of (K := K) h4
  refine ⟨t, o, ps, _, rfl, h1, h2, pr, fun p hp => ?_⟩
  have e : mergeK [] (kvF fs) = kvF fs := merge_all V.str nd
  rw [e]
  exact k p hp
def spTEq (K : PySem.W.Frag) (C : Addr) : Sp := fun vs H Q _ => ∃ (a : Addr) (y : V) (fs : Fs), vs = [.ref a, y] ∧ TreeAt C H a fs ∧ (∀ q ∈ fs, PairOk q) ∧
  ((∃ (b : Addr) (gs : Fs), y = .ref b ∧ TreeAt C H b gs ∧ (∀ q ∈ gs, PairOk q) ∧ Q (.bl (decide (fs = gs))) H) ∨ ∃ tb : Value, TyX K H y tb ∧ PySem.W.kitOne K tb (.ref C) = some false ∧ Q (.bl false) H)
def spCheck (_ : PySem.W.Frag) (C : Addr) : Sp := fun vs H Q _ => ∃ (a : Addr) (n : Int) (fs : Fs), vs = [.ref a, .int n] ∧ TreeAt C H a fs ∧ Q .non H
section
variable {P : Program} {w : World} {K : PySem.W.Frag} {mg : Str → Option Value} {base : Heap} {C : Addr}
abbrev s_Tree_files : Stmt := inClass (topS 30) 1
theorem sc_Tree_files : FnScope ["self"] ["self"] (defScope s_Tree_files) := ⟨rfl, rfl, rfl, by decide +kernel, rfl, by decide +kernel, by decide +kernel⟩
theorem ok_files {f : Addr} {fd : FuncData} (F : Fun K "files" "Tree.files" s_Tree_files f fd) (TF : TreeF K mg C) : FnOk P w K mg base CX0 1 f fd ["self"] (getSp C "_files") := by
  refine F.ok sc_Tree_files (fun vs H Q E h => ?_) (fun cdv A outer s H vs Q E hr h => ?_)
  · obtain ⟨a, dx, fs, v, rfl, _⟩ := h
    rfl
  · obtain ⟨a, dx, fs, v, rfl, ha, hl, k⟩ := h
    refine ⟨_, (pss_one (ps_ret (pe_fld (pv 0) rfl))), ?_⟩
    exact ⟨_, rfl, a, C, dx, fs, v, rfl, ha, TF.cl, TF.nf, hl, k⟩
abbrev s_Tree_eq : Stmt := inClass (topS 30) 2
theorem sc_Tree_eq : FnScope ["self", "other"] ["self", "other"] (defScope s_Tree_eq) := ⟨rfl, rfl, rfl, by decide +kernel, rfl, by decide +kernel, by decide +kernel⟩
theorem ok_teq {f : Addr} {fd : FuncData} (F : Fun K "__eq__" "Tree.__eq__" s_Tree_eq f fd) (T : Glo mg) (TF : TreeF K mg C) : FnOk P w K mg base CX0 1 f fd ["self", "other"] (spTEq K C) := by
  refine F.ok sc_Tree_eq (fun vs H Q E h => ?_) (fun cdv A outer s H vs Q E hr h => ?_)
  · obtain ⟨a, y, fs, rfl, _⟩ := h
    rfl
  · obtain ⟨a, y, fs, rfl, ha, hg, k⟩ := h
    refine ⟨_, (pss_one (ps_ret (pe_and (pe_callB call_isi (by rfl) T.isi PyProof.Rows.boot_isinstance (pa_cons (pv 1) (pa_cons (pe_glob (v := .ref C) (by rfl) TF.mC rfl) pa_nil))) (pe_one (pe_cmpR (op_eqD hr.units) (pe_fld (pv 0) rfl) (pe_fld (pv 1) rfl) (nomark _)))))), ?_⟩
    rcases k with ⟨b, gs, rfl, hb, hk, q⟩ | ⟨tb, ty, kt, q⟩
    · refine ⟨_, rfl, _, .ref C, .ref C, .ref C, true, rfl, .own C, hb.ty TF, TF.kC, _, rfl, iteT ?_⟩
      obtain ⟨dx, t, o, vs, h1, h2, h3, h4, h5⟩ := ha
      obtain ⟨dy, u, o2, ws, g1, g2, g3, g4, g5⟩ := hb
      have r1 : Rep H (filesD fs) (.ref t) := ⟨t, vs, rfl, .inr ⟨o, h2⟩, h4, h5⟩
      have r2 : Rep H (filesD gs) (.ref u) := ⟨u, ws, rfl, .inr ⟨o2, g2⟩, g4, g5⟩
      refine ⟨_, rfl, a, C, dx, _, .ref t, rfl, h1, TF.cl, TF.nf, rfl, _, rfl, b, C, dy, _, .ref u, rfl, g1, TF.cl, TF.nf, rfl, _, _, Rep.dp (d := filesD fs) r1, Rep.dp (d := filesD gs) r2, shaped_files hg, shaped_files hk, ?_⟩
      rw [eqv_filesD]
      exact q
    · exact ⟨_, rfl, y, .ref C, tb, .ref C, false, rfl, .own C, ty, kt, _, rfl, iteF q⟩
end
theorem FOk.good {fs : Fs} (h : FOk fs) (a : Asc (fs.map (·.1))) : Good fs := ⟨fun q hq => by
    have hp := h.path q hq
    have hc := h.ct q hq
    have e1 := List.all_eq_true.mp allPaths_ok _ hp
    have e2 : ∀ p ∈ allPaths, p.length ≤ 1000 ∧ PyData.canLay0 (.str p) = true := by decide +kernel
    exact ⟨e1, (e2 _ hp).1, hc.cont, (e2 _ hp).2⟩, a, by have := h.few; omega⟩
theorem EOk.ch {es : Es} (h : EOk es) : ∀ q ∈ es, ChOk q := fun q hq => by
  have hp := h.path q hq
  have e1 := List.all_eq_true.mp allPaths_ok _ hp
  have e2 : ∀ p ∈ allPaths, p.length ≤ 1000 := by decide +kernel
  exact ⟨e1, e2 _ hp, fun c hc => (h.ct q hq c hc).cont⟩
end Kl

namespace Kl
open PySem L2 Kd Kx
/-! Tree(files) of any data: a tree, or BadValue(1) -/
def conY (d : PyData) : Str := match seqY d with | some [_, .str c] => c | _ => ""
def fsY (d : PyData) : Fs := ((seqY d).getD []).map fun p => (nameY p, conY p)
theorem file_parts {d : PyData} (h : fileY d = true) : ∃ x c, seqY d = some [.str x, .str c] ∧ pathB x = true ∧ signsB 1000 c = true ∧ nameY d = x ∧ conY d = c := by
  unfold fileY at h
  split at h
  · rename_i a b e
    rw [Bool.and_eq_true] at h
    cases a with
    | str x =>
      cases b with
      | str c => exact ⟨x, c, e, h.1, h.2, by unfold nameY; rw [e], by unfold conY; rw [e]⟩
      | none => cases h.2
      | bool _ => cases h.2
      | int _ => cases h.2
      | list _ => cases h.2
      | tuple _ => cases h.2
      | dict _ => cases h.2
    | none => cases h.1
    | bool _ => cases h.1
    | int _ => cases h.1
    | list _ => cases h.1
    | tuple _ => cases h.1
    | dict _ => cases h.1
  · cases h
def spInitY (K : PySem.W.Frag) (C CV : Addr) : Sp := fun vs H Q E => ∃ (x dx : Addr) (v : V) (d : PyData), vs = [.ref x, v] ∧ H x = some (.ins C dx []) ∧ Dp K H v d ∧ YOk d ∧
  (filesY d = true → ∀ H' : Hp, (∀ b o, b ≠ x → H b = some o → H' b = some o) → TreeAt C H' x (fsY d) → Q .non H') ∧
  (filesY d = false → ∀ (dd : Addr) (H' : Hp), Out H H' dd [("at", .int 1)] → E (.ref CV) (some dd) H')
/-- raise X(u), X with the one attribute at -/
theorem raise1 {K : PySem.W.Frag} {C : Addr} {H H1 : Hp} {u : V} {Wd : Addr → Hp → Prop} {E' : XK} (s : Same H H1) (k : ∀ (d : Addr) (H' : Hp), Out H H' d [("at", u)] → Wd d H') :
    ∀ a : Addr, H1 a = none → spAt1 K C (.ref a :: ([u] ++ [])) (upd H1 a (exo a C none)) (fun v H2 => v = .non ∧ ∃ d fs, H2 a = some (exo a C (some d)) ∧ H2 d = some (exd d fs) ∧ H1 d = none ∧ Wd d (upd (del H2 a) d (.xd fs))) E' := by
  intro a ha
  have free : ∀ {d : Addr} {o : HO}, (upd H1 a o) d = none → d ≠ a → H1 d = none := fun h n => by
    rw [upd_ne n] at h
    exact h
  refine ⟨a, u, rfl, upd_same, fun d hd nd => ⟨rfl, d, _, upd_same, by rw [upd_ne nd]; exact upd_same, free hd nd, k d _ (out_of (fun b o q => ?_) (s.free ha) (s.free (free hd nd)) nd)⟩⟩
  have q4 := s _ _ q
  rw [upd_ne (ne_of_none q4 ha), upd_ne (ne_of_none q4 (free hd nd)), upd_ne (ne_of_none q4 ha)]
  exact q4
section
variable {P : Program} {w : World} {K : PySem.W.Frag} {mg : Str → Option Value} {base : Heap}
theorem ok_initY {C CV fV f : Addr} {fd fdV : FuncData} {dvs : List V} (F : FunD K "__init__" "Tree.__init__" (defArgs s_Tree_init) (defBody s_Tree_init) (defScope s_Tree_init) dvs [] f fd) (T : Glo mg) (TF : TreeF K mg C) (c_is_files : C8.Cal P w K mg base 4 "is_files" (spY filesY K) [])
    (eV : Err K mg "BadValue" CV fV) (gV : FnOk P w K mg base CX0 1 fV fdV ["self", "at"] (spAt1 K CV)) (bV : Binds K fdV ["self", "at"] []) :
    FnOk P w K mg base (L2N.CX P w) 5 f fd ["self", "files"] (spInitY K C CV) := by
  refine F.ok sc_Tree_init (fun vs H Q E h => ?_) (fun cdv A outer s H vs Q E hr h => ?_)
  · obtain ⟨x, dx, v, d, rfl, _⟩ := h
    rfl
  · obtain ⟨x, dx, v, d, rfl, hx, hv, yo, k, ke⟩ := h
    have r2 : Room 2 _ := hr.mono (by decide)
    have tk := L2N.takes_of (X := cxOf (L2N.CX P w) P w K mg base ["self", "files", "path", "content"] "Tree.__init__" (defScope s_Tree_init) f cdv A outer s H E) rfl rfl rfl rfl
    refine ⟨_, (pss_cons (ps_if (pt_not (pt_val (C8.pe_c c_is_files hr (by omega) (by rfl) (pa_cons (pv 1) pa_nil))))
      (pss_one (L2N.ps_raise rfl tk (nmk_ex eV.ex eV.ini eV.tI gV r2 bV pass0 (by rfl) eV.mc (pa_cons pe_int pa_nil))))
      pss_nil)
      (pss_one (ps_fld (pv 0) (pe_callTy Ks.call_tup_frz (by rfl) T.tuple PyProof.Rows.boot_tuple (pa_cons (pe_lc (own := [("path", 2), ("content", 3)]) (g := (Ks.gSeq K 2 (gCons (gName 2) (gCons (gName 3) gNil)))) (tt := tYes) rfl sc_Tree_init.nd (pi_seq (pv 1)) (blkOk_by (N := ["self", "files", "path", "content"]) (sc := defScope s_Tree_init) (by decide +kernel)) (fun _ _ _ _ _ => (Ks.pg_seq rfl (pgs_cons (pg_name (i := 2) sc_Tree_init.nd rfl (.inl rfl)) (pgs_cons (pg_name (i := 3) sc_Tree_init.nd rfl (.inl rfl)) pgs_nil)))) (fun _ _ _ _ _ => pts_nil) (fun _ _ _ _ _ => (pe_tup (pa_cons (pv 2) (pa_cons (pv 3) pa_nil))))) pa_nil)) rfl))), ?_⟩
    refine st_seq (st_if (tt_not (tt_b (te_call (ta_cons ⟨_, rfl, ta_nil ⟨v, d, rfl, hv, yo, fun H1 s1 => ⟨_, rfl, ?_⟩⟩⟩)))))
    cases ef : filesY d with
    | false =>
      refine iteT ?_
      exact ⟨(by show 1 ≤ 1000; decide), raise1 s1 fun dd H' o => ke ef dd H' o⟩
    | true =>
      refine iteF (st_next ?_)
      dsimp only
      obtain ⟨ds, es, hn⟩ : ∃ ds, seqY d = some ds ∧ (ds.length ≤ 60 ∧ ds.all fileY = true) := by
        unfold filesY at ef
        split at ef
        · rename_i ds e
          rw [Bool.and_eq_true, Bool.and_eq_true, decide_eq_true_eq] at ef
          exact ⟨ds, e, ef.1, ef.2.1⟩
        · cases ef
      obtain ⟨l60, an⟩ := hn
      rw [List.all_eq_true] at an
      obtain ⟨a, vs, rfl, sq, al⟩ := Dp.seq (Dp.same s1 hv) es
      have vl := DpAll.len al
      have ks := k ef
      rw [show fsY d = ds.map fun p => (nameY p, conY p) by unfold fsY; rw [es]; rfl] at ks
      clear k ke
      refine te_cb (ta_cons (te_lc ?_))
      refine seqY_walk sq (fun Q q => ⟨_, rfl, q⟩) fun J G w hG D hD => ?_
      refine lc_it w (fun i H2 => Same H1 H2 ∧ ∃ ts : List V, H2 D = some (.lst ts) ∧ ts.length = i ∧ Reps H2 ((ds.take i).map fun p => pairD (nameY p, conY p)) ts) ⟨Same.new hD, [], upd_same, rfl, rfl⟩ (fun i H2 _ q => hG H2 q.1) ?_ ?_
      · rintro i y Hx H2 hi ⟨s2, ts, e2, l2, r2⟩ ⟨rfl, hy⟩
        have hil : i < ds.length := by omega
        have hqi : ds[i]? = some ds[i] := List.getElem?_eq_getElem hil
        obtain ⟨v, hv, hdp⟩ := DpAll.get al hqi
        obtain rfl : v = y := Option.some.inj (hv.symm.trans hy)
        obtain ⟨px, pc, e5, _, _, en, ec⟩ := file_parts (an _ (List.getElem_mem hil))
        obtain ⟨c, ws, rfl, hc, al5⟩ := Dp.seq (Dp.same s2 hdp) e5
        cases al5 with
        | cons d0 al6 =>
        cases al6 with
        | cons d1 al7 =>
        cases al7
        cases d0
        cases d1
        have fin : ∀ σ : L2.St, σ = [some (V.ref x), some (V.ref a), some (V.str px), some (V.str pc)] → wipe σ [2, 3] = [some (V.ref x), some (V.ref a), none, none] ∧ tYes σ H2 fun b H3 =>
            if b = true then (tTup (tCons (tVar 2) (tCons (tVar 3) tNil))) σ H3 fun y H4 => ∃ acc, H4 D = some (.lst acc) ∧ acc.length < sizeLine ∧ (Same H1 (upd H4 D (.lst (acc ++ [y]))) ∧ ∃ ts : List V, upd H4 D (.lst (acc ++ [y])) D = some (.lst ts) ∧ ts.length = i + 1 ∧ Reps (upd H4 D (.lst (acc ++ [y]))) ((ds.take (i + 1)).map fun p => pairD (nameY p, conY p)) ts) else (Same H1 H3 ∧ ∃ ts : List V, H3 D = some (.lst ts) ∧ ts.length = i + 1 ∧ Reps H3 ((ds.take (i + 1)).map fun p => pairD (nameY p, conY p)) ts) := by
          rintro σ rfl
          refine ⟨rfl, _, rfl, _, rfl, (by show 2 ≤ sizeLine; decide), fun p hp => ?_⟩
          have hDp : D ≠ p := fun z => by
            rw [← z, e2] at hp
            cases hp
          refine ⟨ts, by rw [upd_ne hDp]; exact e2, small_lt (by omega), Same.mut (fun b o z => by rw [upd_ne (ne_of_none (s2 b o z) hp)]; exact s2 b o z) hD, ts ++ [.ref p], upd_same, by rw [List.length_append]; simp only [List.length_cons, List.length_nil]; omega, ?_⟩
          rw [map_take_succ (fun p => pairD (nameY p, conY p)) hqi]
          have tk : Tk (upd H2 p (.tup [.str px, .str pc])) (upd (upd H2 p (.tup [.str px, .str pc])) D (.lst (ts ++ [.ref p]))) := Tk.lst (by rw [upd_ne hDp]; exact e2)
          refine Reps.snoc (Reps.keep tk (Reps.keep (Tk.new hp) r2)) (Rep.keep tk ?_)
          show Rep _ (pairD (nameY ds[i], conY ds[i])) _
          rw [en, ec]
          exact pair_rep upd_same
        rcases hc with hc | hc
        · exact .inr ⟨c, _, rfl, hc, rfl, _, _, rfl, _, _, rfl, rfl, fin _ rfl⟩
        · exact .inl ⟨c, _, rfl, hc, rfl, _, _, rfl, _, _, rfl, rfl, fin _ rfl⟩
      · rintro H2 ⟨s2, ts, e2, l2, r2⟩
        rw [vl, List.take_length] at r2
        refine ⟨D, ts, rfl, SqL.of e2, fun l o hl ho => ?_⟩
        have s12 : Same H H2 := fun b o e => s2 b o (s1 b o e)
        have hx2 := s12 _ _ hx
        have lx : l ≠ x := fun z => by
          rw [z, hx2] at hl
          cases hl
        refine ⟨_, rfl, x, C, dx, [], rfl, by rw [upd_ne (Ne.symm lx)]; exact hx2, TF.cl, TF.nf, by decide, ?_⟩
        refine ks _ (fun b u n e => ?_) ⟨dx, l, o, ts, upd_same, by rw [upd_ne lx]; exact upd_same, ho, by rw [l2]; exact small_of (by omega), ?_⟩
        · rw [upd_ne n, upd_ne (ne_of_none (s12 b u e) hl)]
          exact s12 b u e
        · have t1 : Tk H2 (upd H2 l (.frz o (.tup ts))) := Tk.new hl
          have t2 : Tk (upd H2 l (.frz o (.tup ts))) (upd (upd H2 l (.frz o (.tup ts))) x (.ins C dx [("_files", .ref l)])) := Tk.of (u := .ins C dx []) (by rw [upd_ne (Ne.symm lx)]; exact hx2) (fun _ z => nomatch z) (fun _ _ z => nomatch z)
          rw [List.map_map]
          exact Reps.keep t2 (Reps.keep t1 r2)
end
end Kl

namespace Kl
open PySem L2 Kd
/-! lists of texts -/
theorem at_end {xs : List Str} (h : xs ≠ []) : atI (xs.map V.str) (-1) = some (.str (xs.getLast h)) := by
  have e : xs.map V.str = xs.dropLast.map V.str ++ [V.str (xs.getLast h)] := by
    rw [← List.map_singleton, ← List.map_append, List.dropLast_concat_getLast]
  rw [e]
  exact atI_last _ _
theorem sIx_m1 (n d : Nat) : HT.sIx n d (some (-1)) = n - 1 := by
  show (if (-1 : Int) < 0 then ((-1 : Int) + (n : Int)).toNat else min ((-1 : Int)).toNat n) = _
  rw [if_pos (by decide)]
  omega
theorem cut_init (xs : List Str) : cutV (xs.map V.str) none (some (-1)) = xs.dropLast.map V.str := by
  unfold cutV
  rw [HT.sIx_none, List.drop_zero, sIx_m1, Nat.sub_zero, List.dropLast_eq_take, List.map_take, List.length_map]
theorem split_ne (x y : Str) : Txt.split x y ≠ [] := fun e => by
  have := PyProof.Rows.split_pos x y
  rw [e] at this
  cases this
theorem inV_strs (x : Str) (xs : List Str) : inV (.str x) (xs.map V.str) = decide (x ∈ xs) := by
  unfold inV
  rw [Bool.eq_iff_iff, List.any_eq_true, decide_eq_true_eq]
  constructor
  · rintro ⟨v, hv, e⟩
    obtain ⟨y, hy, rfl⟩ := List.mem_map.mp hv
    have : y = x := by simpa [eqV] using e
    rw [← this]
    exact hy
  · intro h
    exact ⟨.str x, List.mem_map.mpr ⟨x, h, rfl⟩, by simp [eqV]⟩
theorem flat_strs (xs : List Str) : (xs.map V.str).all flatV = true := by
  rw [List.all_eq_true]
  intro v hv
  obtain ⟨y, _, rfl⟩ := List.mem_map.mp hv
  rfl
end Kl

namespace Kl
open PySem L2 Kd
def digitP (t : Str) : Int := if t.length = 1 ∧ 48 ≤ t.cps.getD 0 0 ∧ t.cps.getD 0 0 ≤ 57 then (t.cps.getD 0 0 : Int) - 48 else -1
theorem one_sign {t : Str} (h : t.length = 1) : t = ⟨#[t.cps.getD 0 0]⟩ := by
  obtain ⟨⟨l⟩⟩ := t
  match l, h with
  | [c], _ => rfl
theorem digit_mem (c : Nat) : c ∈ ("0123456789" : Str).cps.toList ↔ 48 ≤ c ∧ c ≤ 57 := by
  have e : ("0123456789" : Str).cps.toList = [48, 49, 50, 51, 52, 53, 54, 55, 56, 57] := by decide +kernel
  rw [e]
  simp only [List.mem_cons, List.not_mem_nil, or_false]
  omega
theorem digit_int : ∀ k : Nat, k < 10 → intText? ⟨#[48 + k]⟩ = some (k : Int) := by decide +kernel
theorem digit_lo (t : Str) : -1 ≤ digitP t := by
  unfold digitP
  split <;> omega
theorem digit_hi (t : Str) : digitP t ≤ 9 := by
  unfold digitP
  split <;> omega
def spDigit (_ : PySem.W.Frag) : Sp := fun vs H Q _ => ∃ t : Str, vs = [.str t] ∧ t.length ≤ 100000 ∧ Q (.int (digitP t)) H
section
variable {P : Program} {w : World} {K : PySem.W.Frag} {mg : Str → Option Value} {base : Heap}
abbrev s_digit_of : Stmt := topS 14
theorem sc_digit_of : FnScope ["text"] ["text"] (defScope s_digit_of) := ⟨rfl, rfl, rfl, by decide +kernel, rfl, by decide +kernel, by decide +kernel⟩
theorem ok_digit {f : Addr} {fd : FuncData} (F : Fun K "digit_of" "digit_of" s_digit_of f fd) (T : Glo mg) : FnOk P w K mg base CX0 1 f fd ["text"] (spDigit K) := by
  refine F.ok sc_digit_of (fun vs H Q E h => ?_) (fun cdv A outer s H vs Q E hr h => ?_)
  · obtain ⟨x, rfl, _⟩ := h
    rfl
  · obtain ⟨x, rfl, hx, k⟩ := h
    refine ⟨_, (pss_one (ps_ret (pe_ifExp (PW.pt (pw_and (pt_cmpR op_eq (pe_callB call_len_str (by rfl) T.len PySem.boot_len (pa_cons (pv 0) pa_nil)) pe_int (nomark _)) (pw_and1 (pt_cmpR op_in_str (pv 0) pe_str (by rfl))))) (pe_callTy call_int_str (by rfl) T.int PyProof.Rows.boot_int (pa_cons (pv 0) pa_nil)) (pe_un un_neg pe_int)))), ?_⟩
    refine ⟨_, rfl, _, rfl, small_of hx, rfl, _, rfl, ?_⟩
    by_cases h1 : x.length = 1
    · obtain ⟨c, rfl⟩ : ∃ c, x = ⟨#[c]⟩ := ⟨_, one_sign h1⟩
      rw [decide_eq_true (show V.int ((⟨#[c]⟩ : Str).length : Int) = V.int 1 from rfl)]
      refine iteT ⟨_, rfl, _, _, rfl, rfl, _, rfl, ?_⟩
      rw [StrLaws.found_one]
      by_cases h2 : 48 ≤ c ∧ c ≤ 57
      · rw [decide_eq_true ((digit_mem _).mpr h2)]
        refine iteT ⟨_, rfl, ⟨#[c]⟩, ((c - 48 : Nat) : Int), rfl, ?_, by omega, ?_⟩
        · have := digit_int (c - 48) (by omega)
          rw [show 48 + (c - 48) = c by omega] at this
          exact this
        · have e : digitP ⟨#[c]⟩ = (c : Int) - 48 := if_pos ⟨h1, h2⟩
          rw [e] at k
          rw [show ((c - 48 : Nat) : Int) = (c : Int) - 48 by omega]
          exact k
      · rw [decide_eq_false (fun z => h2 ((digit_mem _).mp z))]
        refine iteF ⟨1, rfl, ?_⟩
        have e : digitP ⟨#[c]⟩ = -1 := if_neg (fun z => h2 z.2)
        rw [e] at k
        exact k
    · rw [decide_eq_false (show V.int (x.length : Int) ≠ V.int 1 from fun e => h1 (by have := V.int.inj e; omega))]
      refine iteF (iteF ⟨1, rfl, ?_⟩)
      unfold digitP at k
      rw [if_neg (fun z => h1 z.1)] at k
      exact k
end
end Kl

namespace Kl
open PySem L2 Kd
/-! lines of texts -/
theorem atS {ps : List Str} {i : Nat} (h : i < ps.length) : atI (ps.map V.str) ((i : Nat) : Int) = some (.str (ps.getD i "")) := by
  refine atI_nat ?_
  rw [List.getElem?_map, List.getElem?_eq_getElem h, List.getD_eq_getElem?_getD, List.getElem?_eq_getElem h]
  rfl
theorem getD_le {ps : List Str} {m : Nat} (h : ∀ x ∈ ps, x.length ≤ m) (i : Nat) : (ps.getD i "").length ≤ m := by
  rw [List.getD_eq_getElem?_getD]
  cases e : ps[i]? with
  | none => exact Nat.zero_le _
  | some x => exact h x (List.mem_of_getElem? e)
theorem ixS {K : PySem.W.Frag} {H : Hp} {p : Addr} {ps : List Str} {i : Int} {j : Nat} {Q : VK} (hp : Strs H p ps) (hi : i = (j : Int)) (h : j < ps.length) (q : Q (.str (ps.getD j "")) H) : rIxL K (.ref p) (.int i) H Q := by
  subst hi
  exact ⟨p, _, _, _, rfl, rfl, SqL.of hp, atS h, q⟩
def needP (ps : List Str) : Option (Str × Int × Int) :=
  if ps.length = 4 ∧ ps.getD 0 "" = "need" ∧ wordB (ps.getD 1 "") = true then (if 1 ≤ digitP (ps.getD 2 "") ∧ digitP (ps.getD 2 "") ≤ digitP (ps.getD 3 "") then some (ps.getD 1 "", digitP (ps.getD 2 ""), digitP (ps.getD 3 "")) else none) else none
structure PartsOk (ps : List Str) : Prop where
  ne : 1 ≤ ps.length
  few : ps.length ≤ 100000
  len : ∀ x ∈ ps, x.length ≤ 100000
def spNeedOf (_ : PySem.W.Frag) : Sp := fun vs H Q _ => ∃ (p : Addr) (ps : List Str), vs = [.ref p] ∧ Strs H p ps ∧ PartsOk ps ∧ (needP ps = none → ∀ H' : Hp, Same H H' → Q .non H') ∧
  ∀ n, needP ps = some n → ∀ (t : Addr) (H' : Hp), Same H H' → H' t = some (.tup [.str n.1, .int n.2.1, .int n.2.2]) → Q (.ref t) H'
def headP (ps : List Str) : Bool :=
  if ps.getD 0 "" ∈ (["file", "put", "drop"] : List Str) then decide (ps.length = 2) && pathB (ps.getD 1 "") else
  if ps.getD 0 "" = "package" then decide (ps.length = 3) && (wordB (ps.getD 1 "") && decide (1 ≤ digitP (ps.getD 2 ""))) else
  if ps.getD 0 "" = "need" then (needP ps).isSome else decide (ps.length = 1)
def spHead (_ : PySem.W.Frag) : Sp := fun vs H Q _ => ∃ (p : Addr) (ps : List Str), vs = [.ref p] ∧ Strs H p ps ∧ PartsOk ps ∧ ∀ H' : Hp, Same H H' → Q (.bl (headP ps)) H'
def barL (c : Str) : List Str := (Txt.split c "\n").map (("|" : Str) ++ ·)
def spCLines (_ : PySem.W.Frag) : Sp := fun vs H Q _ => ∃ c : Str, vs = [.str c] ∧ c.length ≤ 90000 ∧ ∀ (p : Addr) (H' : Hp), Same H H' → H p = none → Strs H' p (barL c) → Q (.ref p) H'
section
variable {P : Program} {w : World} {K : PySem.W.Frag} {mg : Str → Option Value} {base : Heap}
abbrev s_need_of : Stmt := topS 27
theorem sc_need_of : FnScope ["parts", "low", "high"] ["parts"] (defScope s_need_of) := ⟨rfl, rfl, rfl, by decide +kernel, rfl, by decide +kernel, by decide +kernel⟩
theorem ok_need_of {f : Addr} {fd : FuncData} (F : Fun K "need_of" "need_of" s_need_of f fd) (T : Glo mg) (c_is_word : C8.Cal P w K mg base 1 "is_word" (spX wordY K) []) (c_digit_of : C8.Cal P w K mg base 1 "digit_of" (spDigit K) []) : FnOk P w K mg base CX0 2 f fd ["parts"] (spNeedOf K) := by
  refine F.ok sc_need_of (fun vs H Q E h => ?_) (fun cdv A outer s H vs Q E hr h => ?_)
  · obtain ⟨p, ps, rfl, _⟩ := h
    rfl
  · obtain ⟨p, ps, rfl, hp, po, k0, k1⟩ := h
    refine ⟨_, (C8.pss_cut (ps_if (PW.pt (pw_or (pt_cmpR op_ne (pe_callB call_len_seq (by rfl) T.len PySem.boot_len (pa_cons (pv 0) pa_nil)) pe_int (nomark _)) (pw_or (pt_cmpR op_ne (pe_ix ix_list (pv 0) pe_int (fun _ _ => rfl)) pe_str (nomark _)) (pw_or1 (pt_not (pt_val (C8.pe_c c_is_word hr (by omega) (by rfl) (pa_cons (pe_ix ix_list (pv 0) pe_int (fun _ _ => rfl)) pa_nil))))))))
      (pss_one (ps_ret pe_non))
      pss_nil)
      (pss_cons (ps_set (i := 1) sc_need_of.nd rfl (.inl rfl) (C8.pe_c c_digit_of hr (by omega) (by rfl) (pa_cons (pe_ix ix_list (pv 0) pe_int (fun _ _ => rfl)) pa_nil)))
      (pss_cons (ps_set (i := 2) sc_need_of.nd rfl (.inl rfl) (C8.pe_c c_digit_of hr (by omega) (by rfl) (pa_cons (pe_ix ix_list (pv 0) pe_int (fun _ _ => rfl)) pa_nil)))
      (pss_one (ps_ret (pe_ifExp (pt_chain op_le op_le pe_int (pv 1) (pv 2)) (pe_tup (pa_cons (pe_ix ix_list (pv 0) pe_int (fun _ _ => rfl)) (pa_cons (pv 1) (pa_cons (pv 2) pa_nil)))) pe_non)))))), ?_⟩
    refine ⟨fun σ' H' => σ' = [some (.ref p), none, none] ∧ Same H H' ∧ ps.length = 4 ∧ ps.getD 0 "" = "need" ∧ wordB (ps.getD 1 "") = true, ?_, ?_⟩
    · refine tt_or <| tt_b <| te_op <| te_cb <| ta_cons <| te_v rfl <| ta_nil ⟨p, _, rfl, .inl (SqL.of hp), te_c ⟨rfl, _, rfl, ?_⟩⟩
      rw [List.length_map]
      by_cases c4 : ps.length = 4
      · rw [show (!decide (V.int (ps.length : Int) = V.int 4)) = false by rw [c4]; rfl]
        refine iteF <| tt_or <| tt_b <| te_op <| te_op <| te_v rfl <| te_c <| ixS (j := 0) hp rfl (by omega) <| te_c ⟨rfl, _, rfl, ?_⟩
        by_cases cn : ps.getD 0 "" = "need"
        · rw [show (!decide (V.str (ps.getD 0 "") = V.str "need")) = false by rw [cn]; rfl]
          refine iteF <| tt_not <| tt_b <| te_call <| ta_cons <| te_op <| te_v rfl <| te_c <| ixS (j := 1) hp rfl (by omega) <| ta_nil ⟨_, .str _, rfl, .str _, getD_le po.len 1, fun H1 s1 => ⟨_, rfl, ?_⟩⟩
          show if (!wordB (ps.getD 1 "")) = true then _ else _
          cases ew : wordB (ps.getD 1 "") with
          | true => exact iteF ⟨rfl, s1, c4, cn, rfl⟩
          | false =>
            refine iteT (st_ret (te_c (k0 ?_ H1 s1)))
            unfold needP
            rw [if_neg (fun z => by rw [ew] at z; exact absurd z.2.2 (by decide))]
        · rw [show (!decide (V.str (ps.getD 0 "") = V.str "need")) = true by rw [decide_eq_false (fun z => cn (V.str.inj z))]; rfl]
          refine iteT (st_ret (te_c (k0 ?_ H (Same.refl H))))
          unfold needP
          rw [if_neg (fun z => cn z.2.1)]
      · rw [show (!decide (V.int (ps.length : Int) = V.int 4)) = true by rw [decide_eq_false (fun z => c4 (by have := V.int.inj z; omega))]; rfl]
        refine iteT (st_ret (te_c (k0 ?_ H (Same.refl H))))
        unfold needP
        rw [if_neg (fun z => c4 z.1)]
    rintro σ' H1 ⟨rfl, s1, c4, cn, cw⟩
    have hp1 := s1 _ _ hp
    refine st_seq <| st_asg <| te_call <| ta_cons <| te_op <| te_v rfl <| te_c <| ixS (j := 2) hp1 rfl (by omega) <| ta_nil ⟨_, rfl, getD_le po.len 2, st_g ?_⟩
    dsimp only
    refine st_seq <| st_asg <| te_call <| ta_cons <| te_op <| te_v rfl <| te_c <| ixS (j := 3) hp1 rfl (by omega) <| ta_nil ⟨_, rfl, getD_le po.len 3, st_g ?_⟩
    dsimp only
    have en : needP ps = if 1 ≤ digitP (ps.getD 2 "") ∧ digitP (ps.getD 2 "") ≤ digitP (ps.getD 3 "") then some (ps.getD 1 "", digitP (ps.getD 2 ""), digitP (ps.getD 3 "")) else none := by
      unfold needP
      rw [if_pos ⟨c4, cn, cw⟩]
    refine st_ret ?_
    refine ⟨_, rfl, _, _, rfl, rfl, _, rfl, ?_⟩
    by_cases h1 : 1 ≤ digitP (ps.getD 2 "")
    · rw [decide_eq_true h1]
      refine iteT ⟨_, rfl, _, _, rfl, rfl, _, rfl, ?_⟩
      by_cases h2 : digitP (ps.getD 2 "") ≤ digitP (ps.getD 3 "")
      · rw [decide_eq_true h2]
        rw [if_pos ⟨h1, h2⟩] at en
        refine iteT <| te_tup <| ta_cons <| te_op <| te_v rfl <| te_c <| ixS (j := 1) hp1 rfl (by omega) <| ta_cons <| te_v rfl <| ta_cons <| te_v rfl <| ta_nil ⟨(by show 3 ≤ sizeLine; decide), fun t ht => ?_⟩
        exact k1 _ en t _ (fun b o z => by rw [upd_ne (ne_of_none (s1 b o z) ht)]; exact s1 b o z) upd_same
      · rw [decide_eq_false h2]
        rw [if_neg (fun z => h2 z.2)] at en
        exact iteF (k0 en H1 s1)
    · rw [decide_eq_false h1]
      rw [if_neg (fun z => h1 z.1)] at en
      exact iteF ⟨_, rfl, iteF (k0 en H1 s1)⟩
abbrev s_content_lines : Stmt := topS 40
theorem sc_content_lines : FnScope ["content", "line"] ["content"] (defScope s_content_lines) := ⟨rfl, rfl, rfl, by decide +kernel, rfl, by decide +kernel, by decide +kernel⟩
theorem ok_clines {f : Addr} {fd : FuncData} (F : Fun K "content_lines" "content_lines" s_content_lines f fd) : FnOk P w K mg base CX0 1 f fd ["content"] (spCLines K) := by
  refine F.ok sc_content_lines (fun vs H Q E h => ?_) (fun cdv A outer s H vs Q E hr h => ?_)
  · obtain ⟨c, rfl, _⟩ := h
    rfl
  · obtain ⟨c, rfl, hc, k⟩ := h
    refine ⟨_, (pss_one (ps_ret (pe_lc (own := [("line", 1)]) (g := gName 1) (tt := tYes) rfl sc_content_lines.nd (pi_list (pe_split (pv 0) pe_str)) (blkOk_by (N := ["content", "line"]) (sc := defScope s_content_lines) (by decide +kernel)) (fun _ _ _ _ _ => (pg_name (i := 1) sc_content_lines.nd rfl (.inl rfl))) (fun _ _ _ _ _ => pts_nil) (fun _ _ _ _ _ => (pe_op op_add_str pe_str (pv 1)))))), ?_⟩
    refine st_ret <| te_lc ?_
    refine ⟨_, rfl, ⟨_, rfl⟩, c, "\n", rfl, rfl, by decide +kernel, (by rw [sizeLine_eq]; omega), fun p hp => ?_⟩
    have s1 : Same H (upd H p (.lst ((Txt.split c "\n").map V.str))) := Same.new hp
    have p1 : upd H p (.lst ((Txt.split c "\n").map V.str)) p = some (.lst ((Txt.split c "\n").map V.str)) := upd_same
    generalize upd H p (.lst ((Txt.split c "\n").map V.str)) = H1 at s1 p1 ⊢
    have sl := PyProof.Rows.split_le c "\n"
    refine ⟨p, rfl, ⟨_, SqL.of p1⟩, fun D hD => lc_list (K := K) (a := p) (xs := (Txt.split c "\n").map V.str) (fun i H2 => Same H1 H2 ∧ H2 D = some (.lst (((Txt.split c "\n").take i).map fun x => V.str (("|" : Str) ++ x)))) ⟨Same.new hD, upd_same⟩ (fun i H2 _ q => SqL.of (q.1 _ _ p1)) ?_ ?_⟩
    · rintro i y H2 hy ⟨s2, e2⟩
      rw [List.getElem?_map] at hy
      obtain ⟨x, hx, rfl⟩ := Option.map_eq_some_iff.mp hy
      have lx := PyProof.Rows.part_short (List.mem_of_getElem? hx)
      have l1 : ("|" : Str).length = 1 := by decide +kernel
      refine ⟨rfl, _, rfl, _, _, rfl, rfl, small_of (by omega), _, e2, ?_, Same.mut s2 hD, ?_⟩
      · rw [List.length_map, List.length_take, sizeLine_eq]
        omega
      · rw [upd_same, List.take_add_one, hx, List.map_append]
        rfl
    rintro H2 ⟨s2, e2⟩
    rw [List.length_map, List.take_length] at e2
    refine k D H2 (fun b o z => s2 b o (s1 b o z)) (s1.free hD) ?_
    show H2 D = some (.lst ((barL c).map V.str))
    rw [e2]
    unfold barL
    rw [List.map_map]
    rfl
abbrev s_is_head : Stmt := topS 42
theorem sc_is_head : FnScope ["parts", "word"] ["parts"] (defScope s_is_head) := ⟨rfl, rfl, rfl, by decide +kernel, rfl, by decide +kernel, by decide +kernel⟩
theorem ok_head {f : Addr} {fd : FuncData} (F : Fun K "is_head" "is_head" s_is_head f fd) (T : Glo mg) (c_is_path : C8.Cal P w K mg base 2 "is_path" (spX pathY K) []) (c_is_word : C8.Cal P w K mg base 1 "is_word" (spX wordY K) []) (c_digit_of : C8.Cal P w K mg base 1 "digit_of" (spDigit K) []) (c_need_of : C8.Cal P w K mg base 2 "need_of" (spNeedOf K) []) : FnOk P w K mg base CX0 3 f fd ["parts"] (spHead K) := by
  refine F.ok sc_is_head (fun vs H Q E h => ?_) (fun cdv A outer s H vs Q E hr h => ?_)
  · obtain ⟨p, ps, rfl, _⟩ := h
    rfl
  · obtain ⟨p, ps, rfl, hp, po, k⟩ := h
    refine ⟨_, (pss_cons (ps_set (i := 1) sc_is_head.nd rfl (.inl rfl) (pe_ix ix_list (pv 0) pe_int (fun _ _ => rfl)))
      (pss_cons (ps_if (pt_cmpR (r := rIn K false) op_in_seq (pv 1) (pe_tup (pa_strs rfl)) (by rfl))
      (pss_one (ps_ret (pe_and (pe_cmpR op_eq (pe_callB call_len_seq (by rfl) T.len PySem.boot_len (pa_cons (pv 0) pa_nil)) pe_int (nomark _)) (pe_one (C8.pe_c c_is_path hr (by omega) (by rfl) (pa_cons (pe_ix ix_list (pv 0) pe_int (fun _ _ => rfl)) pa_nil))))))
      pss_nil)
      (pss_cons (ps_if (pt_cmpR op_eq (pv 1) pe_str (nomark _))
      (pss_one (ps_ret (pe_and (pe_cmpR op_eq (pe_callB call_len_seq (by rfl) T.len PySem.boot_len (pa_cons (pv 0) pa_nil)) pe_int (nomark _)) (pe_and (C8.pe_c c_is_word hr (by omega) (by rfl) (pa_cons (pe_ix ix_list (pv 0) pe_int (fun _ _ => rfl)) pa_nil)) (pe_one (pe_cmpR op_ge (C8.pe_c c_digit_of hr (by omega) (by rfl) (pa_cons (pe_ix ix_list (pv 0) pe_int (fun _ _ => rfl)) pa_nil)) pe_int (nomark _)))))))
      pss_nil)
      (pss_cons (ps_if (pt_cmpR op_eq (pv 1) pe_str (nomark _))
      (pss_one (ps_ret (pe_cmp (pc_notN (C8.pe_c c_need_of hr (by omega) (by rfl) (pa_cons (pv 0) pa_nil))))))
      pss_nil)
      (pss_one (ps_ret (pe_cmpR op_eq (pe_callB call_len_seq (by rfl) T.len PySem.boot_len (pa_cons (pv 0) pa_nil)) pe_int (nomark _)))))))), ?_⟩
    have n1 := po.ne
    have lenv : ∀ {H1 : Hp} (n : Nat) (i : Int), i = (n : Int) → (decide (V.int (((ps.map V.str).length : Nat) : Int) = V.int i)) = decide (ps.length = n) := fun n i hi => by
      subst hi
      rw [List.length_map]
      by_cases c : ps.length = n
      · rw [decide_eq_true c, c, decide_eq_true rfl]
      · rw [decide_eq_false c, decide_eq_false (fun z => c (by have := V.int.inj z; omega))]
    refine st_seq <| st_asg <| te_op <| te_v rfl <| te_c <| ixS (j := 0) hp rfl (by omega) <| st_g ?_
    dsimp only
    refine st_seq <| st_if <| tt_b <| te_op <| te_v rfl <| te_tup <| ta_strs ⟨(by show 3 ≤ sizeLine; decide), fun q hq => ?_⟩
    have s1 : Same H (upd H q (.tup ((["file", "put", "drop"] : List Str).map V.str))) := Same.new hq
    have hp1 := s1 _ _ hp
    refine ⟨q, _, rfl, .inr (SqT.of upd_same), rfl, flat_strs _, _, rfl, ?_⟩
    show if inV (V.str (ps.getD 0 "")) ((["file", "put", "drop"] : List Str).map V.str) = true then _ else _
    rw [inV_strs]
    generalize upd H q (.tup ((["file", "put", "drop"] : List Str).map V.str)) = H1 at s1 hp1 ⊢
    by_cases c1 : ps.getD 0 "" ∈ (["file", "put", "drop"] : List Str)
    · rw [decide_eq_true c1]
      have eh : headP ps = (decide (ps.length = 2) && pathB (ps.getD 1 "")) := by
        unfold headP
        rw [if_pos c1]
      refine iteT <| st_ret <| te_andv <| te_op <| te_cb <| ta_cons <| te_v rfl <| ta_nil ⟨p, _, rfl, .inl (SqL.of hp1), te_c ⟨rfl, _, rfl, ?_⟩⟩
      rw [lenv (H1 := H1) 2 2 rfl]
      by_cases l2 : ps.length = 2
      · rw [decide_eq_true l2]
        refine iteT <| te_call <| ta_cons <| te_op <| te_v rfl <| te_c <| ixS (j := 1) hp1 rfl (by omega) <| ta_nil ⟨_, .str _, rfl, .str _, getD_le po.len 1, fun H2 s2 => ?_⟩
        have := k H2 fun b o z => s2 b o (s1 b o z)
        rw [eh, decide_eq_true l2, Bool.true_and] at this
        exact this
      · rw [decide_eq_false l2]
        refine iteF ?_
        have := k H1 s1
        rw [eh, decide_eq_false l2, Bool.false_and] at this
        exact this
    rw [decide_eq_false c1]
    refine iteF (st_next ?_)
    dsimp only
    refine st_seq <| st_if <| tt_b <| te_op <| te_v rfl <| te_c ⟨rfl, _, rfl, ?_⟩
    by_cases c2 : ps.getD 0 "" = "package"
    · rw [decide_eq_true (show V.str (ps.getD 0 "") = V.str "package" by rw [c2])]
      have eh : headP ps = (decide (ps.length = 3) && (wordB (ps.getD 1 "") && decide (1 ≤ digitP (ps.getD 2 "")))) := by
        unfold headP
        rw [if_neg c1, if_pos c2]
      refine iteT <| st_ret <| te_andv <| te_op <| te_cb <| ta_cons <| te_v rfl <| ta_nil ⟨p, _, rfl, .inl (SqL.of hp1), te_c ⟨rfl, _, rfl, ?_⟩⟩
      rw [lenv (H1 := H1) 3 3 rfl]
      by_cases l3 : ps.length = 3
      · rw [decide_eq_true l3]
        refine iteT <| te_andv <| te_call <| ta_cons <| te_op <| te_v rfl <| te_c <| ixS (j := 1) hp1 rfl (by omega) <| ta_nil ⟨_, .str _, rfl, .str _, getD_le po.len 1, fun H2 s2 => ⟨_, rfl, ?_⟩⟩
        have s02 : Same H H2 := fun b o z => s2 b o (s1 b o z)
        show if wordB (ps.getD 1 "") = true then _ else _
        cases ew : wordB (ps.getD 1 "") with
        | false =>
          refine iteF ?_
          have := k H2 s02
          rw [eh, ew, Bool.false_and, Bool.and_false] at this
          exact this
        | true =>
          refine iteT <| te_op <| te_call <| ta_cons <| te_op <| te_v rfl <| te_c <| ixS (j := 2) (s2 _ _ hp1) rfl (by omega) <| ta_nil ⟨_, rfl, getD_le po.len 2, te_c ⟨_, _, rfl, rfl, ?_⟩⟩
          have := k H2 s02
          rw [eh, ew, decide_eq_true l3, Bool.true_and, Bool.true_and] at this
          exact this
      · rw [decide_eq_false l3]
        refine iteF ?_
        have := k H1 s1
        rw [eh, decide_eq_false l3, Bool.false_and] at this
        exact this
    rw [decide_eq_false (show V.str (ps.getD 0 "") ≠ V.str "package" from fun z => c2 (V.str.inj z))]
    refine iteF (st_next ?_)
    dsimp only
    refine st_seq <| st_if <| tt_b <| te_op <| te_v rfl <| te_c ⟨rfl, _, rfl, ?_⟩
    by_cases c3 : ps.getD 0 "" = "need"
    · rw [decide_eq_true (show V.str (ps.getD 0 "") = V.str "need" by rw [c3])]
      have eh : headP ps = (needP ps).isSome := by
        unfold headP
        rw [if_neg c1, if_neg c2, if_pos c3]
      refine iteT <| st_ret ?_
      refine te_call <| ta_cons <| te_v rfl <| ta_nil ⟨p, ps, rfl, hp1, po, fun e H2 s2 => ?_, fun n e t H2 s2 _ => ?_⟩
      · have := k H2 fun b o z => s2 b o (s1 b o z)
        rw [eh, e] at this
        exact this
      · have := k H2 fun b o z => s2 b o (s1 b o z)
        rw [eh, e] at this
        exact this
    rw [decide_eq_false (show V.str (ps.getD 0 "") ≠ V.str "need" from fun z => c3 (V.str.inj z))]
    refine iteF (st_next ?_)
    dsimp only
    refine st_ret <| te_op <| te_cb <| ta_cons <| te_v rfl <| ta_nil ⟨p, _, rfl, .inl (SqL.of hp1), te_c ⟨rfl, ?_⟩⟩
    rw [lenv (H1 := H1) 1 1 rfl]
    have := k H1 s1
    rw [show headP ps = decide (ps.length = 1) by unfold headP; rw [if_neg c1, if_neg c2, if_neg c3]] at this
    exact this
end
end Kl

namespace Kl
open PySem L2 Kd
/-! kinds of lines, blocks -/
abbrev behT : List (Str × List Str) := [("", ["tree", "edit", "package"]), ("tree", ["file"]), ("file", ["|"]), ("file |", ["|", "file"]), ("edit", ["put", "drop"]), ("put", ["|"]), ("put |", ["|", "put", "drop"]), ("drop", ["put", "drop"]), ("package", ["need", "content"]), ("need", ["need", "content"]), ("content", ["|"]), ("content |", ["|"])]
abbrev lastT : List Str := ["tree", "file |", "edit", "put |", "drop", "content |"]
def behP (k : Str) : List Str := (behT.lookup k).getD []
abbrev kinds : List Str := behT.map (·.1)
def kindP (kind line : Str) : Option Str :=
  if Txt.startswith line "|" = true then (if ("|" : Str) ∈ behP kind then some (if Txt.endswith kind " |" = true then kind else kind ++ " |") else none)
  else if (Txt.split line " ").getD 0 "" ∈ behP kind ∧ headP (Txt.split line " ") = true then some ((Txt.split line " ").getD 0 "") else none
theorem beh_kinds : ∀ k ∈ kinds, ∀ x ∈ behP k, x ≠ "|" → x ∈ kinds := by decide +kernel
theorem bar_kinds : ∀ k ∈ kinds, ("|" : Str) ∈ behP k → (if Txt.endswith k " |" = true then k else k ++ (" |" : Str)) ∈ kinds := by decide +kernel
theorem kind_len : ∀ k ∈ kinds, k.length ≤ 10 := by decide +kernel
theorem bar_iff (x : Str) : Txt.startswith x "|" = (x.cps.toList.head? == some 124) := by
  unfold Txt.startswith
  rw [StrLaws.subAt_eq, List.drop_zero, Nat.zero_add]
  have e1 : ("|" : Str).length = 1 := by decide +kernel
  have e2 : ("|" : Str).cps.toList = [124] := by decide +kernel
  rw [e1, e2, ← len_tl x]
  cases x.cps.toList with
  | nil => rfl
  | cons c r =>
    simp
theorem split_head (line : Str) (h : (Txt.split line " ").getD 0 "" = "|") : Txt.startswith line "|" = true := by
  have j := StrLaws.join_split line " "
  have e := TL.tl_join " " (Txt.split line " ")
  rw [j] at e
  rw [bar_iff]
  cases es : Txt.split line " " with
  | nil => exact absurd es (split_ne _ _)
  | cons a r =>
    rw [es] at h e
    obtain rfl : a = "|" := h
    have e2 : ("|" : Str).cps.toList = [124] := by decide +kernel
    have e3 : line.cps.toList = TL.joinL (TL.tl " ") ((("|" : Str) :: r).map TL.tl) := e
    rw [e3]
    cases r with
    | nil =>
      show ((("|" : Str).cps.toList).head? == some 124) = true
      rw [e2]
      rfl
    | cons b r =>
      show ((("|" : Str).cps.toList ++ _).head? == some 124) = true
      rw [e2]
      rfl
theorem kindP_in {kind line k : Str} (hk : kind ∈ kinds) (h : kindP kind line = some k) : k ∈ kinds := by
  unfold kindP at h
  split at h
  · split at h
    · rename_i c
      cases h
      exact bar_kinds kind hk c
    · cases h
  · rename_i ns
    split at h
    · rename_i c
      cases h
      exact beh_kinds kind hk _ c.1 fun z => ns (split_head line z)
    · cases h
/-- the module's two tables -/
structure Tabs (K : PySem.W.Frag) (w : World) (mg : Str → Option Value) (fB fL : Addr) : Prop where
  mB : mg "BEHIND" = some (.ref fB)
  mL : mg "LAST" = some (.ref fL)
  beh : ∀ k ∈ kinds, ∃ t : Addr, KDct K w fB k (.ref t) ∧ ∀ H : Hp, SqT K H t ((behP k).map V.str)
  lst : ∀ H : Hp, SqT K H fL (lastT.map V.str)
def spKind (_ : PySem.W.Frag) : Sp := fun vs H Q _ => ∃ kind line : Str, vs = [.str kind, .str line] ∧ kind ∈ kinds ∧ line.length ≤ 99000 ∧ ∀ H' : Hp, Same H H' → Q (match kindP kind line with | some k => .str k | none => .non) H'
def spChangeOf (_ : PySem.W.Frag) : Sp := fun vs H Q _ => ∃ (p : Addr) (wd path : Str) (o : Option Str), vs = [.ref p, encO o] ∧ Strs H p [wd, path] ∧ (wd = "drop" → ∀ (t : Addr) (H' : Hp), Same H H' → H' t = some (.tup [.str wd, .str path]) → Q (.ref t) H') ∧
  (wd ≠ "drop" → ∀ (t : Addr) (H' : Hp), Same H H' → H' t = some (.tup [.str wd, .str path, encO o]) → Q (.ref t) H')
abbrev Blk := List Str × Option Str
def joinB (o : Option Str) (l : Str) : Str := match o with | none => Txt.slice l (some 1) none | some c => (c ++ "\n") ++ Txt.slice l (some 1) none
def stepB (acc : List Blk) (l : Str) : List Blk := if Txt.startswith l "|" = true then acc.dropLast ++ [((acc.getLast?.getD ([], none)).1, some (joinB (acc.getLast?.getD ([], none)).2 l))] else acc ++ [(Txt.split l " ", none)]
def blocksP (ls : List Str) : List Blk := ls.foldl stepB []
def BlkAt (H : Hp) (v : V) (b : Blk) : Prop := ∃ t q : Addr, v = .ref t ∧ H t = some (.tup [.ref q, encO b.2]) ∧ Strs H q b.1
def spBlocks (_ : PySem.W.Frag) : Sp := fun vs H Q _ => ∃ (p : Addr) (ls : List Str), vs = [.ref p] ∧ Strs H p ls ∧ (∀ l, ls[0]? = some l → Txt.startswith l "|" = false) ∧ (ls.map fun l => l.length + 1).sum ≤ 99000 ∧
  ∀ (B : Addr) (ws : List V) (H' : Hp), Same H H' → H B = none → H' B = some (.lst ws) → Paired (BlkAt H') ws (blocksP ls) → Q (.ref B) H'
theorem slice1 (x : Str) : (Txt.slice x (some 1) none).cps.toList = x.cps.toList.drop 1 := by
  have e1 := SX.slice_from (a := x.cps.toList) (i := 1) (by decide)
  rw [SX.S_tl] at e1
  rw [e1]
  rfl
theorem slice1_len (x : Str) : (Txt.slice x (some 1) none).length ≤ x.length := by
  rw [← len_tl, slice1, List.length_drop, len_tl]
  omega
theorem joinB_len (o : Option Str) (l : Str) (n : Nat) (h : ∀ c, o = some c → c.length ≤ n) : (joinB o l).length ≤ n + 1 + l.length := by
  have := slice1_len l
  cases o with
  | none => show (Txt.slice l (some 1) none).length ≤ _; omega
  | some c =>
    have h1 := h c rfl
    have e1 : ("\n" : Str).length = 1 := by decide +kernel
    show ((c ++ "\n") ++ Txt.slice l (some 1) none).length ≤ _
    rw [len_cat, len_cat, e1]
    omega
theorem stepB_ne (acc : List Blk) (l : Str) : stepB acc l ≠ [] := by
  unfold stepB
  split <;> simp
theorem blocksP_snoc {ls : List Str} {i : Nat} {l : Str} (h : ls[i]? = some l) : blocksP (ls.take (i + 1)) = stepB (blocksP (ls.take i)) l := by
  unfold blocksP
  rw [List.take_add_one, h, List.foldl_append]
  rfl
theorem paired_last {α : Type} {R : V → α → Prop} : ∀ {as : List α} {ws : List V} {b : α}, Paired R ws (as ++ [b]) → ∃ ws' y, ws = ws' ++ [y] ∧ Paired R ws' as ∧ R y b
  | [], ws, b, h => by
    cases h with
    | cons r t =>
      cases t
      exact ⟨[], _, rfl, .nil, r⟩
  | a :: as, ws, b, h => by
    cases h with
    | cons r t =>
      obtain ⟨ws', y, rfl, p, q⟩ := paired_last t
      exact ⟨_ :: ws', y, rfl, .cons r p, q⟩
/-- with the parts apart from the row of blocks -/
def BlkB (B : Addr) (H : Hp) (v : V) (b : Blk) : Prop := ∃ t q : Addr, v = .ref t ∧ H t = some (.tup [.ref q, encO b.2]) ∧ Strs H q b.1 ∧ q ≠ B
theorem BlkB.same {B : Addr} {H H' : Hp} {v : V} {b : Blk} (s : Same H H') (h : BlkB B H v b) : BlkB B H' v b := by
  obtain ⟨t, q, e, h1, h2, h3⟩ := h
  exact ⟨t, q, e, s _ _ h1, s _ _ h2, h3⟩
theorem BlkB.upd {B : Addr} {H : Hp} {v : V} {b : Blk} {xs : List V} {o : HO} (eB : H B = some (.lst xs)) (h : BlkB B H v b) : BlkB B (L2.upd H B o) v b := by
  obtain ⟨t, q, e, h1, h2, h3⟩ := h
  exact ⟨t, q, e, by rw [upd_ne (ne_of h1 eB (fun z => nomatch z))]; exact h1, by
    show L2.upd H B o q = _
    rw [upd_ne h3]
    exact h2, h3⟩
structure BlkI (H : Hp) (p B : Addr) (ls : List Str) (i : Nat) (ws : List V) (acc : List Blk) (H' : Hp) : Prop where
  same : Same H H'
  new : H B = none
  lns : Strs H' p ls
  blk : H' B = some (.lst ws)
  pr : Paired (BlkB B H') ws acc
  few : acc.length ≤ i
  sz : ∀ b ∈ acc, ∀ c, b.2 = some c → c.length ≤ ((ls.take i).map fun l => l.length + 1).sum
section
variable {P : Program} {w : World} {K : PySem.W.Frag} {mg : Str → Option Value} {base : Heap}
abbrev s_kind_behind : Stmt := topS 41
theorem sc_kind_behind : FnScope ["kind", "line", "parts"] ["kind", "line"] (defScope s_kind_behind) := ⟨rfl, rfl, rfl, by decide +kernel, rfl, by decide +kernel, by decide +kernel⟩
theorem ok_kind {f fB fL : Addr} {fd : FuncData} (F : Fun K "kind_behind" "kind_behind" s_kind_behind f fd) (tb : Tabs K w mg fB fL) (c_is_head : C8.Cal P w K mg base 3 "is_head" (spHead K) []) : FnOk P w K mg base CX0 4 f fd ["kind", "line"] (spKind K) := by
  refine F.ok sc_kind_behind (fun vs H Q E h => ?_) (fun cdv A outer s H vs Q E hr h => ?_)
  · obtain ⟨kind, line, rfl, _⟩ := h
    rfl
  · obtain ⟨kind, line, rfl, hk, hl, k⟩ := h
    refine ⟨_, (pss_cons (ps_if (pt_val (pe_m1 PySem.F.slot_str_startswith PySem.F.type_str_startswith mt_startswith (pv 1) pe_str))
      (pss_cons (ps_if (pt_cmpR (r := rIn K true) op_notIn_seq pe_str (pe_ix (r := rIxD K w) ix_kdict (pe_glob (v := .ref fB) (by rfl) tb.mB rfl) (pv 0) (fun _ _ => rfl)) (by rfl))
        (pss_one (ps_ret pe_non))
        pss_nil)
        (pss_one (ps_ret (pe_ifExp (pt_val (pe_m1 PySem.F.slot_str_endswith PySem.F.type_str_endswith mt_endswith (pv 0) pe_str)) (pv 0) (pe_op op_add_str (pv 0) pe_str)))))
      pss_nil)
      (pss_cons (ps_set (i := 2) sc_kind_behind.nd rfl (.inl rfl) (pe_split (pv 1) pe_str))
      (pss_one (ps_ret (pe_ifExp (PW.pt (pw_and (pt_cmpR (r := rIn K false) op_in_seq (pe_ix ix_list (pv 2) pe_int (fun _ _ => rfl)) (pe_ix (r := rIxD K w) ix_kdict (pe_glob (v := .ref fB) (by rfl) tb.mB rfl) (pv 0) (fun _ _ => rfl)) (by rfl)) (pw_and1 (pt_val (C8.pe_c c_is_head hr (by omega) (by rfl) (pa_cons (pv 2) pa_nil)))))) (pe_ix ix_list (pv 2) pe_int (fun _ _ => rfl)) pe_non))))), ?_⟩
    obtain ⟨t, kd, sq⟩ := tb.beh kind hk
    have kl := kind_len kind hk
    have l2 : (" |" : Str).length = 2 := by decide +kernel
    refine st_seq <| st_if ?_
    refine ⟨_, rfl, ⟨_, rfl⟩, line, "|", rfl, rfl, _, rfl, ?_⟩
    cases sw : Txt.startswith line "|" with
    | true =>
      refine iteT <| st_seq <| st_if <| tt_b <| te_op <| te_c <| te_op <| te_c <| te_v rfl ⟨fB, kind, .ref t, rfl, rfl, kd, t, _, rfl, .inr (sq H), rfl, flat_strs _, _, rfl, ?_⟩
      show if (!inV (V.str "|") ((behP kind).map V.str)) = true then _ else _
      rw [inV_strs]
      by_cases c : ("|" : Str) ∈ behP kind
      · rw [decide_eq_true c]
        refine iteF (st_next ?_)
        dsimp only
        refine st_ret ?_
        refine ⟨_, rfl, ⟨_, rfl⟩, kind, " |", rfl, rfl, _, rfl, ?_⟩
        have ek : kindP kind line = some (if Txt.endswith kind " |" = true then kind else kind ++ " |") := by
          unfold kindP
          rw [if_pos sw, if_pos c]
        have kk := k H (Same.refl H)
        rw [ek] at kk
        cases ew : Txt.endswith kind " |" with
        | true =>
          rw [ew, if_pos rfl] at kk
          exact iteT (te_v rfl kk)
        | false =>
          rw [ew, if_neg (by decide)] at kk
          exact iteF <| te_op <| te_v rfl <| te_c ⟨_, _, rfl, rfl, small_of (by omega), kk⟩
      · rw [decide_eq_false c]
        have ek : kindP kind line = none := by
          unfold kindP
          rw [if_pos sw, if_neg c]
        have kk := k H (Same.refl H)
        rw [ek] at kk
        exact iteT (st_ret (te_c kk))
    | false =>
      refine iteF (st_next ?_)
      dsimp only
      refine st_seq <| st_asg ?_
      refine ⟨_, rfl, ⟨_, rfl⟩, line, " ", rfl, rfl, by decide +kernel, (by rw [sizeLine_eq]; omega), fun p hp => st_g ?_⟩
      dsimp only
      have s1 : Same H (upd H p (.lst ((Txt.split line " ").map V.str))) := Same.new hp
      have p1 : Strs (upd H p (.lst ((Txt.split line " ").map V.str))) p (Txt.split line " ") := upd_same
      generalize upd H p (.lst ((Txt.split line " ").map V.str)) = H1 at s1 p1 ⊢
      have po : PartsOk (Txt.split line " ") := ⟨PyProof.Rows.split_pos _ _, by have := PyProof.Rows.split_le line " "; omega, fun x hx => by have := PyProof.Rows.part_short hx; omega⟩
      have n1 := po.ne
      have ek : kindP kind line = if (Txt.split line " ").getD 0 "" ∈ behP kind ∧ headP (Txt.split line " ") = true then some ((Txt.split line " ").getD 0 "") else none := by
        unfold kindP
        rw [if_neg (by rw [sw]; decide)]
      generalize Txt.split line " " = ps at p1 po n1 ek ⊢
      refine st_ret <| tt_and <| tt_b <| te_op <| te_op <| te_v rfl <| te_c <| ixS (j := 0) p1 rfl (by omega) <| te_op <| te_c <| te_v rfl ⟨fB, kind, .ref t, rfl, rfl, kd, t, _, rfl, .inr (sq _), rfl, flat_strs _, _, rfl, ?_⟩
      show if inV (V.str (ps.getD 0 "")) ((behP kind).map V.str) = true then _ else _
      rw [inV_strs]
      by_cases c : ps.getD 0 "" ∈ behP kind
      · rw [decide_eq_true c]
        refine iteT <| tt_b <| te_call <| ta_cons <| te_v rfl <| ta_nil ⟨p, ps, rfl, p1, po, fun H2 s2 => ⟨_, rfl, ?_⟩⟩
        have kk := k H2 fun b o z => s2 b o (s1 b o z)
        rw [ek] at kk
        cases eh : headP ps with
        | true =>
          rw [if_pos ⟨c, eh⟩] at kk
          exact iteT <| te_op <| te_v rfl <| te_c <| ixS (j := 0) (s2 _ _ p1) rfl (by omega) kk
        | false =>
          rw [if_neg (fun z => by rw [eh] at z; exact absurd z.2 (by decide))] at kk
          exact iteF (te_c kk)
      · rw [decide_eq_false c]
        have kk := k H1 s1
        rw [ek, if_neg (fun z => c z.1)] at kk
        exact iteF (iteF (te_c kk))
abbrev s_change_of : Stmt := topS 45
theorem sc_change_of : FnScope ["parts", "content", "word", "path"] ["parts", "content"] (defScope s_change_of) := ⟨rfl, rfl, rfl, by decide +kernel, rfl, by decide +kernel, by decide +kernel⟩
theorem ok_change_of {f : Addr} {fd : FuncData} (F : Fun K "change_of" "change_of" s_change_of f fd) : FnOk P w K mg base CX0 1 f fd ["parts", "content"] (spChangeOf K) := by
  refine F.ok sc_change_of (fun vs H Q E h => ?_) (fun cdv A outer s H vs Q E hr h => ?_)
  · obtain ⟨p, wd, path, o, rfl, _⟩ := h
    rfl
  · obtain ⟨p, wd, path, o, rfl, hp, k0, k1⟩ := h
    refine ⟨_, (pss_cons (ps_asg (pv 0) (pg_unl rfl (pgs_cons (pg_name (i := 2) sc_change_of.nd rfl (.inl rfl)) (pgs_cons (pg_name (i := 3) sc_change_of.nd rfl (.inl rfl)) pgs_nil))))
      (pss_one (ps_ret (pe_ifExp (pt_cmpR op_eq (pv 2) pe_str (nomark _)) (pe_tup (pa_cons (pv 2) (pa_cons (pv 3) pa_nil))) (pe_tup (pa_cons (pv 2) (pa_cons (pv 3) (pa_cons (pv 1) pa_nil)))))))), ?_⟩
    refine st_seq <| st_asg <| te_v rfl ?_
    refine ⟨p, _, rfl, SqL.of hp, rfl, _, _, rfl, _, _, rfl, rfl, ?_⟩
    dsimp only
    refine st_ret ?_
    refine ⟨_, rfl, rfl, _, rfl, ?_⟩
    by_cases c : wd = "drop"
    · rw [decide_eq_true (show V.str wd = V.str "drop" by rw [c])]
      exact iteT <| te_tup <| ta_cons <| te_v rfl <| ta_cons <| te_v rfl <| ta_nil ⟨(by show 2 ≤ sizeLine; decide), fun t ht => k0 c t _ (Same.new ht) upd_same⟩
    · rw [decide_eq_false (show V.str wd ≠ V.str "drop" from fun z => c (V.str.inj z))]
      exact iteF <| te_tup <| ta_cons <| te_v rfl <| ta_cons <| te_v rfl <| ta_cons <| te_v rfl <| ta_nil ⟨(by show 3 ≤ sizeLine; decide), fun t ht => k1 c t _ (Same.new ht) upd_same⟩
abbrev s_blocks_of : Stmt := topS 43
theorem sc_blocks_of : FnScope ["lines", "blocks", "line", "parts", "ahead"] ["lines"] (defScope s_blocks_of) := ⟨rfl, rfl, rfl, by decide +kernel, rfl, by decide +kernel, by decide +kernel⟩
theorem ok_blocks {f : Addr} {fd : FuncData} (F : Fun K "blocks_of" "blocks_of" s_blocks_of f fd) : FnOk P w K mg base CX0 1 f fd ["lines"] (spBlocks K) := by
  refine F.ok sc_blocks_of (fun vs H Q E h => ?_) (fun cdv A outer s H vs Q E hr h => ?_)
  · obtain ⟨p, ls, rfl, _⟩ := h
    rfl
  · obtain ⟨p, ls, rfl, hp, hf, hs, k⟩ := h
    refine ⟨_, (pss_cons (ps_set (i := 1) sc_blocks_of.nd rfl (.inl rfl) (pe_lst pa_nil))
      (pss_cons (ps_for PassesOwn.never rfl (pi_list (pv 0)) (pg_name (i := 2) sc_blocks_of.nd rfl (.inl rfl))
      (pss_one (ps_if (pt_not (pt_val (pe_m1 PySem.F.slot_str_startswith PySem.F.type_str_startswith mt_startswith (pv 2) pe_str)))
        (pss_one (ps_expr (pe_bm PySem.F.plainAttrs_list PySem.F.slot_list_append PySem.F.type_list_append mt_append (pv 1) (pa_cons (pe_tup (pa_cons (pe_split (pv 2) pe_str) (pa_cons pe_non pa_nil))) pa_nil))))
        (pss_cons (ps_asg (pe_bm0 PySem.F.plainAttrs_list PySem.F.slot_list_pop PySem.F.type_list_pop mt_pop (pv 1)) (pg_tup rfl (pgs_cons (pg_name (i := 3) sc_blocks_of.nd rfl (.inl rfl)) (pgs_cons (pg_name (i := 4) sc_blocks_of.nd rfl (.inl rfl)) pgs_nil))))
          (pss_one (ps_expr (pe_bm PySem.F.plainAttrs_list PySem.F.slot_list_append PySem.F.type_list_append mt_append (pv 1) (pa_cons (pe_tup (pa_cons (pv 3) (pa_cons (pe_ifExp (pt_cmp (pc_isN (pv 4))) (pe_slice C8.sl_txt (pv 2) (po_some pe_int) po_none) (pe_op op_add_str (pe_op op_add_str (pv 4) pe_str) (pe_slice C8.sl_txt (pv 2) (po_some pe_int) po_none))) pa_nil))) pa_nil))))))))
      (pss_one (ps_ret (pv 1))))), ?_⟩
    refine st_seq <| st_asg ?_
    refine ⟨(by show 0 ≤ sizeLine; decide), fun B hB => st_g ?_⟩
    dsimp only
    have pB : p ≠ B := ne_of_none hp hB
    have i0 : BlkI H p B ls 0 [] [] (upd H B (.lst [])) := ⟨Same.new hB, hB, by show upd H B (.lst []) p = _; rw [upd_ne pB]; exact hp, upd_same, .nil, Nat.le_refl _, fun b hb => nomatch hb⟩
    generalize upd H B (.lst []) = H1 at i0 ⊢
    have ll : ls.length ≤ 99000 := by
      have : ∀ xs : List Str, xs.length ≤ (xs.map fun l => l.length + 1).sum := fun xs => by
        induction xs with
        | nil => exact Nat.le_refl _
        | cons x r ih => simp only [List.length_cons, List.map_cons, List.sum_cons]; omega
      exact Nat.le_trans (this ls) hs
    have tk : ∀ i, ((ls.take i).map fun l => l.length + 1).sum ≤ 99000 := fun i => by
      have : ∀ (xs : List Str) (i : Nat), ((xs.take i).map fun l => l.length + 1).sum ≤ (xs.map fun l => l.length + 1).sum := fun xs => by
        induction xs with
        | nil => intro i; simp
        | cons x r ih =>
          intro i
          cases i with
          | zero => simp
          | succ i =>
            have := ih i
            simp only [List.take_succ_cons, List.map_cons, List.sum_cons]
            omega
      exact Nat.le_trans (this ls i) hs
    refine st_seq ?_
    refine ⟨_, rfl, p, rfl, ⟨_, SqL.of i0.lns⟩, for_list (K := K) (a := p) (xs := ls.map V.str) (fun i σ H2 => ∃ (k2 k3 k4 : Option V) (ws : List V), σ = [some (.ref p), some (.ref B), k2, k3, k4] ∧ BlkI H p B ls i ws (blocksP (ls.take i)) H2)
      ⟨_, _, _, _, rfl, i0⟩ (fun i σ H2 _ ⟨_, _, _, _, _, z⟩ => SqL.of z.lns) ?_ ?_⟩
    · rintro i x σ H2 hx ⟨k2, k3, k4, ws, rfl, I⟩
      rw [List.getElem?_map] at hx
      obtain ⟨l, hl, rfl⟩ := Option.map_eq_some_iff.mp hx
      have hil : i < ls.length := (List.getElem?_eq_some_iff.mp hl).1
      have sl : l.length ≤ 99000 := by
        have h1 := tk (i + 1)
        rw [List.take_add_one, hl, List.map_append, List.sum_append] at h1
        simp only [Option.toList_some, List.map_cons, List.map_nil, List.sum_cons, List.sum_nil] at h1
        omega
      have s1 : ((ls.take (i + 1)).map fun l => l.length + 1).sum = ((ls.take i).map fun l => l.length + 1).sum + (l.length + 1) := by
        rw [List.take_add_one, hl, List.map_append, List.sum_append]
        simp
      have eN := blocksP_snoc hl
      have t2 := tk i
      have wl := I.pr.length
      refine st_g ?_
      dsimp only
      refine st_if <| tt_not ?_
      refine ⟨_, rfl, ⟨_, rfl⟩, l, "|", rfl, rfl, _, rfl, ?_⟩
      cases sw : Txt.startswith l "|" with
      | false =>
        have eS : stepB (blocksP (ls.take i)) l = blocksP (ls.take i) ++ [(Txt.split l " ", none)] := by
          unfold stepB
          rw [if_neg (by rw [sw]; decide)]
        rw [eS] at eN
        refine iteT <| st_expr ?_
        refine ⟨_, rfl, .inl ⟨rfl, _, SqL.of I.blk⟩, _, rfl, ⟨_, rfl⟩, l, " ", rfl, rfl, by decide +kernel, (by rw [sizeLine_eq]; omega), fun q hq => ⟨(by show 2 ≤ sizeLine; decide), fun t ht => ?_⟩⟩
        have s3 : Same H2 (upd H2 q (.lst ((Txt.split l " ").map V.str))) := Same.new hq
        have q3 : Strs (upd H2 q (.lst ((Txt.split l " ").map V.str))) q (Txt.split l " ") := upd_same
        have qB : q ≠ B := fun z => by
          rw [z, I.blk] at hq
          cases hq
        generalize upd H2 q (.lst ((Txt.split l " ").map V.str)) = H3 at s3 q3 ht ⊢
        have s4 : Same H3 (upd H3 t (.tup [.ref q, .non])) := Same.new ht
        have t4 : upd H3 t (.tup [.ref q, .non]) t = some (.tup [.ref q, .non]) := upd_same
        generalize upd H3 t (.tup [.ref q, .non]) = H4 at s4 t4 ⊢
        have s24 : Same H2 H4 := fun b o z => s4 b o (s3 b o z)
        have eB4 := s24 _ _ I.blk
        refine ⟨B, ws, _, rfl, rfl, eB4, by rw [sizeLine_eq]; have := I.few; omega, ⟨_, _, _, ws ++ [.ref t], rfl, ?_⟩⟩
        rw [eN]
        refine ⟨Same.mut (fun b o z => s24 b o (I.same b o z)) I.new, I.new, ?_, upd_same, Paired.snoc (Paired.mono (fun v b h => BlkB.upd eB4 (BlkB.same s24 h)) I.pr) (BlkB.upd eB4 ⟨t, q, rfl, t4, s4 _ _ q3, qB⟩), ?_, fun b hb c hc => ?_⟩
        · show upd H4 B _ p = _
          rw [upd_ne pB]
          exact s24 _ _ I.lns
        · rw [List.length_append]
          have := I.few
          simp only [List.length_cons, List.length_nil]
          omega
        · rcases List.mem_append.mp hb with h | h
          · have := I.sz b h c hc
            omega
          · rw [List.mem_singleton.mp h] at hc
            cases hc
      | true =>
        have ne : blocksP (ls.take i) ≠ [] := by
          cases i with
          | zero =>
            have := hf l hl
            rw [sw] at this
            cases this
          | succ j =>
            obtain ⟨l', hl'⟩ : ∃ l', ls[j]? = some l' := ⟨_, List.getElem?_eq_getElem (by omega)⟩
            rw [blocksP_snoc hl']
            exact stepB_ne _ _
        have eS : stepB (blocksP (ls.take i)) l = (blocksP (ls.take i)).dropLast ++ [(((blocksP (ls.take i)).getLast?.getD ([], none)).1, some (joinB ((blocksP (ls.take i)).getLast?.getD ([], none)).2 l))] := by
          unfold stepB
          rw [if_pos sw]
        rw [eS] at eN
        obtain ⟨acc, b0, ea⟩ : ∃ acc b0, blocksP (ls.take i) = acc ++ [b0] := ⟨_, _, (List.dropLast_concat_getLast ne).symm⟩
        rw [ea, List.dropLast_concat, List.getLast?_concat] at eN
        rw [ea] at I
        obtain ⟨ws', y, rfl, pr', t0, q0, rfl, ht0, hq0, qB⟩ := paired_last I.pr
        have few := I.few
        rw [List.length_append, ea, List.length_append] at wl
        rw [List.length_append] at few
        simp only [List.length_cons, List.length_nil] at wl few
        have cz := I.sz b0 (List.mem_append_right _ (List.mem_singleton.mpr rfl))
        refine iteF <| st_seq <| st_asg ?_
        refine ⟨_, rfl, .inl ⟨rfl, _, SqL.of I.blk⟩, B, _, _, rfl, rfl, I.blk, (show (ws' ++ [V.ref t0])[(ws' ++ [V.ref t0]).length - 1]? = some (V.ref t0) by simp), ?_⟩
        rw [List.dropLast_concat]
        have s3 : Same H (upd H2 B (.lst ws')) := Same.mut I.same I.new
        have tB : t0 ≠ B := ne_of ht0 I.blk (fun z => nomatch z)
        have ht3 : upd H2 B (.lst ws') t0 = some (.tup [.ref q0, encO b0.2]) := by
          rw [upd_ne tB]
          exact ht0
        have hq3 : Strs (upd H2 B (.lst ws')) q0 b0.1 := by
          show upd H2 B (.lst ws') q0 = _
          rw [upd_ne qB]
          exact hq0
        have pr3 := Paired.mono (fun v b h => BlkB.upd (o := .lst ws') I.blk h) pr'
        have hp3 : Strs (upd H2 B (.lst ws')) p ls := by
          show upd H2 B (.lst ws') p = _
          rw [upd_ne pB]
          exact I.lns
        have eB3 : upd H2 B (.lst ws') B = some (.lst ws') := upd_same
        generalize upd H2 B (.lst ws') = H3 at s3 ht3 hq3 pr3 hp3 eB3 ⊢
        refine ⟨t0, _, rfl, SqT.of ht3, rfl, _, _, rfl, _, _, rfl, rfl, ?_⟩
        dsimp only
        refine st_expr ?_
        refine ⟨_, rfl, .inl ⟨rfl, _, SqL.of eB3⟩, _, rfl, _, rfl, _, rfl, ?_⟩
        have lj := joinB_len b0.2 l _ cz
        have fin : ∀ H4 : Hp, H4 = H3 → ∀ t : Addr, H4 t = none → ∃ (l' : Addr) (xs : List V) (y : V), V.ref B = .ref l' ∧ [V.ref t] = [y] ∧ upd H4 t (.tup [.ref q0, .str (joinB b0.2 l)]) l' = some (.lst xs) ∧ xs.length < sizeLine ∧ ∃ (k2 k3 k4 : Option V) (ws : List V), [some (V.ref p), some (.ref B), some (.str l), some (.ref q0), some (encO b0.2)] = [some (.ref p), some (.ref B), k2, k3, k4] ∧ BlkI H p B ls (i + 1) ws (blocksP (ls.take (i + 1))) (upd (upd H4 t (.tup [.ref q0, .str (joinB b0.2 l)])) l' (.lst (xs ++ [y]))) := by
          rintro H4 rfl t ht
          have s5 : Same H4 (upd H4 t (.tup [.ref q0, .str (joinB b0.2 l)])) := Same.new ht
          have t5 : upd H4 t (.tup [.ref q0, .str (joinB b0.2 l)]) t = some (.tup [.ref q0, .str (joinB b0.2 l)]) := upd_same
          generalize upd H4 t (.tup [.ref q0, .str (joinB b0.2 l)]) = H5 at s5 t5 ⊢
          have eB5 := s5 _ _ eB3
          refine ⟨B, ws', _, rfl, rfl, eB5, by rw [sizeLine_eq]; omega, _, _, _, ws' ++ [.ref t], rfl, ?_⟩
          rw [eN]
          refine ⟨Same.mut (fun b o z => s5 b o (s3 b o z)) I.new, I.new, ?_, upd_same, Paired.snoc (Paired.mono (fun v b h => BlkB.upd eB5 (BlkB.same s5 h)) pr3) (BlkB.upd eB5 ⟨t, q0, rfl, t5, s5 _ _ hq3, qB⟩), ?_, fun b hb c hc => ?_⟩
          · show upd H5 B _ p = _
            rw [upd_ne pB]
            exact s5 _ _ hp3
          · rw [List.length_append]
            simp only [List.length_cons, List.length_nil]
            omega
          · rcases List.mem_append.mp hb with h | h
            · have := I.sz b (List.mem_append_left _ h) c hc
              omega
            · rw [List.mem_singleton.mp h] at hc
              cases hc
              show (joinB b0.2 l).length ≤ _
              omega
        obtain ⟨ps0, o0⟩ := b0
        cases o0 with
        | none =>
          refine iteT <| te_sl <| te_v rfl <| to_part <| te_c ⟨1, rfl, to_no ⟨_, rfl, small_of (by omega), (by show 2 ≤ sizeLine; decide), fun t ht => ?_⟩⟩
          exact fin _ rfl t ht
        | some c0 =>
          have hc0 := cz c0 rfl
          have e1 : ("\n" : Str).length = 1 := by decide +kernel
          have hs1 := slice1_len l
          refine iteF <| te_op <| te_op <| te_v rfl <| te_c ⟨_, _, rfl, rfl, small_of (by omega), te_sl <| te_v rfl <| to_part <| te_c ⟨1, rfl, to_no ⟨_, rfl, small_of (by omega), _, _, rfl, rfl, (by rw [len_cat, sizeLine_eq]; omega), (by show 2 ≤ sizeLine; decide), fun t ht => ?_⟩⟩⟩
          exact fin _ rfl t ht
    rintro σ H2 ⟨k2, k3, k4, ws, rfl, I⟩
    rw [List.length_map, List.take_length] at I
    exact st_ret (te_v rfl (k B ws H2 I.same I.new I.blk (Paired.mono (fun v b ⟨t, q, e, h1, h2, _⟩ => ⟨t, q, e, h1, h2⟩) I.pr)))
end
end Kl

namespace Kl
open PySem L2 Kd
/-! what a text tells: lists alone -/
abbrev bTree : Blk := ([("tree" : Str)], none)
abbrev bEdit : Blk := ([("edit" : Str)], none)
abbrev bFile (p : Str) (o : Option Str) : Blk := ([("file" : Str), p], o)
abbrev bPut (p : Str) (o : Option Str) : Blk := ([("put" : Str), p], o)
abbrev bDrop (p : Str) : Blk := ([("drop" : Str), p], none)
abbrev bPkg (n v : Str) : Blk := ([("package" : Str), n, v], none)
abbrev bCont (o : Option Str) : Blk := ([("content" : Str)], o)
abbrev FileB (b : Blk) : Prop := ∃ p c : Str, b = bFile p (some c) ∧ pathB p = true
abbrev EditB (b : Blk) : Prop := (∃ p c : Str, b = bPut p (some c) ∧ pathB p = true) ∨ ∃ p : Str, b = bDrop p ∧ pathB p = true
abbrev NeedB (b : Blk) : Prop := b.2 = none ∧ (needP b.1).isSome = true
inductive Acc : Str → List Blk → Prop
  | start : Acc "" []
  | tree : Acc "tree" [bTree]
  | file {fs : List Blk} {p : Str} : (∀ b ∈ fs, FileB b) → pathB p = true → Acc "file" (bTree :: (fs ++ [bFile p none]))
  | fileC {fs : List Blk} {p c : Str} : (∀ b ∈ fs, FileB b) → pathB p = true → Acc "file |" (bTree :: (fs ++ [bFile p (some c)]))
  | edit : Acc "edit" [bEdit]
  | put {es : List Blk} {p : Str} : (∀ b ∈ es, EditB b) → pathB p = true → Acc "put" (bEdit :: (es ++ [bPut p none]))
  | putC {es : List Blk} {p c : Str} : (∀ b ∈ es, EditB b) → pathB p = true → Acc "put |" (bEdit :: (es ++ [bPut p (some c)]))
  | drop {es : List Blk} {p : Str} : (∀ b ∈ es, EditB b) → pathB p = true → Acc "drop" (bEdit :: (es ++ [bDrop p]))
  | pkg {n v : Str} : wordB n = true → 1 ≤ digitP v → Acc "package" [bPkg n v]
  | need {n v : Str} {ns : List Blk} : wordB n = true → 1 ≤ digitP v → (∀ b ∈ ns, NeedB b) → Acc "need" (bPkg n v :: ns)
  | content {n v : Str} {ns : List Blk} : wordB n = true → 1 ≤ digitP v → (∀ b ∈ ns, NeedB b) → Acc "content" (bPkg n v :: (ns ++ [bCont none]))
  | contentC {n v c : Str} {ns : List Blk} : wordB n = true → 1 ≤ digitP v → (∀ b ∈ ns, NeedB b) → Acc "content |" (bPkg n v :: (ns ++ [bCont (some c)]))
theorem head2 {ps : List Str} {w : Str} (hw : w ∈ (["file", "put", "drop"] : List Str)) (h0 : ps.getD 0 "" = w) (h : headP ps = true) : ∃ p, ps = [w, p] ∧ pathB p = true := by
  unfold headP at h
  rw [h0, if_pos hw, Bool.and_eq_true, decide_eq_true_eq] at h
  obtain ⟨a, b, rfl⟩ := seq2 h.1
  obtain rfl : a = w := h0
  exact ⟨b, rfl, h.2⟩
theorem head1 {ps : List Str} {w : Str} (hw : w ∈ (["tree", "edit", "content"] : List Str)) (h0 : ps.getD 0 "" = w) (h : headP ps = true) : ps = [w] := by
  unfold headP at h
  have n1 : w ∉ (["file", "put", "drop"] : List Str) := by
    simp only [List.mem_cons, List.not_mem_nil, or_false] at hw
    rcases hw with e | e | e <;> rw [e] <;> decide
  have n2 : w ≠ "package" := by
    simp only [List.mem_cons, List.not_mem_nil, or_false] at hw
    rcases hw with e | e | e <;> rw [e] <;> decide
  have n3 : w ≠ "need" := by
    simp only [List.mem_cons, List.not_mem_nil, or_false] at hw
    rcases hw with e | e | e <;> rw [e] <;> decide
  rw [h0, if_neg n1, if_neg n2, if_neg n3, decide_eq_true_eq] at h
  match ps, h with
  | [a], _ =>
    obtain rfl : a = w := h0
    rfl
theorem headPk {ps : List Str} (h0 : ps.getD 0 "" = "package") (h : headP ps = true) : ∃ n v : Str, ps = [("package" : Str), n, v] ∧ wordB n = true ∧ 1 ≤ digitP v := by
  unfold headP at h
  rw [h0, if_neg (by decide), if_pos rfl, Bool.and_eq_true, Bool.and_eq_true, decide_eq_true_eq, decide_eq_true_eq] at h
  obtain ⟨a, b, c, rfl⟩ := seq3 h.1
  obtain rfl : a = "package" := h0
  exact ⟨b, c, rfl, h.2.1, h.2.2⟩
theorem headNd {ps : List Str} (h0 : ps.getD 0 "" = "need") (h : headP ps = true) : (needP ps).isSome = true := by
  unfold headP at h
  rw [h0, if_neg (by decide), if_neg (by decide), if_pos rfl] at h
  exact h
/-- the two ways of a line -/
theorem kind_cases {k l k' : Str} (h : kindP k l = some k') : (Txt.startswith l "|" = true ∧ ("|" : Str) ∈ behP k ∧ k' = (if Txt.endswith k " |" = true then k else k ++ " |")) ∨ (Txt.startswith l "|" = false ∧ (Txt.split l " ").getD 0 "" ∈ behP k ∧ headP (Txt.split l " ") = true ∧ k' = (Txt.split l " ").getD 0 "") := by
  unfold kindP at h
  split at h
  · rename_i c
    split at h
    · rename_i c2
      cases h
      exact .inl ⟨c, c2, rfl⟩
    · cases h
  · rename_i c
    split at h
    · rename_i c2
      cases h
      exact .inr ⟨by cases e : Txt.startswith l "|" with | true => exact absurd e c | false => rfl, c2.1, c2.2, rfl⟩
    · cases h
theorem stepB_bar {acc : List Blk} {b : Blk} {l : Str} (h : Txt.startswith l "|" = true) : stepB (acc ++ [b]) l = acc ++ [(b.1, some (joinB b.2 l))] := by
  unfold stepB
  rw [if_pos h, List.dropLast_concat, List.getLast?_concat]
  rfl
theorem stepB_head {acc : List Blk} {l : Str} (h : Txt.startswith l "|" = false) : stepB acc l = acc ++ [(Txt.split l " ", none)] := by
  unfold stepB
  rw [if_neg (by rw [h]; decide)]
theorem snoc_all {α : Type} {P : α → Prop} {xs : List α} {a : α} (h : ∀ x ∈ xs, P x) (ha : P a) : ∀ x ∈ xs ++ [a], P x := fun x hx => by
  rcases List.mem_append.mp hx with h1 | h1
  · exact h x h1
  · rw [List.mem_singleton.mp h1]
    exact ha
theorem Acc.step {k l k' : Str} {acc : List Blk} (h : Acc k acc) (e : kindP k l = some k') : Acc k' (stepB acc l) := by
  rcases kind_cases e with ⟨sw, hb, rfl⟩ | ⟨sw, hb, hh, rfl⟩
  · cases h with
    | start => exact absurd hb (by decide +kernel)
    | tree => exact absurd hb (by decide +kernel)
    | file hf hp =>
      rw [show (if Txt.endswith "file" " |" = true then ("file" : Str) else "file" ++ " |") = "file |" by decide +kernel, ← List.cons_append, stepB_bar sw]
      exact .fileC hf hp
    | fileC hf hp =>
      rw [show (if Txt.endswith "file |" " |" = true then ("file |" : Str) else "file |" ++ " |") = "file |" by decide +kernel, ← List.cons_append, stepB_bar sw]
      exact .fileC hf hp
    | edit => exact absurd hb (by decide +kernel)
    | put hf hp =>
      rw [show (if Txt.endswith "put" " |" = true then ("put" : Str) else "put" ++ " |") = "put |" by decide +kernel, ← List.cons_append, stepB_bar sw]
      exact .putC hf hp
    | putC hf hp =>
      rw [show (if Txt.endswith "put |" " |" = true then ("put |" : Str) else "put |" ++ " |") = "put |" by decide +kernel, ← List.cons_append, stepB_bar sw]
      exact .putC hf hp
    | drop hf hp => exact absurd hb (by decide +kernel)
    | pkg h1 h2 => exact absurd hb (by decide +kernel)
    | need h1 h2 h3 => exact absurd hb (by decide +kernel)
    | content h1 h2 h3 =>
      rw [show (if Txt.endswith "content" " |" = true then ("content" : Str) else "content" ++ " |") = "content |" by decide +kernel, ← List.cons_append, stepB_bar sw]
      exact .contentC h1 h2 h3
    | contentC h1 h2 h3 =>
      rw [show (if Txt.endswith "content |" " |" = true then ("content |" : Str) else "content |" ++ " |") = "content |" by decide +kernel, ← List.cons_append, stepB_bar sw]
      exact .contentC h1 h2 h3
  · have nb : (Txt.split l " ").getD 0 "" ≠ "|" := fun z => by
      have := split_head l z
      rw [sw] at this
      cases this
    rw [stepB_head sw]
    generalize Txt.split l " " = ps at hb hh nb
    have one : ∀ w : Str, ps.getD 0 "" ∈ (["|", w] : List Str) → ps.getD 0 "" = w := fun w h => by
      rcases List.mem_cons.mp h with h | h
      · exact absurd h nb
      · exact List.mem_singleton.mp h
    have ed : ∀ es : List Blk, (∀ b ∈ es, EditB b) → ps.getD 0 "" ∈ (["put", "drop"] : List Str) → Acc (ps.getD 0 "") (bEdit :: (es ++ [(ps, none)])) := fun es he h => by
      simp only [List.mem_cons, List.not_mem_nil, or_false] at h
      rcases h with c | c
      · obtain ⟨p, e, hp⟩ := head2 (by decide) c hh
        rw [c, e]
        exact .put he hp
      · obtain ⟨p, e, hp⟩ := head2 (by decide) c hh
        rw [c, e]
        exact .drop he hp
    have nd : ∀ (n v : Str) (ns : List Blk), wordB n = true → 1 ≤ digitP v → (∀ b ∈ ns, NeedB b) → ps.getD 0 "" ∈ (["need", "content"] : List Str) → Acc (ps.getD 0 "") (bPkg n v :: (ns ++ [(ps, none)])) := fun n v ns h1 h2 h3 h => by
      simp only [List.mem_cons, List.not_mem_nil, or_false] at h
      rcases h with c | c
      · rw [c]
        exact .need h1 h2 (snoc_all h3 ⟨rfl, headNd c hh⟩)
      · rw [c, head1 (by decide) c hh]
        exact .content h1 h2 h3
    cases h with
    | start =>
      have hb : ps.getD 0 "" ∈ (["tree", "edit", "package"] : List Str) := hb
      simp only [List.mem_cons, List.not_mem_nil, or_false] at hb
      rcases hb with c | c | c
      · rw [c, head1 (by decide) c hh]
        exact .tree
      · rw [c, head1 (by decide) c hh]
        exact .edit
      · obtain ⟨n, v, e, h1, h2⟩ := headPk c hh
        rw [c, e]
        exact .pkg h1 h2
    | tree =>
      have c := List.mem_singleton.mp (show ps.getD 0 "" ∈ (["file"] : List Str) from hb)
      obtain ⟨p, e, hp⟩ := head2 (by decide) c hh
      rw [c, e]
      exact .file (fs := []) (by simp) hp
    | file hf hp => exact absurd (List.mem_singleton.mp (show ps.getD 0 "" ∈ (["|"] : List Str) from hb)) nb
    | @fileC fs p c0 hf hp =>
      have c := one "file" hb
      obtain ⟨p', e, hp'⟩ := head2 (by decide) c hh
      rw [c, e]
      exact .file (snoc_all hf ⟨p, c0, rfl, hp⟩) hp'
    | edit => exact ed [] (by simp) hb
    | put hf hp => exact absurd (List.mem_singleton.mp (show ps.getD 0 "" ∈ (["|"] : List Str) from hb)) nb
    | @putC es p c0 hf hp =>
      have hb : ps.getD 0 "" ∈ (["|", "put", "drop"] : List Str) := hb
      rcases List.mem_cons.mp hb with h | h
      · exact absurd h nb
      · exact ed _ (snoc_all hf (.inl ⟨p, c0, rfl, hp⟩)) h
    | @drop es p hf hp => exact ed _ (snoc_all hf (.inr ⟨p, rfl, hp⟩)) hb
    | pkg h1 h2 => exact nd _ _ [] h1 h2 (by simp) hb
    | need h1 h2 h3 => exact nd _ _ _ h1 h2 h3 hb
    | content h1 h2 h3 => exact absurd (List.mem_singleton.mp (show ps.getD 0 "" ∈ (["|"] : List Str) from hb)) nb
    | contentC h1 h2 h3 => exact absurd (List.mem_singleton.mp (show ps.getD 0 "" ∈ (["|"] : List Str) from hb)) nb
/-- all lines, from a kind on: the first wrong one, or the last kind -/
def runK : Str → List Str → Nat → Sum Nat Str
  | k, [], _ => .inr k
  | k, l :: ls, n => match kindP k l with
    | some k' => runK k' ls (n + 1)
    | none => .inl n
theorem Acc.run : ∀ {ls : List Str} {k k' : Str} {acc : List Blk} {n : Nat}, Acc k acc → runK k ls n = .inr k' → Acc k' (ls.foldl stepB acc)
  | [], k, k', acc, n, h, e => by
    cases e
    exact h
  | l :: ls, k, k', acc, n, h, e => by
    rw [runK] at e
    cases ek : kindP k l with
    | none =>
      rw [ek] at e
      cases e
    | some k2 =>
      rw [ek] at e
      replace e : runK k2 ls (n + 1) = .inr k' := e
      show Acc k' (ls.foldl stepB (stepB acc l))
      exact Acc.run (h.step ek) e
end Kl

namespace Kl
open PySem L2 Kd
/-! what the blocks tell: lists alone -/
abbrev Need3 := Str × Int × Int
abbrev Pkg := Str × Int × List Need3 × Str
def needD (n : Need3) : D := .tup [.str n.1, .int n.2.1, .int n.2.2]
def pkgD (p : Pkg) : D := .tup [.str p.1, .int p.2.1, .tup (p.2.2.1.map needD), .str p.2.2.2]
def pyFs (fs : Fs) : PyData := .list (pys (fs.map pairD))
inductive Res where
  | tree (fs : Fs)
  | edit (es : Es)
  | pkg (p : Pkg)
  | bad
def filesOf (bs : List Blk) : Fs := bs.map fun b => (b.1.getD 1 "", b.2.getD "")
def editOf (bs : List Blk) : Es := bs.map fun b => (b.1.getD 1 "", b.2)
def needsOf (bs : List Blk) : List Need3 := bs.filterMap fun b => needP b.1
def pkgOf (h : Blk) (r : List Blk) : Pkg := (h.1.getD 1 "", digitP (h.1.getD 2 ""), needsOf r.dropLast, (r.getLast?.getD ([], none)).2.getD "")
def valueP : List Blk → Res
  | [] => .bad
  | h :: r => if h.1.getD 0 "" = "tree" then (if filesY (pyFs (filesOf r)) = true then .tree (filesOf r) else .bad)
    else if h.1.getD 0 "" = "edit" then (if editY (py (editD (editOf r))) = true ∧ r.length ≤ 120 then .edit (editOf r) else .bad)
    else if pkgY (py (pkgD (pkgOf h r))) = true then .pkg (pkgOf h r) else .bad
/-- signs -/
def okS (x : Str) : Prop := ∀ c ∈ x.cps.toList, c < 0x110000
theorem okS_ok {x : Str} (h : okS x) : PyData.strOk x = true := by
  show (x.cps.all (· < 0x110000)) = true
  rw [← Array.all_toList, List.all_eq_true]
  exact fun c hc => decide_eq_true (h c hc)
theorem okS_of {x : Str} (h : PyData.strOk x = true) : okS x := fun c hc => by
  have h : (x.cps.all (· < 0x110000)) = true := h
  rw [← Array.all_toList, List.all_eq_true] at h
  exact of_decide_eq_true (h c hc)
theorem okS_cat {x y : Str} (a : okS x) (b : okS y) : okS (x ++ y) := fun c hc => by
  rw [cps_cat] at hc
  exact (List.mem_append.mp hc).elim (a c) (b c)
theorem mem_joinL {S : List Nat} : ∀ {parts : List (List Nat)} {p : List Nat} {c : Nat}, p ∈ parts → c ∈ p → c ∈ TL.joinL S parts
  | [_], p, c, hp, hc => by
    rw [List.mem_singleton.mp hp] at hc
    exact hc
  | a :: b :: r, p, c, hp, hc => by
    show c ∈ a ++ (S ++ TL.joinL S (b :: r))
    rcases List.mem_cons.mp hp with e | e
    · rw [e] at hc
      exact List.mem_append_left _ hc
    · exact List.mem_append_right _ (List.mem_append_right _ (mem_joinL e hc))
theorem okS_part {x y a : Str} (h : okS x) (m : a ∈ Txt.split x y) : okS a := fun c hc => by
  have j := StrLaws.join_split x y
  have e := TL.tl_join y (Txt.split x y)
  rw [j] at e
  refine h c ?_
  have e3 : x.cps.toList = TL.joinL (TL.tl y) ((Txt.split x y).map TL.tl) := e
  rw [e3]
  exact mem_joinL (List.mem_map.mpr ⟨a, m, rfl⟩) hc
theorem okS_slice {x : Str} (h : okS x) : okS (Txt.slice x (some 1) none) := fun c hc => by
  rw [slice1] at hc
  exact h c (List.mem_of_mem_drop hc)
theorem okS_nl : okS "\n" := okS_of (by decide +kernel)
theorem okS_nil : okS "" := okS_of (by decide +kernel)
structure BlkOk (n : Nat) (b : Blk) : Prop where
  ps : ∀ x ∈ b.1, x.length ≤ n ∧ okS x
  ct : ∀ c, b.2 = some c → c.length ≤ n ∧ okS c
theorem BlkOk.mono {n m : Nat} {b : Blk} (h : BlkOk n b) (l : n ≤ m) : BlkOk m b := ⟨fun x hx => ⟨Nat.le_trans (h.ps x hx).1 l, (h.ps x hx).2⟩, fun c hc => ⟨Nat.le_trans (h.ct c hc).1 l, (h.ct c hc).2⟩⟩
theorem joinB_ok {o : Option Str} {l : Str} (h : ∀ c, o = some c → okS c) (hl : okS l) : okS (joinB o l) := by
  cases o with
  | none => exact okS_slice hl
  | some c => exact okS_cat (okS_cat (h c rfl) okS_nl) (okS_slice hl)
def total (ls : List Str) : Nat := (ls.map fun l => l.length + 1).sum
theorem blk_run : ∀ (ls : List Str) (acc : List Blk) (m : Nat), (∀ b ∈ acc, BlkOk m b) → (∀ l ∈ ls, okS l) → ∀ b ∈ ls.foldl stepB acc, BlkOk (m + total ls) b
  | [], acc, m, h, _ => fun b hb => (h b hb).mono (by simp [total])
  | l :: ls, acc, m, h, hl => by
    have hl0 := hl l (List.mem_cons_self ..)
    have ih := blk_run ls (stepB acc l) (m + 1 + l.length) (fun b hb => by
      unfold stepB at hb
      split at hb
      · rcases List.mem_append.mp hb with h1 | h1
        · exact (h b (List.dropLast_subset _ h1)).mono (by omega)
        · rw [List.mem_singleton.mp h1]
          cases e : acc.getLast? with
          | none => exact ⟨fun x hx => (nomatch (show x ∈ ([] : List Str) from hx)), fun c hc => by
              cases hc
              have := joinB_len none l m (fun c hc => nomatch hc)
              exact ⟨by show (joinB none l).length ≤ _; omega, joinB_ok (fun c hc => nomatch hc) hl0⟩⟩
          | some b0 =>
            have hb0 := h b0 (List.mem_of_getLast? e)
            exact ⟨fun x hx => ⟨Nat.le_trans (hb0.ps x hx).1 (by omega), (hb0.ps x hx).2⟩, fun c hc => by
              cases hc
              have := joinB_len b0.2 l m (fun c hc => (hb0.ct c hc).1)
              exact ⟨by show (joinB b0.2 l).length ≤ _; omega, joinB_ok (fun c hc => (hb0.ct c hc).2) hl0⟩⟩
      · rcases List.mem_append.mp hb with h1 | h1
        · exact (h b h1).mono (by omega)
        · rw [List.mem_singleton.mp h1]
          exact ⟨fun x hx => ⟨by have := PyProof.Rows.part_short hx; omega, okS_part hl0 hx⟩, fun c hc => nomatch hc⟩) (fun l' h' => hl l' (List.mem_cons_of_mem _ h'))
    intro b hb
    refine (ih b hb).mono ?_
    simp only [total, List.map_cons, List.sum_cons]
    omega
theorem blk_ok {ls : List Str} (hl : ∀ l ∈ ls, okS l) : ∀ b ∈ blocksP ls, BlkOk (total ls) b := fun b hb => by
  have := blk_run ls [] 0 (fun _ h => nomatch h) hl b hb
  rw [Nat.zero_add] at this
  exact this
theorem blk_count : ∀ (ls : List Str) (acc : List Blk), (ls.foldl stepB acc).length ≤ acc.length + 1 + total ls
  | [], acc => by simp [total]
  | l :: ls, acc => by
    have ih := blk_count ls (stepB acc l)
    have : (stepB acc l).length ≤ acc.length + 1 := by
      unfold stepB
      split
      · rw [List.length_append, List.length_dropLast]
        simp only [List.length_cons, List.length_nil]
        omega
      · rw [List.length_append]
        simp
    simp only [total, List.map_cons, List.sum_cons, List.foldl_cons] at ih ⊢
    omega
theorem blk_few (ls : List Str) : (blocksP ls).length ≤ total ls + 1 := by
  have := blk_count ls []
  simp only [List.length_nil] at this
  unfold blocksP
  omega
/-! sizes of the data -/
theorem fits_all : ∀ {ds : List PyData}, (∀ d ∈ ds, fitY d = true) → fitsY ds = true
  | [], _ => rfl
  | d :: ds, h => by
    rw [fitsY, h d (List.mem_cons_self ..), fits_all fun e he => h e (List.mem_cons_of_mem _ he)]
    rfl
theorem depths_all {n : Nat} : ∀ {ds : List PyData}, (∀ d ∈ ds, d.depth ≤ n) → PyData.depthAll ds ≤ n
  | [], _ => Nat.zero_le _
  | d :: ds, h => by
    have e : PyData.depthAll (d :: ds) = max d.depth (PyData.depthAll ds) := by rw [PyData.depthAll]
    have h1 := h d (List.mem_cons_self ..)
    have h2 := depths_all (ds := ds) fun e he => h e (List.mem_cons_of_mem _ he)
    omega
theorem pys_map {α : Type} (f : α → D) : ∀ xs : List α, pys (xs.map f) = xs.map fun x => py (f x)
  | [] => rfl
  | x :: r => by
    show py (f x) :: pys (r.map f) = _
    rw [pys_map f r]
    rfl
theorem fit_str {x : Str} (h : x.length ≤ 100000) (o : okS x) : fitY (.str x) = true := by
  rw [fitY, decide_eq_true h, okS_ok o]
  rfl
theorem fit_tup {ds : List PyData} (l : ds.length ≤ 100000) (h : ∀ d ∈ ds, fitY d = true) : fitY (.tuple ds) = true := by
  rw [fitY, decide_eq_true l, fits_all h]
  rfl
theorem depth_tup {n : Nat} {ds : List PyData} (h : ∀ d ∈ ds, d.depth ≤ n) : (PyData.tuple ds).depth ≤ n + 1 := by
  rw [PyData.depth]
  have := depths_all h
  omega
theorem depth_str (x : Str) : (PyData.str x).depth = 0 := by rw [PyData.depth]
theorem depth_int (i : Int) : (PyData.int i).depth = 0 := by rw [PyData.depth]
theorem yok_fs {fs : Fs} (l : fs.length ≤ 100000) (h : ∀ q ∈ fs, (q.1.length ≤ 100000 ∧ okS q.1) ∧ (q.2.length ≤ 100000 ∧ okS q.2)) : YOk (pyFs fs) := by
  have e : ∀ d ∈ pys (fs.map pairD), fitY d = true ∧ d.depth ≤ 1 := fun d hd => by
    rw [pys_map] at hd
    obtain ⟨q, hq, rfl⟩ := List.mem_map.mp hd
    have hh := h q hq
    refine ⟨fit_tup (ds := [.str q.1, .str q.2]) (by show 2 ≤ 100000; decide) fun d hd => ?_, depth_tup (n := 0) (ds := [.str q.1, .str q.2]) fun d hd => ?_⟩
    · simp only [List.mem_cons, List.not_mem_nil, or_false] at hd
      rcases hd with rfl | rfl
      · exact fit_str hh.1.1 hh.1.2
      · exact fit_str hh.2.1 hh.2.2
    · simp only [List.mem_cons, List.not_mem_nil, or_false] at hd
      rcases hd with rfl | rfl
      · rw [depth_str]; exact Nat.le_refl _
      · rw [depth_str]; exact Nat.le_refl _
  refine ⟨?_, ?_⟩
  · unfold pyFs
    rw [fitY, decide_eq_true (by rw [pys_map, List.length_map]; exact l), fits_all fun d hd => (e d hd).1]
    rfl
  · unfold pyFs
    rw [PyData.depth]
    have := depths_all fun d hd => (e d hd).2
    omega
theorem yok_edit {es : Es} (l : es.length ≤ 100000) (h : ∀ q ∈ es, (q.1.length ≤ 100000 ∧ okS q.1) ∧ ∀ c, q.2 = some c → c.length ≤ 100000 ∧ okS c) : YOk (py (editD es)) := by
  have e : ∀ d ∈ pys (es.map changeD), fitY d = true ∧ d.depth ≤ 1 := fun d hd => by
    rw [pys_map] at hd
    obtain ⟨⟨p, o⟩, hq, rfl⟩ := List.mem_map.mp hd
    have hh := h _ hq
    have o1 : okS "put" := okS_of (by decide +kernel)
    have o2 : okS "drop" := okS_of (by decide +kernel)
    cases o with
    | none =>
      refine ⟨fit_tup (ds := [.str "drop", .str p]) (by show 2 ≤ 100000; decide) fun d hd => ?_, depth_tup (n := 0) (ds := [.str "drop", .str p]) fun d hd => ?_⟩
      · simp only [List.mem_cons, List.not_mem_nil, or_false] at hd
        rcases hd with rfl | rfl
        · exact fit_str (by decide +kernel) o2
        · exact fit_str hh.1.1 hh.1.2
      · simp only [List.mem_cons, List.not_mem_nil, or_false] at hd
        rcases hd with rfl | rfl
        · rw [depth_str]; exact Nat.le_refl _
        · rw [depth_str]; exact Nat.le_refl _
    | some c =>
      have hc := hh.2 c rfl
      refine ⟨fit_tup (ds := [.str "put", .str p, .str c]) (by show 3 ≤ 100000; decide) fun d hd => ?_, depth_tup (n := 0) (ds := [.str "put", .str p, .str c]) fun d hd => ?_⟩
      · simp only [List.mem_cons, List.not_mem_nil, or_false] at hd
        rcases hd with rfl | rfl | rfl
        · exact fit_str (by decide +kernel) o1
        · exact fit_str hh.1.1 hh.1.2
        · exact fit_str hc.1 hc.2
      · simp only [List.mem_cons, List.not_mem_nil, or_false] at hd
        rcases hd with rfl | rfl | rfl
        · rw [depth_str]; exact Nat.le_refl _
        · rw [depth_str]; exact Nat.le_refl _
        · rw [depth_str]; exact Nat.le_refl _
  refine ⟨fit_tup (by rw [pys_map, List.length_map]; exact l) fun d hd => (e d hd).1, Nat.le_trans (depth_tup fun d hd => (e d hd).2) (by decide)⟩
theorem yok_pkg {p : Pkg} (h1 : p.1.length ≤ 100000 ∧ okS p.1) (l : p.2.2.1.length ≤ 100000) (h : ∀ n ∈ p.2.2.1, n.1.length ≤ 100000 ∧ okS n.1) (h2 : p.2.2.2.length ≤ 100000 ∧ okS p.2.2.2) : YOk (py (pkgD p)) := by
  have e : ∀ d ∈ pys (p.2.2.1.map needD), fitY d = true ∧ d.depth ≤ 1 := fun d hd => by
    rw [pys_map] at hd
    obtain ⟨n, hn, rfl⟩ := List.mem_map.mp hd
    have hh := h n hn
    refine ⟨fit_tup (ds := [.str n.1, .int n.2.1, .int n.2.2]) (by show 3 ≤ 100000; decide) fun d hd => ?_, depth_tup (n := 0) (ds := [.str n.1, .int n.2.1, .int n.2.2]) fun d hd => ?_⟩
    · simp only [List.mem_cons, List.not_mem_nil, or_false] at hd
      rcases hd with rfl | rfl | rfl
      · exact fit_str hh.1 hh.2
      · rfl
      · rfl
    · simp only [List.mem_cons, List.not_mem_nil, or_false] at hd
      rcases hd with rfl | rfl | rfl
      · rw [depth_str]; exact Nat.le_refl _
      · rw [depth_int]; exact Nat.le_refl _
      · rw [depth_int]; exact Nat.le_refl _
  have en : fitY (.tuple (pys (p.2.2.1.map needD))) = true ∧ (PyData.tuple (pys (p.2.2.1.map needD))).depth ≤ 2 := ⟨fit_tup (by rw [pys_map, List.length_map]; exact l) fun d hd => (e d hd).1, depth_tup fun d hd => (e d hd).2⟩
  refine ⟨fit_tup (ds := [.str p.1, .int p.2.1, .tuple (pys (p.2.2.1.map needD)), .str p.2.2.2]) (by show 4 ≤ 100000; decide) fun d hd => ?_, Nat.le_trans (depth_tup (n := 2) (ds := [.str p.1, .int p.2.1, .tuple (pys (p.2.2.1.map needD)), .str p.2.2.2]) fun d hd => ?_) (by decide)⟩
  · simp only [List.mem_cons, List.not_mem_nil, or_false] at hd
    rcases hd with rfl | rfl | rfl | rfl
    · exact fit_str h1.1 h1.2
    · rfl
    · exact en.1
    · exact fit_str h2.1 h2.2
  · simp only [List.mem_cons, List.not_mem_nil, or_false] at hd
    rcases hd with rfl | rfl | rfl | rfl
    · rw [depth_str]; exact Nat.zero_le _
    · rw [depth_int]; exact Nat.zero_le _
    · exact en.2
    · rw [depth_str]; exact Nat.zero_le _
theorem fsY_py (fs : Fs) : fsY (pyFs fs) = fs := by
  unfold fsY pyFs
  show (pys (fs.map pairD)).map _ = fs
  rw [pys_map, List.map_map]
  conv => rhs; rw [← List.map_id fs]
  rfl
theorem digit_txt {t : Str} (h : 1 ≤ digitP t) : intText? t = some (digitP t) := by
  unfold digitP at h ⊢
  split at h
  · rename_i c
    rw [if_pos c]
    obtain ⟨h1, h2, h3⟩ := c
    have e := one_sign h1
    generalize t.cps.getD 0 0 = k at h2 h3 e
    rw [e]
    have := digit_int (k - 48) (by omega)
    rw [show 48 + (k - 48) = k by omega] at this
    rw [this]
    congr 1
    omega
  · omega
theorem cutV_1 (vs : List V) : cutV vs (some 1) none = vs.drop 1 := by
  unfold cutV
  rw [HT.sIx_none, show (1 : Int) = ((1 : Nat) : Int) from rfl, HT.sIx_nat]
  by_cases h : 1 ≤ vs.length
  · rw [Nat.min_eq_left h, List.take_of_length_le (by rw [List.length_drop]; exact Nat.le_refl _)]
  · have e : vs = [] := List.length_eq_zero_iff.mp (by omega)
    rw [e]
    rfl
theorem cutV_mid (a z : V) (ms : List V) : cutV (a :: (ms ++ [z])) (some 1) (some (-1)) = ms := by
  unfold cutV
  rw [sIx_m1, show (1 : Int) = ((1 : Nat) : Int) from rfl, HT.sIx_nat]
  have l : (a :: (ms ++ [z])).length = ms.length + 2 := by simp
  rw [l, Nat.min_eq_left (by omega)]
  show (ms ++ [z]).take (ms.length + 2 - 1 - 1) = ms
  rw [show ms.length + 2 - 1 - 1 = ms.length by omega, List.take_left]
end Kl

namespace Kl
open PySem L2 Kd Kx
/-! value_of: what the blocks tell, or BadValue(1) -/
def spValueOf (K : PySem.W.Frag) (C CV : Addr) : Sp := fun vs H Q E => ∃ (B : Addr) (ws : List V) (bs : List Blk) (k : Str), vs = [.ref B] ∧ H B = some (.lst ws) ∧ Paired (BlkAt H) ws bs ∧ Acc k bs ∧ k ∈ lastT ∧ bs.length ≤ 99999 ∧ (∀ b ∈ bs, BlkOk 99999 b) ∧
  (∀ fs, valueP bs = .tree fs → ∀ (a : Addr) (H' : Hp), Same H H' → TreeAt C H' a fs → Q (.ref a) H') ∧
  (∀ es, valueP bs = .edit es → ∀ (v : V) (H' : Hp), Same H H' → Rep H' (editD es) v → Q v H') ∧
  (∀ p, valueP bs = .pkg p → ∀ (v : V) (H' : Hp), Same H H' → Rep H' (pkgD p) v → Q v H') ∧
  (valueP bs = .bad → ∀ (dd : Addr) (H' : Hp), Out H H' dd [("at", .int 1)] → E (.ref CV) (some dd) H')
theorem Out.more {H H1 H' : Hp} {d : Addr} {xs : List (Str × V)} (s : Same H H1) (o : Out H1 H' d xs) : Out H H' d xs := ⟨fun b u e => o.sm b u (s b u e), s.free o.nw, o.xd⟩
theorem pair_at2 {α : Type} {R : V → α → Prop} : ∀ {vs : List V} {rs : List α} {i : Nat} {v : V} {r : α}, Paired R vs rs → vs[i]? = some v → rs[i]? = some r → R v r
  | _, _, 0, _, _, .cons h _, e1, e2 => by cases e1; cases e2; exact h
  | _, _, i + 1, _, _, .cons _ t, e1, e2 => pair_at2 t (by simpa using e1) (by simpa using e2)
theorem BlkAt.same {H H' : Hp} {v : V} {b : Blk} (s : Same H H') (h : BlkAt H v b) : BlkAt H' v b := by
  obtain ⟨t, q, e, h1, h2⟩ := h
  exact ⟨t, q, e, s _ _ h1, s _ _ h2⟩
theorem acc_last {k : Str} {bs : List Blk} (a : Acc k bs) (hk : k ∈ lastT) : ∃ h r, bs = h :: r ∧ ((h = bTree ∧ ∀ b ∈ r, FileB b) ∨ (h = bEdit ∧ ∀ b ∈ r, EditB b) ∨ ∃ (n v c : Str) (ns : List Blk), h = bPkg n v ∧ r = ns ++ [bCont (some c)] ∧ wordB n = true ∧ 1 ≤ digitP v ∧ ∀ b ∈ ns, NeedB b) := by
  cases a with
  | start => exact absurd hk (by decide +kernel)
  | tree => exact ⟨_, [], rfl, .inl ⟨rfl, by simp⟩⟩
  | file _ _ => exact absurd hk (by decide +kernel)
  | @fileC fs p c hf hp => exact ⟨_, _, rfl, .inl ⟨rfl, snoc_all hf ⟨p, c, rfl, hp⟩⟩⟩
  | edit => exact ⟨_, [], rfl, .inr (.inl ⟨rfl, by simp⟩)⟩
  | put _ _ => exact absurd hk (by decide +kernel)
  | @putC es p c hf hp => exact ⟨_, _, rfl, .inr (.inl ⟨rfl, snoc_all hf (.inl ⟨p, c, rfl, hp⟩)⟩)⟩
  | @drop es p hf hp => exact ⟨_, _, rfl, .inr (.inl ⟨rfl, snoc_all hf (.inr ⟨p, rfl, hp⟩)⟩)⟩
  | pkg _ _ => exact absurd hk (by decide +kernel)
  | need _ _ _ => exact absurd hk (by decide +kernel)
  | content _ _ _ => exact absurd hk (by decide +kernel)
  | contentC h1 h2 h3 => exact ⟨_, _, rfl, .inr (.inr ⟨_, _, _, _, rfl, rfl, h1, h2, h3⟩)⟩
theorem need_len {ps : List Str} {m : Need3} (h : needP ps = some m) : ps.length = 4 := by
  unfold needP at h
  split at h
  · rename_i c
    exact c.1
  · cases h
theorem value_tree (r : List Blk) : valueP (bTree :: r) = if filesY (pyFs (filesOf r)) = true then .tree (filesOf r) else .bad := by
  rw [valueP, if_pos (show bTree.1.getD 0 "" = "tree" from rfl)]
theorem value_edit (r : List Blk) : valueP (bEdit :: r) = if editY (py (editD (editOf r))) = true ∧ r.length ≤ 120 then .edit (editOf r) else .bad := by
  rw [valueP, if_neg (show ¬ bEdit.1.getD 0 "" = "tree" from by decide), if_pos (show bEdit.1.getD 0 "" = "edit" from rfl)]
theorem value_pkg (n v : Str) (r : List Blk) : valueP (bPkg n v :: r) = if pkgY (py (pkgD (pkgOf (bPkg n v) r))) = true then .pkg (pkgOf (bPkg n v) r) else .bad := by
  rw [valueP, if_neg (show ¬ (bPkg n v).1.getD 0 "" = "tree" from fun z => absurd (show ("package" : Str) = "tree" from z) (by decide)), if_neg (show ¬ (bPkg n v).1.getD 0 "" = "edit" from fun z => absurd (show ("package" : Str) = "edit" from z) (by decide))]
/-- [.. for parts, content in blocks[..]] -/
theorem lc_blocks {K : PySem.W.Frag} {j1 j2 : Nat} {te : TE} {σ : L2.St} {H1 : Hp} {D L : Addr} {Qd : Hp → Prop} {ws : List V} {bs : List Blk} {f : Blk → Kd.D} (hL : H1 L = some (.lst ws)) (pr : Paired (BlkAt H1) ws bs) (hl : bs.length ≤ 100000) (hD : H1 D = none)
    (hw : ∀ x y, wipe (((wipe σ [j1, j2]).set j1 (some x)).set j2 (some y)) [j1, j2] = wipe σ [j1, j2])
    (he : ∀ (b : Blk) (t q : Addr) (H2 : Hp) (Qv : VK), b ∈ bs → Same H1 H2 → Strs H2 q b.1 → (∀ (v : V) (H3 : Hp), Same H2 H3 → Rep H3 (f b) v → Qv v H3) → te (((wipe σ [j1, j2]).set j1 (some (.ref q))).set j2 (some (encO b.2))) H2 Qv)
    (hd : ∀ (H2 : Hp) (vs : List V), Same H1 H2 → H2 D = some (.lst vs) → Reps H2 (bs.map f) vs → Qd H2) :
    ∃ W : Nat → Nat → Hp → Prop, (∃ m, W 0 m (upd H1 D (.lst []))) ∧ ∀ i m H, W i m H →
      ((Itl K L).stop i H ∧ Qd H) ∨ ((Itl K L).go i H ∧ ∃ Nx : Hp → Prop, (∀ H', Nx H' → ∃ m', m' < m ∧ W (i + 1) m' H') ∧ ∀ x H', (Itl K L).yld i H x H' → gTup K 2 (gCons (gName j1) (gCons (gName j2) gNil)) x (wipe σ [j1, j2]) H' fun σ2 H2 => wipe σ2 [j1, j2] = wipe σ [j1, j2] ∧ tYes σ2 H2 fun b H3 =>
        if b = true then te σ2 H3 fun y H4 => ∃ acc, H4 D = some (.lst acc) ∧ acc.length < sizeLine ∧ Nx (upd H4 D (.lst (acc ++ [y]))) else Nx H3) := by
  have wl := pr.length
  refine lc_list (K := K) (a := L) (xs := ws) (fun i H => Same H1 H ∧ ∃ vs : List V, H D = some (.lst vs) ∧ vs.length = i ∧ Reps H ((bs.take i).map f) vs) ⟨Same.new hD, [], upd_same, rfl, rfl⟩ (fun i H _ q => SqL.of (q.1 _ _ hL)) ?_ ?_
  · rintro i x H hx ⟨s, vs, e, l, r⟩
    have hil : i < bs.length := by
      have := (List.getElem?_eq_some_iff.mp hx).1
      omega
    have hq : bs[i]? = some bs[i] := List.getElem?_eq_getElem hil
    obtain ⟨t, q, rfl, ht, hq2⟩ := BlkAt.same s (pair_at2 pr hx hq)
    refine ⟨t, _, rfl, SqT.of ht, rfl, _, _, rfl, _, _, rfl, rfl, hw _ _, he bs[i] t q H _ (List.getElem_mem hil) s hq2 fun v H3 s3 rv => ⟨vs, s3 _ _ e, by rw [sizeLine_eq]; omega, Same.mut (fun b o z => s3 b o (s b o z)) hD, vs ++ [v], upd_same, by rw [List.length_append, l]; rfl, ?_⟩⟩
    rw [map_take_succ f hq]
    have tk2 := Tk.lst (o := .lst (vs ++ [v])) (s3 _ _ e)
    exact Reps.snoc (Reps.keep ((Same.tk s3).trans tk2) r) (Rep.keep tk2 rv)
  · rintro H ⟨s, vs, e, l, r⟩
    rw [wl, List.take_length] at r
    exact hd H vs s e r
section
variable {P : Program} {w : World} {K : PySem.W.Frag} {mg : Str → Option Value} {base : Heap}
abbrev s_value_of : Stmt := topS 44
theorem sc_value_of : FnScope ["blocks", "head", "_", "edit", "needs", "package", "parts", "content"] ["blocks"] (defScope s_value_of) := ⟨rfl, rfl, rfl, by decide +kernel, rfl, by decide +kernel, by decide +kernel⟩
theorem ok_value_of {C CV fV fI f : Addr} {fd fdV fdI : FuncData} (F : Fun K "value_of" "value_of" s_value_of f fd) (T : Glo mg) {t120 : Tok} (m_MOST_CHANGES : mg "MOST_CHANGES" = some (.int 120 t120)) (M : Mk K C fI) (FI : FnOk P w K mg base (L2N.CX P w) 5 fI fdI ["self", "files"] (spInitY K C CV)) (mC : mg "Tree" = some (.ref C)) (BI : Binds K fdI ["self", "files"] [])
    (eV : Err K mg "BadValue" CV fV) (gV : FnOk P w K mg base CX0 1 fV fdV ["self", "at"] (spAt1 K CV)) (bV : Binds K fdV ["self", "at"] [])
    (c_change_of : C8.Cal P w K mg base 1 "change_of" (spChangeOf K) []) (c_need_of : C8.Cal P w K mg base 2 "need_of" (spNeedOf K) []) (c_is_edit : C8.Cal P w K mg base 5 "is_edit" (spY editY K) []) (c_is_package : C8.Cal P w K mg base 5 "is_package" (spY pkgY K) []) :
    FnOk P w K mg base (L2N.CX P w) 7 f fd ["blocks"] (spValueOf K C CV) := by
  refine okN F sc_value_of (fun vs H Q E h => ?_) (fun cdv A outer s H vs Q E hr h => ?_)
  · obtain ⟨B, ws, bs, k, rfl, _⟩ := h
    rfl
  · obtain ⟨B, ws, bs, k, rfl, hB, pr, acc, hk, few, bok, kt, ke, kp, kx⟩ := h
    have r2 : Room 2 _ := hr.mono (by decide)
    have hr6 : Room 6 _ := hr
    have tk := L2N.takes_of (X := cxOf (L2N.CX P w) P w K mg base ["blocks", "head", "_", "edit", "needs", "package", "parts", "content"] "value_of" (defScope s_value_of) f cdv A outer s H E) rfl rfl rfl rfl
    refine ⟨_, (pss_cons (ps_asg (pe_ix ix_list (pv 0) pe_int (fun _ _ => rfl)) (pg_tup rfl (pgs_cons (pg_name (i := 1) sc_value_of.nd rfl (.inl rfl)) (pgs_cons (pg_name (i := 2) sc_value_of.nd rfl (.inl rfl)) pgs_nil))))
      (pss_cons (ps_if (pt_cmpR op_eq (pe_ix ix_list (pv 1) pe_int (fun _ _ => rfl)) pe_str (nomark _))
      (pss_one (ps_ret (pe_make M FI hr6 (by rfl) mC BI .nil (L2N.passes_call tk (fun _ _ _ _ z => z)) (pa_cons (pe_lc (own := [("parts", 6), ("content", 7)]) (g := (gTup K 2 (gCons (gName 6) (gCons (gName 7) gNil)))) (tt := tYes) rfl sc_value_of.nd (pi_list (pe_slice sl_list (pv 0) (po_some pe_int) po_none)) (blkOk_by (N := ["blocks", "head", "_", "edit", "needs", "package", "parts", "content"]) (sc := defScope s_value_of) (by decide +kernel)) (fun _ _ _ _ _ => (pg_tup rfl (pgs_cons (pg_name (i := 6) sc_value_of.nd rfl (.inl rfl)) (pgs_cons (pg_name (i := 7) sc_value_of.nd rfl (.inl rfl)) pgs_nil)))) (fun _ _ _ _ _ => pts_nil) (fun _ _ _ _ _ => (pe_tup (pa_cons (pe_ix (r := rIxL K) ix_list (pv 6) pe_int (fun _ _ => rfl)) (pa_cons (pv 7) pa_nil))))) pa_nil))))
      pss_nil)
      (pss_cons (ps_if (pt_cmpR op_eq (pe_ix ix_list (pv 1) pe_int (fun _ _ => rfl)) pe_str (nomark _))
      (pss_cons (ps_set (i := 3) sc_value_of.nd rfl (.inl rfl) (pe_callTy call_tuple_of (by rfl) T.tuple PyProof.Rows.boot_tuple (pa_cons (pe_lc (own := [("parts", 6), ("content", 7)]) (g := (gTup K 2 (gCons (gName 6) (gCons (gName 7) gNil)))) (tt := tYes) rfl sc_value_of.nd (pi_list (pe_slice sl_list (pv 0) (po_some pe_int) po_none)) (blkOk_by (N := ["blocks", "head", "_", "edit", "needs", "package", "parts", "content"]) (sc := defScope s_value_of) (by decide +kernel)) (fun _ _ _ _ _ => (pg_tup rfl (pgs_cons (pg_name (i := 6) sc_value_of.nd rfl (.inl rfl)) (pgs_cons (pg_name (i := 7) sc_value_of.nd rfl (.inl rfl)) pgs_nil)))) (fun _ _ _ _ _ => pts_nil) (fun _ _ _ _ _ => (C8.pe_c c_change_of hr (by omega) (by rfl) (pa_cons (pv 6) (pa_cons (pv 7) pa_nil))))) pa_nil)))
        (C8.pss_cut (ps_if (PW.pt (pw_or (pt_not (pt_val (C8.pe_c c_is_edit hr (by omega) (by rfl) (pa_cons (pv 3) pa_nil)))) (pw_or1 (pt_cmpR op_gt (pe_callB call_len_seq (by rfl) T.len PySem.boot_len (pa_cons (pv 3) pa_nil)) (pe_glob (v := .int 120) (by rfl) m_MOST_CHANGES ⟨_, rfl⟩) (nomark _)))))
        (pss_one (L2N.ps_raise rfl tk (nmk_ex eV.ex eV.ini eV.tI gV r2 bV pass0 (by rfl) eV.mc (pa_cons pe_int pa_nil))))
        pss_nil)
        (pss_one (ps_ret (pv 3)))))
      pss_nil)
      (pss_cons (ps_set (i := 4) sc_value_of.nd rfl (.inl rfl) (pe_callTy call_tuple_of (by rfl) T.tuple PyProof.Rows.boot_tuple (pa_cons (pe_lc (own := [("parts", 6), ("_", 2)]) (g := (gTup K 2 (gCons (gName 6) (gCons (gName 2) gNil)))) (tt := tYes) rfl sc_value_of.nd (pi_list (pe_slice sl_list (pv 0) (po_some pe_int) (po_some (pe_un un_neg pe_int)))) (blkOk_by (N := ["blocks", "head", "_", "edit", "needs", "package", "parts", "content"]) (sc := defScope s_value_of) (by decide +kernel)) (fun _ _ _ _ _ => (pg_tup rfl (pgs_cons (pg_name (i := 6) sc_value_of.nd rfl (.inl rfl)) (pgs_cons (pg_name (i := 2) sc_value_of.nd rfl (.inl rfl)) pgs_nil)))) (fun _ _ _ _ _ => pts_nil) (fun _ _ _ _ _ => (C8.pe_c c_need_of hr (by omega) (by rfl) (pa_cons (pv 6) pa_nil)))) pa_nil)))
      (pss_cons (ps_set (i := 5) sc_value_of.nd rfl (.inl rfl) (pe_tup (pa_cons (pe_ix ix_list (pv 1) pe_int (fun _ _ => rfl)) (pa_cons (pe_callTy call_int_str (by rfl) T.int PyProof.Rows.boot_int (pa_cons (pe_ix ix_list (pv 1) pe_int (fun _ _ => rfl)) pa_nil)) (pa_cons (pv 4) (pa_cons (pe_ix ix_tup (pe_ix ix_list (pv 0) (pe_un un_neg pe_int) (fun _ _ => rfl)) pe_int (fun _ _ => rfl)) pa_nil))))))
      (pss_cons (ps_if (pt_not (pt_val (C8.pe_c c_is_package hr (by omega) (by rfl) (pa_cons (pv 5) pa_nil))))
      (pss_one (L2N.ps_raise rfl tk (nmk_ex eV.ex eV.ini eV.tI gV r2 bV pass0 (by rfl) eV.mc (pa_cons pe_int pa_nil))))
      pss_nil)
      (pss_one (ps_ret (pv 5))))))))), ?_⟩
    obtain ⟨h, r, rfl, cases3⟩ := acc_last acc hk
    cases pr with
    | @cons w0 _ wr _ p0 pr =>
    obtain ⟨t0, q0, rfl, ht0, hq0⟩ := p0
    have hh := bok h (List.mem_cons_self ..)
    have hr' : ∀ b ∈ r, BlkOk 99999 b := fun b hb => bok b (List.mem_cons_of_mem _ hb)
    have rl : r.length ≤ 99999 := by
      have := few
      rw [List.length_cons] at this
      omega
    have h1 : 1 ≤ h.1.length := by
      rcases cases3 with ⟨rfl, _⟩ | ⟨rfl, _⟩ | ⟨n, v, c, ns, rfl, _⟩
      · exact Nat.le_refl _
      · exact Nat.le_refl _
      · show 1 ≤ 3; decide
    refine st_seq <| st_asg <| te_op <| te_v rfl <| te_c ⟨B, _, 0, _, rfl, rfl, SqL.of hB, atI_nat (j := 0) rfl, t0, _, rfl, SqT.of ht0, rfl, _, _, rfl, _, _, rfl, rfl, ?_⟩
    dsimp only
    refine st_seq <| st_if <| tt_b <| te_op <| te_op <| te_v rfl <| te_c <| ixS (j := 0) hq0 rfl (by omega) <| te_c ⟨rfl, _, rfl, ?_⟩
    have drop1 : (V.ref t0 :: wr).drop 1 = wr := rfl
    rcases cases3 with ⟨rfl, hF⟩ | ⟨rfl, hE⟩ | ⟨n, v, c, ns, rfl, rfl, wn, dv, hN⟩
    · refine iteT <| st_ret <| te_make <| ta_cons <| te_lc <| te_sl <| te_v rfl <| to_part <| te_c ⟨1, rfl, to_no ⟨B, _, rfl, SqL.of hB, fun L hL => ?_⟩⟩
      rw [cutV_1, drop1]
      have s1 : Same H (upd H L (.lst wr)) := Same.new hL
      have l1 : upd H L (.lst wr) L = some (.lst wr) := upd_same
      generalize upd H L (.lst wr) = H1 at s1 l1 ⊢
      refine ⟨L, rfl, ⟨_, SqL.of l1⟩, fun D hD => lc_blocks (f := fun b => pairD (b.1.getD 1 "", b.2.getD "")) l1 (Paired.mono (fun v b h => BlkAt.same s1 h) pr) (by omega) hD (fun _ _ => rfl) (fun b t q H2 Qv hb s2 hq k => ?_) fun H2 vs s2 e2 r2 => ?_⟩
      · obtain ⟨p, c, rfl, _⟩ := hF b hb
        refine te_tup <| ta_cons <| te_op <| te_v rfl <| te_c <| ixS (j := 1) hq rfl (by show 1 < 2; decide) <| ta_cons <| te_v rfl <| ta_nil ⟨(by show 2 ≤ sizeLine; decide), fun t2 ht2 => ?_⟩
        exact k _ _ (Same.new ht2) (pair_rep upd_same)
      have rep : Reps H2 ((filesOf r).map pairD) vs := by
        unfold filesOf
        rw [List.map_map]
        exact r2
      have s02 : Same H H2 := fun b o z => s2 b o (s1 b o z)
      have yk : YOk (pyFs (filesOf r)) := yok_fs (by unfold filesOf; rw [List.length_map]; omega) fun q hq => by
        obtain ⟨b, hb, rfl⟩ := List.mem_map.mp hq
        obtain ⟨p, c, rfl, _⟩ := hF b hb
        have hb' := hr' _ hb
        have h1 := hb'.ps p (by simp)
        have h2 := hb'.ct c rfl
        exact ⟨⟨Nat.le_trans h1.1 (by decide), h1.2⟩, Nat.le_trans h2.1 (by decide), h2.2⟩
      have ev : valueP (bTree :: r) = if filesY (pyFs (filesOf r)) = true then .tree (filesOf r) else .bad := by
        exact value_tree r
      have vsl := rep.len
      refine ta_nil fun x dx hx hdx nex => ?_
      have s3 : Same H2 (upd (upd H2 dx (.own x)) x (.ins C dx [])) := fun b o e => by
        rw [upd_ne (ne_of_none e hx), upd_ne (ne_of_none e hdx)]
        exact e
      refine ⟨x, dx, .ref D, pyFs (filesOf r), rfl, upd_same, Dp.same s3 (.lst (SqL.of e2) (Reps.dp rep)), yk, fun e H' s tr => ⟨rfl, ?_⟩, fun e dd H' o => ?_⟩
      · rw [fsY_py] at tr
        rw [e, if_pos rfl] at ev
        exact kt _ ev x H' (fun b o z => s b o (ne_of_none (s02 b o z) hx) (s3 b o (s02 b o z))) tr
      · rw [e, if_neg (by decide)] at ev
        exact kx ev dd H' (Out.more (fun b o z => s3 b o (s02 b o z)) o)
    · refine iteF (st_next ?_)
      dsimp only
      refine st_seq <| st_if <| tt_b <| te_op <| te_op <| te_v rfl <| te_c <| ixS (j := 0) hq0 rfl (by omega) <| te_c ⟨rfl, _, rfl, ?_⟩
      refine iteT <| st_seq <| st_asg <| te_cb <| ta_cons <| te_lc <| te_sl <| te_v rfl <| to_part <| te_c ⟨1, rfl, to_no ⟨B, _, rfl, SqL.of hB, fun L hL => ?_⟩⟩
      rw [cutV_1, drop1]
      have s1 : Same H (upd H L (.lst wr)) := Same.new hL
      have l1 : upd H L (.lst wr) L = some (.lst wr) := upd_same
      generalize upd H L (.lst wr) = H1 at s1 l1 ⊢
      refine ⟨L, rfl, ⟨_, SqL.of l1⟩, fun D hD => lc_blocks (f := fun b => changeD (b.1.getD 1 "", b.2)) l1 (Paired.mono (fun v b h => BlkAt.same s1 h) pr) (by omega) hD (fun _ _ => rfl) (fun b t q H2 Qv hb s2 hq k => ?_) fun H2 vs s2 e2 r2 => ?_⟩
      · refine te_call <| ta_cons <| te_v rfl <| ta_cons <| te_v rfl <| ta_nil ?_
        rcases hE b hb with ⟨p, c, rfl, _⟩ | ⟨p, rfl, _⟩
        · exact ⟨q, "put", p, some c, rfl, hq, fun z => absurd z (by decide), fun _ t H3 s3 e3 => k _ H3 s3 (put_rep e3)⟩
        · exact ⟨q, "drop", p, none, rfl, hq, fun _ t H3 s3 e3 => k _ H3 s3 (drop_rep e3), fun z => absurd rfl z⟩
      have rep : Reps H2 ((editOf r).map changeD) vs := by
        unfold editOf
        rw [List.map_map]
        exact r2
      have vl := rep.len
      rw [show ((editOf r).map changeD).length = r.length by unfold editOf; rw [List.length_map, List.length_map]] at vl
      have s02 : Same H H2 := fun b o z => s2 b o (s1 b o z)
      refine ta_nil ⟨D, vs, rfl, .inl ⟨SqL.of e2, fun e hE2 => st_g ?_⟩⟩
      dsimp only
      have s3 : Same H2 (upd H2 e (.tup vs)) := Same.new hE2
      have e3 : upd H2 e (.tup vs) e = some (.tup vs) := upd_same
      have s03 : Same H (upd H2 e (.tup vs)) := fun b o z => s3 b o (s02 b o z)
      have rE : Rep (upd H2 e (.tup vs)) (editD (editOf r)) (.ref e) := ⟨e, vs, rfl, .inl e3, by rw [sizeLine_eq]; omega, rep.keep (Same.tk s3)⟩
      generalize upd H2 e (.tup vs) = H3 at s3 e3 s03 rE ⊢
      have yk : YOk (py (editD (editOf r))) := yok_edit (by unfold editOf; rw [List.length_map]; omega) fun q hq => by
        obtain ⟨b, hb, rfl⟩ := List.mem_map.mp hq
        have hb' := hr' _ hb
        rcases hE b hb with ⟨p, c, rfl, _⟩ | ⟨p, rfl, _⟩
        · have h1 := hb'.ps p (by simp)
          refine ⟨⟨Nat.le_trans h1.1 (by decide), h1.2⟩, fun c' hc' => ?_⟩
          have h2 := hb'.ct c' hc'
          exact ⟨Nat.le_trans h2.1 (by decide), h2.2⟩
        · have h1 := hb'.ps p (by simp)
          exact ⟨⟨Nat.le_trans h1.1 (by decide), h1.2⟩, fun c' hc' => nomatch hc'⟩
      have ev : valueP (bEdit :: r) = if editY (py (editD (editOf r))) = true ∧ r.length ≤ 120 then .edit (editOf r) else .bad := by
        exact value_edit r
      refine ⟨fun σ' H' => σ' = [some (.ref B), some (.ref q0), some .non, some (.ref e), none, none, none, none] ∧ Same H H' ∧ Rep H' (editD (editOf r)) (.ref e) ∧ (editY (py (editD (editOf r))) = true ∧ r.length ≤ 120), ?_, ?_⟩
      · refine tt_or <| tt_not <| tt_b <| te_call <| ta_cons <| te_v rfl <| ta_nil ⟨.ref e, _, rfl, Rep.dp rE, yk, fun H4 s4 => ⟨_, rfl, ?_⟩⟩
        cases ey : editY (py (editD (editOf r))) with
        | false =>
          rw [ey, if_neg (fun z => absurd z.1 (by decide))] at ev
          exact iteT ⟨(by show 1 ≤ 1000; decide), raise1 (fun b o z => s4 b o (s03 b o z)) fun dd H' o => kx ev dd H' o⟩
        | true =>
          refine iteF <| tt_b <| te_op <| te_cb <| ta_cons <| te_v rfl <| ta_nil ⟨e, vs, rfl, .inr (SqT.of (s4 _ _ e3)), te_c ⟨_, _, rfl, rfl, _, rfl, ?_⟩⟩
          rw [vl]
          by_cases c : r.length ≤ 120
          · rw [decide_eq_false (show ¬ (120 : Int) < (r.length : Int) by omega)]
            exact iteF ⟨rfl, fun b o z => s4 b o (s03 b o z), rE.keep (Same.tk s4), rfl, c⟩
          · rw [decide_eq_true (show (120 : Int) < (r.length : Int) by omega)]
            rw [if_neg (fun z => c z.2)] at ev
            exact iteT ⟨(by show 1 ≤ 1000; decide), raise1 (fun b o z => s4 b o (s03 b o z)) fun dd H' o => kx ev dd H' o⟩
      rintro σ' H' ⟨rfl, s4, rE4, hy⟩
      rw [if_pos hy] at ev
      exact st_ret (te_v rfl (ke _ ev _ H' s4 rE4))
    · refine iteF (st_next ?_)
      dsimp only
      refine st_seq <| st_if <| tt_b <| te_op <| te_op <| te_v rfl <| te_c <| ixS (j := 0) hq0 rfl (by omega) <| te_c ⟨rfl, _, rfl, ?_⟩
      refine iteF (st_next ?_)
      dsimp only
      obtain ⟨wn, wl', rfl, prN, tL, qL, rfl, htL, hqL⟩ := paired_last pr
      have nl : ns.length ≤ 99999 := by
        rw [List.length_append] at rl
        omega
      refine st_seq <| st_asg <| te_cb <| ta_cons <| te_lc <| te_sl <| te_v rfl <| to_part <| te_c ⟨1, rfl, to_part <| te_un <| te_c ⟨1, rfl, _, rfl, B, _, rfl, SqL.of hB, fun L hL => ?_⟩⟩
      rw [cutV_mid]
      have s1 : Same H (upd H L (.lst wn)) := Same.new hL
      have l1 : upd H L (.lst wn) L = some (.lst wn) := upd_same
      generalize upd H L (.lst wn) = H1 at s1 l1 ⊢
      refine ⟨L, rfl, ⟨_, SqL.of l1⟩, fun D hD => lc_blocks (f := fun b => needD ((needP b.1).getD default)) l1 (Paired.mono (fun v b h => BlkAt.same s1 h) prN) (by omega) hD (fun _ _ => rfl) (fun b t q H2 Qv hb s2 hq k => ?_) fun H2 vs s2 e2 r2 => ?_⟩
      · obtain ⟨_, hn⟩ := hN b hb
        obtain ⟨m, em⟩ := Option.isSome_iff_exists.mp hn
        have hb' := hr' b (List.mem_append_left _ hb)
        rw [em] at k
        have l4 := need_len em
        have po : PartsOk b.1 := ⟨by omega, by omega, fun x hx => Nat.le_trans (hb'.ps x hx).1 (by decide)⟩
        refine te_call <| ta_cons <| te_v rfl <| ta_nil ⟨q, b.1, rfl, hq, po, fun e => absurd e (by rw [em]; exact fun z => nomatch z), fun n e t H3 s3 e3 => ?_⟩
        rw [em] at e
        cases e
        exact k _ H3 s3 ⟨t, _, rfl, .inl e3, (by show 3 ≤ sizeLine; decide), _, _, rfl, rfl, _, _, rfl, rfl, _, _, rfl, rfl, rfl⟩
      have en : (ns.map fun b => (needP b.1).getD default) = needsOf ns := by
        unfold needsOf
        clear e2 r2 prN hr' few bok acc rl nl kt ke kp kx hB pr
        induction ns with
        | nil => rfl
        | cons b r ih =>
          obtain ⟨m, em⟩ := Option.isSome_iff_exists.mp (hN b (List.mem_cons_self ..)).2
          rw [List.map_cons, List.filterMap_cons, em, ih fun b hb => hN b (List.mem_cons_of_mem _ hb)]
          rfl
      have rep : Reps H2 ((needsOf ns).map needD) vs := by
        rw [← en, List.map_map]
        exact r2
      have vl := rep.len
      rw [List.length_map, ← en, List.length_map] at vl
      have s02 : Same H H2 := fun b o z => s2 b o (s1 b o z)
      refine ta_nil ⟨D, vs, rfl, .inl ⟨SqL.of e2, fun e hE2 => st_g ?_⟩⟩
      dsimp only
      have s3 : Same H2 (upd H2 e (.tup vs)) := Same.new hE2
      have rN : Rep (upd H2 e (.tup vs)) (.tup ((needsOf ns).map needD)) (.ref e) := ⟨e, vs, rfl, .inl upd_same, by rw [sizeLine_eq]; omega, rep.keep (Same.tk s3)⟩
      have s03 : Same H (upd H2 e (.tup vs)) := fun b o z => s3 b o (s02 b o z)
      generalize upd H2 e (.tup vs) = H3 at s3 s03 rN ⊢
      have hq3 := s03 _ _ hq0
      have v1 := hh.ps n (by simp)
      have v2 := hh.ps v (by simp)
      have hc := (hr' (bCont (some c)) (List.mem_append_right _ (List.mem_singleton.mpr rfl))).ct c rfl
      have ep : pkgOf (bPkg n v) (ns ++ [bCont (some c)]) = (n, digitP v, needsOf ns, c) := by
        unfold pkgOf
        rw [List.dropLast_concat, List.getLast?_concat]
        rfl
      have lastAt : atI (V.ref t0 :: (wn ++ [V.ref tL])) (-1) = some (.ref tL) := by
        have := atI_last (V.ref t0 :: wn) (.ref tL)
        exact this
      have dl : v.length ≤ 640 := by
        have := dv
        unfold digitP at this
        split at this
        · rename_i c
          omega
        · omega
      refine st_seq <| st_asg <| te_tup <| ta_cons <| te_op <| te_v rfl <| te_c <| ixS (j := 1) hq3 rfl (by show 1 < 3; decide) <| ta_cons <| te_cb <| ta_cons <| te_op <| te_v rfl <| te_c <| ixS (j := 2) hq3 rfl (by show 2 < 3; decide) <| ta_nil ⟨_, _, rfl, digit_txt dv, dl, ta_cons <| te_v rfl <| ta_cons <| te_op <| te_op <| te_v rfl <| te_un <| te_c ⟨1, rfl, B, _, _, _, rfl, rfl, SqL.of (s03 _ _ hB), lastAt, te_c ⟨tL, _, 1, _, rfl, rfl, SqT.of (s03 _ _ htL), rfl, ta_nil ⟨(by show 4 ≤ sizeLine; decide), fun pk hpk => st_g ?_⟩⟩⟩⟩
      dsimp only
      rw [show (upd H3 pk (HO.tup [V.str (List.getD [("package" : Str), n, v] 1 ""), V.int (digitP (List.getD [("package" : Str), n, v] 2 "")), V.ref e, encO (some c)])) = upd H3 pk (.tup [.str n, .int (digitP v), .ref e, .str c]) from rfl]
      have s4 : Same H3 (upd H3 pk (.tup [.str n, .int (digitP v), .ref e, .str c])) := Same.new hpk
      have rP : Rep (upd H3 pk (.tup [.str n, .int (digitP v), .ref e, .str c])) (pkgD (n, digitP v, needsOf ns, c)) (.ref pk) := ⟨pk, _, rfl, .inl upd_same, (by show 4 ≤ sizeLine; decide), _, _, rfl, rfl, _, _, rfl, rfl, _, _, rfl, rN.keep (Same.tk s4), _, _, rfl, rfl, rfl⟩
      have s04 : Same H (upd H3 pk (.tup [.str n, .int (digitP v), .ref e, .str c])) := fun b o z => s4 b o (s03 b o z)
      generalize upd H3 pk (.tup [.str n, .int (digitP v), .ref e, .str c]) = H4 at s4 s04 rP ⊢
      have yk : YOk (py (pkgD (n, digitP v, needsOf ns, c))) := yok_pkg ⟨Nat.le_trans v1.1 (by decide), v1.2⟩ (by rw [← en, List.length_map]; omega) (fun m hm => by
        obtain ⟨b, hb, eb⟩ := List.mem_filterMap.mp hm
        have hb' := hr' b (List.mem_append_left _ hb)
        unfold needP at eb
        split at eb
        · split at eb
          · cases eb
            exact ⟨getD_le (fun x hx => Nat.le_trans (hb'.ps x hx).1 (by decide)) 1, by
              show okS (b.1.getD 1 "")
              rw [List.getD_eq_getElem?_getD]
              cases e1 : b.1[1]? with
              | none => exact okS_nil
              | some x => exact (hb'.ps x (List.mem_of_getElem? e1)).2⟩
          · cases eb
        · cases eb) ⟨Nat.le_trans hc.1 (by decide), hc.2⟩
      have ev := value_pkg n v (ns ++ [bCont (some c)])
      rw [ep] at ev
      refine st_seq <| st_if <| tt_not <| tt_b <| te_call <| ta_cons <| te_v rfl <| ta_nil ⟨.ref pk, _, rfl, Rep.dp rP, yk, fun H5 s5 => ⟨_, rfl, ?_⟩⟩
      cases ey : pkgY (py (pkgD (n, digitP v, needsOf ns, c))) with
      | false =>
        rw [ey, if_neg (by decide)] at ev
        exact iteT ⟨(by show 1 ≤ 1000; decide), raise1 (fun b o z => s5 b o (s04 b o z)) fun dd H' o => kx ev dd H' o⟩
      | true =>
        rw [ey, if_pos rfl] at ev
        refine iteF (st_next ?_)
        dsimp only
        exact st_ret (te_v rfl (kp _ ev _ H5 (fun b o z => s5 b o (s04 b o z)) (rP.keep (Same.tk s5))))
end
end Kl

namespace Kl
open PySem L2 Kd Kx
/-! parse: what a text tells, BadValue(1) or BadSyntax -/
inductive Got where
  | syn (n : Nat)
  | res (r : Res)
def parseL (L : List Str) : Got := match runK "" L.dropLast 0 with
  | .inl n => .syn n
  | .inr k => if L.getLast? ≠ some ("" : Str) ∨ k ∉ lastT then .syn (L.length - 1) else .res (valueP (blocksP L.dropLast))
def parseP (t : Str) : Got := parseL (Txt.split t "\n")
def spParse (K : PySem.W.Frag) (C CV CS : Addr) : Sp := fun vs H Q E => ∃ v : V, vs = [v] ∧ ((∃ d, Dp K H v d ∧ isStrY d = false ∧ ∀ (dd : Addr) (H' : Hp), Out H H' dd [("at", .int 1)] → E (.ref CV) (some dd) H') ∨
  ∃ t : Str, v = .str t ∧ t.length ≤ 90000 ∧ okS t ∧
    (∀ n : Nat, parseP t = .syn n → ∀ (dd : Addr) (H' : Hp), Out H H' dd [("at", .int (n : Int))] → E (.ref CS) (some dd) H') ∧
    (∀ fs, parseP t = .res (.tree fs) → ∀ (a : Addr) (H' : Hp), Same H H' → TreeAt C H' a fs → Q (.ref a) H') ∧
    (∀ es, parseP t = .res (.edit es) → ∀ (v : V) (H' : Hp), Same H H' → Rep H' (editD es) v → Q v H') ∧
    (∀ p, parseP t = .res (.pkg p) → ∀ (v : V) (H' : Hp), Same H H' → Rep H' (pkgD p) v → Q v H') ∧
    (parseP t = .res .bad → ∀ (dd : Addr) (H' : Hp), Out H H' dd [("at", .int 1)] → E (.ref CV) (some dd) H'))
theorem runK_step {ls : List Str} : ∀ {i n : Nat} {k k2 : Str} {l : Str}, ls[i]? = some l → kindP k l = some k2 → runK k (ls.drop i) n = runK k2 (ls.drop (i + 1)) (n + 1) := fun {i n k k2 l} h e => by
  have hi := (List.getElem?_eq_some_iff.mp h).1
  rw [List.drop_eq_getElem_cons hi, runK]
  have : ls[i] = l := (List.getElem?_eq_some_iff.mp h).2
  rw [this, e]
theorem runK_stop {ls : List Str} {i n : Nat} {k l : Str} (h : ls[i]? = some l) (e : kindP k l = none) : runK k (ls.drop i) n = .inl n := by
  have hi := (List.getElem?_eq_some_iff.mp h).1
  rw [List.drop_eq_getElem_cons hi, runK]
  have : ls[i] = l := (List.getElem?_eq_some_iff.mp h).2
  rw [this, e]
theorem total_dropLast : ∀ L : List Str, total L.dropLast ≤ total L
  | [] => Nat.le_refl _
  | [_] => Nat.zero_le _
  | a :: b :: r => by
    have := total_dropLast (b :: r)
    simp only [total, List.dropLast_cons₂, List.map_cons, List.sum_cons] at this ⊢
    omega
theorem total_split (t : Str) : total (Txt.split t "\n") ≤ t.length + 1 := by
  have := PyProof.Rows.split_weight t "\n" (by decide +kernel)
  unfold total
  have e : ∀ xs : List Str, (xs.map fun l => l.length + 1).sum = (xs.map (·.length)).sum + xs.length := fun xs => by
    induction xs with
    | nil => rfl
    | cons x r ih => simp only [List.map_cons, List.sum_cons, List.length_cons, ih]; omega
  rw [e]
  exact this
theorem run_first {ls : List Str} {k : Str} (h : runK "" ls 0 = .inr k) : ∀ l, ls[0]? = some l → Txt.startswith l "|" = false := fun l hl => by
  cases ls with
  | nil => cases hl
  | cons x r =>
    obtain rfl : x = l := Option.some.inj hl
    rw [runK] at h
    cases sw : Txt.startswith x "|" with
    | false => rfl
    | true =>
      have e : kindP "" x = none := by
        unfold kindP
        rw [if_pos sw, if_neg (by decide +kernel)]
      rw [e] at h
      cases h
section
variable {P : Program} {w : World} {K : PySem.W.Frag} {mg : Str → Option Value} {base : Heap}
abbrev s_parse : Stmt := topS 39
theorem sc_parse : FnScope ["text", "lines", "unended", "kind", "at", "line"] ["text"] (defScope s_parse) := ⟨rfl, rfl, rfl, by decide +kernel, rfl, by decide +kernel, by decide +kernel⟩
theorem ok_parse {C CV CS fV fS fB fL fvo f : Addr} {fd fdV fdS fdvo : FuncData} (F : Fun K "parse" "parse" s_parse f fd) (T : Glo mg) (Te : mg "enumerate" = none) (tb : Tabs K w mg fB fL)
    (eV : Err K mg "BadValue" CV fV) (gV : FnOk P w K mg base CX0 1 fV fdV ["self", "at"] (spAt1 K CV)) (bV : Binds K fdV ["self", "at"] []) (eS : Err K mg "BadSyntax" CS fS) (gS : FnOk P w K mg base CX0 1 fS fdS ["self", "at"] (spAt1 K CS)) (bS : Binds K fdS ["self", "at"] [])
    (c_kind_behind : C8.Cal P w K mg base 4 "kind_behind" (spKind K) []) (c_blocks_of : C8.Cal P w K mg base 1 "blocks_of" (spBlocks K) []) (VA : At K mg "value_of" s_value_of ["blocks"] fvo fdvo) (GV : FnOk P w K mg base (L2N.CX P w) 7 fvo fdvo ["blocks"] (spValueOf K C CV)) :
    FnOk P w K mg base (L2N.CX P w) 8 f fd ["text"] (spParse K C CV CS) := by
  refine okN F sc_parse (fun vs H Q E h => ?_) (fun cdv A outer s H vs Q E hr h => ?_)
  · obtain ⟨v, rfl, _⟩ := h
    rfl
  · obtain ⟨v, rfl, hv⟩ := h
    have r2 : Room 2 _ := hr.mono (by decide)
    have hr7 : Room 7 _ := hr
    have tk := L2N.takes_of (X := cxOf (L2N.CX P w) P w K mg base ["text", "lines", "unended", "kind", "at", "line"] "parse" (defScope s_parse) f cdv A outer s H E) rfl rfl rfl rfl
    refine ⟨_, (pss_cons (ps_if (pt_not (pt_val (pe_callB call_isi (by rfl) T.isi PyProof.Rows.boot_isinstance (pa_cons (pv 0) (pa_cons (pe_bltn (v := .ty "str") (by rfl) T.str (by decide +kernel) rfl) pa_nil)))))
      (pss_one (L2N.ps_raise rfl tk (nmk_ex eV.ex eV.ini eV.tI gV r2 bV pass0 (by rfl) eV.mc (pa_cons pe_int pa_nil))))
      pss_nil)
      (pss_cons (ps_set (i := 1) sc_parse.nd rfl (.inl rfl) (pe_split (pv 0) pe_str))
      (pss_cons (ps_set (i := 2) sc_parse.nd rfl (.inl rfl) (pe_bm0 PySem.F.plainAttrs_list PySem.F.slot_list_pop PySem.F.type_list_pop mt_pop (pv 1)))
      (pss_cons (ps_set (i := 3) sc_parse.nd rfl (.inl rfl) pe_str)
      (pss_cons (ps_for (L2.passes_of rfl) rfl (pi_enum (by rfl) Te (pa_cons (pv 1) pa_nil)) (pg_tup rfl (pgs_cons (pg_name (i := 4) sc_parse.nd rfl (.inl rfl)) (pgs_cons (pg_name (i := 5) sc_parse.nd rfl (.inl rfl)) pgs_nil)))
      (pss_cons (ps_set (i := 3) sc_parse.nd rfl (.inl rfl) (C8.pe_c c_kind_behind hr (by omega) (by rfl) (pa_cons (pv 3) (pa_cons (pv 5) pa_nil))))
        (pss_one (ps_if (pt_cmp (pc_isN (pv 3)))
        (pss_one (L2N.ps_raise rfl tk (nmk_ex eS.ex eS.ini eS.tI gS r2 bS pass0 (by rfl) eS.mc (pa_cons (pv 4) pa_nil))))
        pss_nil))))
      (C8.pss_cut (ps_if (PW.pt (pw_or (pt_cmpR op_ne (pv 2) pe_str (nomark _)) (pw_or1 (pt_cmpR (r := rIn K true) op_notIn_seq (pv 3) (pe_glob (v := .ref fL) (by rfl) tb.mL rfl) (by rfl)))))
      (pss_one (L2N.ps_raise rfl tk (nmk_ex eS.ex eS.ini eS.tI gS r2 bS pass0 (by rfl) eS.mc (pa_cons (pe_callB call_len_seq (by rfl) T.len PySem.boot_len (pa_cons (pv 1) pa_nil)) pa_nil))))
      pss_nil)
      (pss_one (ps_ret (pe_callS GV hr7 (by rfl) VA.mf VA.fn.kp VA.bd (fun σ => L2N.passAt tk σ) (pa_cons (C8.pe_c c_blocks_of hr (by omega) (by rfl) (pa_cons (pv 1) pa_nil)) pa_nil)))))))))), ?_⟩
    rcases hv with ⟨d, hd, nd, kx⟩ | ⟨t, rfl, tl, to, ks, kt, ke, kp, kx⟩
    · refine st_seq <| st_if ?_
      refine ⟨_, rfl, v, .ty "str", _, .type "str", isStrY d, rfl, .ty "str", Dp.ty hd, kStrY d (Dp.kinds hd), _, rfl, ?_⟩
      rw [nd]
      exact iteT ⟨(by show 1 ≤ 1000; decide), raise1 (Same.refl H) kx⟩
    refine st_seq <| st_if ?_
    refine ⟨_, rfl, .str t, .ty "str", .type "str", .type "str", true, rfl, .ty "str", .base (.str _), kit_ty (by decide +kernel), _, rfl, iteF (st_next ?_)⟩
    dsimp only
    refine st_seq <| st_asg ?_
    refine ⟨_, rfl, ⟨_, rfl⟩, t, "\n", rfl, rfl, by decide +kernel, (by rw [sizeLine_eq]; omega), fun p hp => st_g ?_⟩
    dsimp only
    have ne := split_ne t "\n"
    have tot := total_split t
    have lok : ∀ l ∈ Txt.split t "\n", okS l := fun l hl => okS_part to hl
    have llen : ∀ l ∈ Txt.split t "\n", l.length ≤ 90000 := fun l hl => Nat.le_trans (PyProof.Rows.part_short hl) tl
    have slen := PyProof.Rows.split_le t "\n"
    have eP : parseP t = parseL (Txt.split t "\n") := rfl
    rw [eP] at kt ke kp kx
    replace ks : ∀ n : Nat, parseL (Txt.split t "\n") = .syn n → ∀ (dd : Addr) (H' : Hp), Out H H' dd [("at", .int (n : Int))] → E (.ref CS) (some dd) H' := ks
    have s1 : Same H (upd H p (.lst ((Txt.split t "\n").map V.str))) := Same.new hp
    have p1 : upd H p (.lst ((Txt.split t "\n").map V.str)) p = some (.lst ((Txt.split t "\n").map V.str)) := upd_same
    generalize upd H p (.lst ((Txt.split t "\n").map V.str)) = H1 at s1 p1 ⊢
    clear eP
    generalize Txt.split t "\n" = LS at ne tot lok llen slen kt ke kp kx ks p1
    obtain ⟨ls, un, rfl⟩ : ∃ ls un, LS = ls ++ [un] := ⟨_, _, (List.dropLast_concat_getLast ne).symm⟩
    have eL : parseL (ls ++ [un]) = match runK "" ls 0 with | .inl n => .syn n | .inr k => if un ≠ "" ∨ k ∉ lastT then .syn ls.length else .res (valueP (blocksP ls)) := by
      unfold parseL
      rw [List.dropLast_concat, List.getLast?_concat, List.length_append]
      cases runK "" ls 0 with
      | inl n => rfl
      | inr k =>
        show (if some un ≠ some ("" : Str) ∨ k ∉ lastT then _ else _) = (if un ≠ "" ∨ k ∉ lastT then _ else _)
        by_cases c : un ≠ "" ∨ k ∉ lastT
        · rw [if_pos c, if_pos (c.imp (fun z e => z (Option.some.inj e)) id)]
          rfl
        · rw [if_neg c, if_neg (fun z => c (z.imp (fun z e => z (by rw [e])) id))]
    rw [eL] at kt ke kp kx
    replace ks : ∀ n : Nat, (match runK "" ls 0 with | .inl n => Got.syn n | .inr k => if un ≠ "" ∨ k ∉ lastT then .syn ls.length else .res (valueP (blocksP ls))) = .syn n → ∀ (dd : Addr) (H' : Hp), Out H H' dd [("at", .int (n : Int))] → E (.ref CS) (some dd) H' := by
      rw [← eL]
      exact ks
    have tls : total ls ≤ 90001 := by
      have := total_dropLast (ls ++ [un])
      rw [List.dropLast_concat] at this
      omega
    have lls : ls.length ≤ 90001 := by
      rw [List.length_append] at slen
      simp only [List.length_cons, List.length_nil] at slen
      omega
    clear tot slen eL ne
    replace p1 : H1 p = some (.lst (ls.map V.str ++ [V.str un])) := by
      rw [List.map_append] at p1
      exact p1
    refine st_seq <| st_asg ?_
    refine ⟨_, rfl, .inl ⟨rfl, _, SqL.of p1⟩, p, _, _, rfl, rfl, p1, (show (ls.map V.str ++ [V.str un])[(ls.map V.str ++ [V.str un]).length - 1]? = some (V.str un) by simp), st_g ?_⟩
    dsimp only
    rw [List.dropLast_concat]
    have pN : H p = none := hp
    have s2 : Same H (upd H1 p (.lst (ls.map V.str))) := Same.mut s1 pN
    have p2 : Strs (upd H1 p (.lst (ls.map V.str))) p ls := upd_same
    generalize upd H1 p (.lst (ls.map V.str)) = H2 at s2 p2 ⊢
    clear p1 s1
    refine st_seq <| st_asg <| te_c <| st_g ?_
    dsimp only
    refine st_seq ?_
    refine ⟨_, rfl, p, _, rfl, SqL.of p2, ?_⟩
    refine for_it walk_enum (fun i σ H3 => ∃ (k4 k5 : Option V) (k : Str), σ = [some (.str t), some (.ref p), some (.str un), some (.str k), k4, k5] ∧ Same H H3 ∧ Strs H3 p ls ∧ k ∈ kinds ∧ runK "" ls 0 = runK k (ls.drop i) i)
      ⟨_, _, "", rfl, s2, p2, by decide +kernel, rfl⟩ (fun i σ H3 _ ⟨_, _, _, _, _, z, _⟩ => SqL.of z) ?_ ?_
    · rintro i y σ H3 H4 hi ⟨k4, k5, k, rfl, s3, p3, hk, er⟩ ⟨T', x, l, rfl, hT, rfl, hx, hl'⟩
      obtain rfl := Option.some.inj hx
      replace hl' : (ls.map V.str)[i]? = some l := hl'
      rw [List.getElem?_map] at hl'
      obtain ⟨l, hll, rfl⟩ := Option.map_eq_some_iff.mp hl'
      have sT : Same H3 (upd H3 T' (.tup [.int (i : Nat), .str l])) := Same.new hT
      have tt : upd H3 T' (.tup [.int (i : Nat), .str l]) T' = some (.tup [.int (i : Nat), .str l]) := upd_same
      generalize upd H3 T' (.tup [.int (i : Nat), .str l]) = H4 at sT tt ⊢
      have s4 : Same H H4 := fun b o z => sT b o (s3 b o z)
      have p4 := sT _ _ p3
      refine ⟨T', _, rfl, SqT.of tt, rfl, _, _, rfl, _, _, rfl, rfl, ?_⟩
      dsimp only
      have lb := llen l (List.mem_append_left _ (List.mem_of_getElem? hll))
      refine st_seq <| st_asg <| te_call <| ta_cons <| te_v rfl <| ta_cons <| te_v rfl <| ta_nil ⟨k, l, rfl, hk, by omega, fun H5 s5 => st_g ?_⟩
      dsimp only
      have s05 : Same H H5 := fun b o z => s5 b o (s4 b o z)
      refine st_if ⟨_, rfl, _, rfl, ?_⟩
      cases ek : kindP k l with
      | none =>
        have := runK_stop (n := i) hll ek
        rw [this] at er
        refine iteT ⟨_, rfl, (by show 1 ≤ 1000; decide), raise1 s05 fun dd H' o => ks i ?_ dd H' o⟩
        rw [er]
      | some k2 =>
        refine iteF (st_next ⟨_, _, k2, rfl, s05, s5 _ _ p4, kindP_in hk ek, ?_⟩)
        rw [er]
        exact runK_step hll ek
    · rintro σ H3 ⟨k4, k5, k, rfl, s3, p3, hk, er⟩
      rw [List.length_map, List.drop_length] at er
      replace er : runK "" ls 0 = .inr k := er
      rw [er] at kt ke kp kx
      replace ks : ∀ n : Nat, (if un ≠ "" ∨ k ∉ lastT then Got.syn ls.length else .res (valueP (blocksP ls))) = .syn n → ∀ (dd : Addr) (H' : Hp), Out H H' dd [("at", .int (n : Int))] → E (.ref CS) (some dd) H' := fun n e => ks n (by rw [er]; exact e)
      dsimp only
      refine ⟨fun σ' H' => σ' = [some (.str t), some (.ref p), some (.str un), some (.str k), k4, k5] ∧ H' = H3 ∧ un = "" ∧ k ∈ lastT, ?_, ?_⟩
      · have bad : (un ≠ "" ∨ k ∉ lastT) → ∀ (dd : Addr) (H' : Hp), Out H3 H' dd [("at", .int (ls.length : Int))] → E (.ref CS) (some dd) H' := fun c dd H' o => ks ls.length (by rw [if_pos c]) dd H' (Out.more s3 o)
        have rz : tCons (tCB (fun xs H Q => ∃ p ys, xs = [.ref p] ∧ (SqL K H p ys ∨ SqT K H p ys) ∧ Q (.int ys.length) H) (tCons (tVar 1) tNil)) tNil [some (.str t), some (.ref p), some (.str un), some (.str k), k4, k5] H3 (fun xs H4 => xs = [.int (ls.length : Int)] ∧ H4 = H3) := ⟨_, rfl, p, _, rfl, .inl (SqL.of p3), by rw [List.length_map]; exact ⟨rfl, rfl⟩⟩
        refine tt_or <| tt_b <| te_op <| te_v rfl <| te_c ⟨rfl, _, rfl, ?_⟩
        by_cases cu : un = ""
        · rw [show (!decide (V.str un = V.str "")) = false by rw [cu]; rfl]
          refine iteF <| tt_b <| te_op <| te_v rfl <| te_c ⟨fL, _, rfl, .inr (tb.lst _), rfl, flat_strs _, _, rfl, ?_⟩
          show if (!inV (V.str k) (lastT.map V.str)) = true then _ else _
          rw [inV_strs]
          by_cases cl : k ∈ lastT
          · rw [decide_eq_true cl]
            exact iteF ⟨rfl, rfl, cu, cl⟩
          · rw [decide_eq_false cl]
            refine iteT ⟨_, rfl, p, _, rfl, .inl (SqL.of p3), ?_⟩
            rw [List.length_map]
            exact ⟨(by show 1 ≤ 1000; decide), raise1 (Same.refl H3) (bad (.inr cl))⟩
        · rw [show (!decide (V.str un = V.str "")) = true by rw [decide_eq_false (fun z => cu (V.str.inj z))]; rfl]
          refine iteT <| iteT ⟨_, rfl, p, _, rfl, .inl (SqL.of p3), ?_⟩
          rw [List.length_map]
          exact ⟨(by show 1 ≤ 1000; decide), raise1 (Same.refl H3) (bad (.inl cu))⟩
      rintro σ' H' ⟨rfl, rfl, eu, el⟩
      have en : ¬ (un ≠ "" ∨ k ∉ lastT) := fun z => z.elim (fun z => z eu) (fun z => z el)
      dsimp only at kt ke kp kx
      rw [if_neg en] at kt ke kp kx
      refine st_ret <| te_callS <| ta_cons <| te_call <| ta_cons <| te_v rfl <| ta_nil ⟨p, ls, rfl, p3, run_first er, by have : total ls = (ls.map fun l => l.length + 1).sum := rfl; omega, fun B ws H4 s4 hB0 hB pr => ?_⟩
      have s04 : Same H H4 := fun b o z => s4 b o (s3 b o z)
      refine ta_nil ⟨B, ws, blocksP ls, k, rfl, hB, pr, Acc.run .start er, el, by have := blk_few ls; omega, fun b hb => (blk_ok (fun l hl => lok l (List.mem_append_left _ hl)) b hb).mono (by omega), fun fs e a H5 s5 tr => ?_, fun es e v H5 s5 rv => ?_, fun pk e v H5 s5 rv => ?_, fun e dd H5 o => ?_⟩
      · exact kt fs (by rw [e]) a H5 (fun b o z => s5 b o (s04 b o z)) tr
      · exact ke es (by rw [e]) v H5 (fun b o z => s5 b o (s04 b o z)) rv
      · exact kp pk (by rw [e]) v H5 (fun b o z => s5 b o (s04 b o z)) rv
      · exact kx (by rw [e]) dd H5 (Out.more s04 o)
end
end Kl

namespace Kl
open PySem L2 Kd Kx
/-! printed: a tree's, an edit's or a package's text, or BadValue(1) -/
def strY : PyData → Str | .str x => x | _ => ""
def intY : PyData → Int | .int i => i | _ => 0
def glue (xs : List Str) : Str := xs.foldl (· ++ ·) Str.empty
def chL (d : PyData) : List Str := match seqY d with | some [a, b, c] => (strY a ++ " " ++ strY b) :: barL (strY c) | some [a, b] => [strY a ++ " " ++ strY b] | _ => []
def ndL (d : PyData) : Str := match seqY d with | some [a, b, c] => glue ["need ", strY a, " ", toString (intY b), " ", toString (intY c)] | _ => ""
def flL (q : Str × Str) : List Str := (("file " : Str) ++ q.1) :: barL q.2
def treeL (fs : Fs) : List Str := ("tree" : Str) :: fs.flatMap flL
def editL (d : PyData) : List Str := ("edit" : Str) :: ((seqY d).getD []).flatMap chL
def pkgL (d : PyData) : List Str := match seqY d with | some [a, b, c, e] => glue ["package ", strY a, " ", toString (intY b)] :: (((seqY c).getD []).map ndL ++ (("content" : Str) :: barL (strY e))) | _ => []
def smallE (d : PyData) : Bool := editY d && decide (((seqY d).getD []).length ≤ 120)
def spPrinted (K : PySem.W.Frag) (C CV : Addr) : Sp := fun vs H Q E => ∃ v : V, vs = [v] ∧ ((∃ (a : Addr) (fs : Fs), v = .ref a ∧ TreeAt C H a fs ∧ (∀ q ∈ fs, q.2.length ≤ 1000) ∧ (contentOf (treeL fs)).length ≤ 90000 ∧ ∀ H' : Hp, Same H H' → Q (.str (contentOf (treeL fs))) H') ∨
  ∃ d, Dp K H v d ∧ YOk d ∧
    (smallE d = true → (contentOf (editL d)).length ≤ 90000 ∧ ∀ H' : Hp, Same H H' → Q (.str (contentOf (editL d))) H') ∧
    (smallE d = false → pkgY d = true → (contentOf (pkgL d)).length ≤ 90000 ∧ ∀ H' : Hp, Same H H' → Q (.str (contentOf (pkgL d))) H') ∧
    (smallE d = false → pkgY d = false → ∀ (dd : Addr) (H' : Hp), Out H H' dd [("at", .int 1)] → E (.ref CV) (some dd) H'))
theorem eqv_str {a : PyData} {x : Str} (h : PyData.eqv a (.str x) = true) : a = .str x := by
  cases a with
  | str y => simp only [PyData.eqv, decide_eq_true_eq, beq_iff_eq] at h; rw [h]
  | none => simp [PyData.eqv] at h
  | bool _ => simp [PyData.eqv] at h
  | int _ => simp [PyData.eqv] at h
  | list _ => simp [PyData.eqv] at h
  | tuple _ => simp [PyData.eqv] at h
  | dict _ => simp [PyData.eqv] at h
theorem wordY_str {a : PyData} (h : wordY a = true) : ∃ x, a = .str x := by
  cases a with
  | str x => exact ⟨x, rfl⟩
  | none => cases h
  | bool _ => cases h
  | int _ => cases h
  | list _ => cases h
  | tuple _ => cases h
  | dict _ => cases h
theorem pathY_str {a : PyData} (h : pathY a = true) : ∃ x, a = .str x := by
  cases a with
  | str x => exact ⟨x, rfl⟩
  | none => cases h
  | bool _ => cases h
  | int _ => cases h
  | list _ => cases h
  | tuple _ => cases h
  | dict _ => cases h
theorem contY_str {a : PyData} (h : contY a = true) : ∃ x, a = .str x ∧ x.length ≤ 1000 := by
  cases a with
  | str x =>
    refine ⟨x, rfl, ?_⟩
    have h : signsB 1000 x = true := h
    unfold signsB at h
    rw [Bool.and_eq_true, decide_eq_true_eq] at h
    exact h.1
  | none => cases h
  | bool _ => cases h
  | int _ => cases h
  | list _ => cases h
  | tuple _ => cases h
  | dict _ => cases h
theorem verY_int {a : PyData} (h : verY a = true) : ∃ i : Int, a = .int i ∧ i.natAbs ≤ 9 := by
  cases a with
  | int i =>
    have h : (decide (1 ≤ i) && decide (i ≤ 9)) = true := h
    rw [Bool.and_eq_true, decide_eq_true_eq, decide_eq_true_eq] at h
    exact ⟨i, rfl, by omega⟩
  | str _ => cases h
  | none => cases h
  | bool _ => cases h
  | list _ => cases h
  | tuple _ => cases h
  | dict _ => cases h
theorem chg_parts {d : PyData} (h : changeY d = true) : (∃ x c, seqY d = some [.str "put", .str x, .str c] ∧ c.length ≤ 1000) ∨ ∃ x, seqY d = some [.str "drop", .str x] := by
  unfold changeY at h
  split at h
  · rename_i a b c e
    rw [Bool.and_eq_true, Bool.and_eq_true] at h
    obtain rfl := eqv_str h.1
    obtain ⟨x, rfl⟩ := pathY_str h.2.1
    obtain ⟨c, rfl, hc⟩ := contY_str h.2.2
    exact .inl ⟨x, c, e, hc⟩
  · rename_i a b e
    rw [Bool.and_eq_true] at h
    obtain rfl := eqv_str h.1
    obtain ⟨x, rfl⟩ := pathY_str h.2
    exact .inr ⟨x, e⟩
  · cases h
theorem need_parts {d : PyData} (h : needY d = true) : ∃ (x : Str) (i j : Int), seqY d = some [.str x, .int i, .int j] ∧ i.natAbs ≤ 9 ∧ j.natAbs ≤ 9 := by
  unfold needY at h
  split at h
  · rename_i a b c e
    rw [Bool.and_eq_true, Bool.and_eq_true, Bool.and_eq_true] at h
    obtain ⟨x, rfl⟩ := wordY_str h.1
    obtain ⟨i, rfl, hi⟩ := verY_int h.2.1
    obtain ⟨j, rfl, hj⟩ := verY_int h.2.2.1
    exact ⟨x, i, j, e, hi, hj⟩
  · cases h
theorem pkg_parts {d : PyData} (h : pkgY d = true) : ∃ (x c : Str) (i : Int) (n : PyData) (ns : List PyData), seqY d = some [.str x, .int i, n, .str c] ∧ i.natAbs ≤ 9 ∧ c.length ≤ 1000 ∧ seqY n = some ns ∧ ns.length ≤ 4 ∧ ∀ m ∈ ns, needY m = true := by
  unfold pkgY at h
  split at h
  · rename_i a b n c e
    rw [Bool.and_eq_true, Bool.and_eq_true, Bool.and_eq_true] at h
    obtain ⟨x, rfl⟩ := wordY_str h.1
    obtain ⟨i, rfl, hi⟩ := verY_int h.2.1
    obtain ⟨c, rfl, hc⟩ := contY_str h.2.2.2
    have h3 := h.2.2.1
    unfold needsY at h3
    split at h3
    · rename_i ns en
      rw [Bool.and_eq_true, Bool.and_eq_true, decide_eq_true_eq, List.all_eq_true] at h3
      exact ⟨x, c, i, n, ns, e, hi, hc, en, h3.1, h3.2.1⟩
    · cases h3
  · cases h
theorem content_rows (xs : List Str) : xs.length ≤ (contentOf xs).length := by
  rw [content_len]
  induction xs with
  | nil => exact Nat.le_refl _
  | cons x r ih => simp only [List.map_cons, List.sum_cons, List.length_cons]; omega
theorem content_mem {xs : List Str} {x : Str} (h : x ∈ xs) : x.length + 1 ≤ (contentOf xs).length := by
  rw [content_len]
  induction xs with
  | nil => cases h
  | cons y r ih =>
    simp only [List.map_cons, List.sum_cons]
    rcases List.mem_cons.mp h with rfl | h
    · omega
    · have := ih h
      omega
end Kl

namespace Kl
open PySem L2 Kd Kx
/-! printed runs so -/
/-- no kind of data is a tree -/
def NoT (K : PySem.W.Frag) (C : Addr) : Prop := ∀ t ∈ ["NoneType", "bool", "int", "str", "list", "tuple"], PySem.W.kitOne K (.type t) (.ref C) = some false
theorem Dp.noT {K : PySem.W.Frag} {C : Addr} {H : Hp} {d : PyData} {v : V} (n : NoT K C) (h : Dp K H v d) : PySem.W.kitOne K (.type (tyY d)) (.ref C) = some false := by
  refine n _ ?_
  rcases Dp.kinds h with h | rfl | ⟨b, rfl⟩ | ⟨i, rfl⟩ | ⟨x, rfl⟩
  · cases d <;> first | (simp [tyY]; done) | (cases h; done)
  · show _ ∈ _
    simp [tyY]
  · simp [tyY]
  · simp [tyY]
  · simp [tyY]
theorem bar_len (c : Str) : (barL c).length ≤ c.length + 2 := by
  unfold barL
  rw [List.length_map]
  exact PyProof.Rows.split_le c "\n"
theorem rows_pre {α : Type} {f : α → List Str} {h : Str} {xs : List α} {x : α} {i : Nat} (hl : (contentOf (h :: xs.flatMap f)).length ≤ 90000) (hx : xs[i]? = some x) : (h :: (xs.take (i + 1)).flatMap f).length ≤ 90000 ∧ ∀ r ∈ f x, r ∈ (h :: xs.flatMap f) := by
  constructor
  · refine Nat.le_trans ?_ (Nat.le_trans (content_rows _) hl)
    rw [List.length_cons, List.length_cons]
    have e : xs.flatMap f = (xs.take (i + 1)).flatMap f ++ (xs.drop (i + 1)).flatMap f := by rw [← List.flatMap_append, List.take_append_drop]
    rw [e, List.length_append]
    omega
  · intro r hr
    exact List.mem_cons_of_mem _ (List.mem_flatMap.mpr ⟨x, List.mem_of_getElem? hx, hr⟩)
theorem edit_parts {d : PyData} (h : editY d = true) : ∃ ds, seqY d = some ds ∧ ∀ x ∈ ds, changeY x = true := by
  unfold editY at h
  split at h
  · rename_i ds e
    rw [Bool.and_eq_true, List.all_eq_true] at h
    exact ⟨ds, e, h.1⟩
  · cases h
theorem small_parts {d : PyData} (h : smallE d = true) : editY d = true ∧ ((seqY d).getD []).length ≤ 120 := by
  unfold smallE at h
  rw [Bool.and_eq_true, decide_eq_true_eq] at h
  exact h
theorem seqY_walk0 {K : PySem.W.Frag} {tl : TE} {σ : L2.St} {H H1 H2 : Hp} {R : It → Hp → Prop} {a : Addr} {vs : List V} (h : SeqY K H1 a vs) (s : Same H1 H2) (ht : ∀ Q : VK, Q (.ref a) H2 → tl σ H Q) (k : ∀ (J : It) (G : Hp → Prop), Walk J vs.length G (YAt vs) → (∀ H' : Hp, Same H1 H' → G H') → R J H2) : iSeq K tl σ H R := by
  rcases h with h | h
  · exact .inr (ht _ ⟨a, rfl, ⟨_, SqL.same s h⟩, k _ (fun H => SqL K H a vs) walk_list fun H' s => SqL.same s h⟩)
  · exact .inl (ht _ ⟨a, rfl, ⟨_, SqT.same2 s h⟩, k _ (fun H => SqT K H a vs) walk_tup fun H' s => SqT.same2 s h⟩)
theorem g_seq {K : PySem.W.Frag} {n : Nat} {t : TGs} {a : Addr} {vs : List V} {σ : L2.St} {H : Hp} {Q : L2.St → Hp → Prop} (h : SeqY K H a vs) (hl : vs.length = n) (q : t vs σ H Q) : Ks.gSeq K n t (.ref a) σ H Q :=
  h.elim (fun h => .inr ⟨a, vs, rfl, h, hl, q⟩) (fun h => .inl ⟨a, vs, rfl, h, hl, q⟩)
theorem log_few {i : Int} (h : i.natAbs ≤ 9) : i.natAbs.log2 < 1920 := by
  have := Nat.log2_le_self i.natAbs
  omega
theorem tt_small {K : PySem.W.Frag} {rl : List V → Hp → VK → Prop} {r : R2} {v : V} {d : PyData} {σ : L2.St} {H : Hp} {Q : Bool → Hp → Prop} (hi : σ[0]? = some (some v)) (hd : Dp K H v d) (yo : YOk d)
    (eL : ∀ (H : Hp) (a : Addr) (vs : List V) (Q : VK), SeqY K H a vs → Q (.int vs.length) H → rl [.ref a] H Q) (eR : ∀ (i j : Int) (H : Hp) (Q : VK), Q (.bl (decide (i ≤ j))) H → r (.int i) (.int j) H Q)
    (k : ∀ H' : Hp, Same H H' → Q (smallE d) H') : tAnd (tB (tCall (spY editY K) [] C8.E0 (tCons (tVar 0) tNil))) (tB (tOp r (tCB rl (tCons (tVar 0) tNil)) (tC (.int 120)))) σ H Q := by
  refine tt_and <| tt_b <| te_call <| ta_cons <| te_v hi <| ta_nil ⟨v, d, rfl, hd, yo, fun H1 s1 => ⟨_, rfl, ?_⟩⟩
  have k1 := k H1 s1
  unfold smallE at k1
  cases ee : editY d with
  | false =>
    rw [ee, Bool.false_and] at k1
    exact iteF k1
  | true =>
    obtain ⟨ds, es, an⟩ := edit_parts ee
    rw [ee, Bool.true_and, es] at k1
    obtain ⟨a, vs, rfl, sq, al⟩ := Dp.seq (Dp.same s1 hd) es
    refine iteT <| tt_b <| te_op <| te_cb <| ta_cons <| te_v hi <| ta_nil <| eL _ _ _ _ sq <| te_c <| eR _ _ _ _ ⟨_, rfl, ?_⟩
    rw [DpAll.len al]
    have e : decide ((ds.length : Int) ≤ 120) = decide (((some ds).getD []).length ≤ 120) := by
      show decide ((ds.length : Int) ≤ 120) = decide (ds.length ≤ 120)
      by_cases c : ds.length ≤ 120
      · rw [decide_eq_true c, decide_eq_true (by omega)]
      · rw [decide_eq_false c, decide_eq_false (by omega)]
    rw [e]
    exact k1
section
variable {P : Program} {w : World} {K : PySem.W.Frag} {mg : Str → Option Value} {base : Heap}
abbrev s_printed : Stmt := topS 38
theorem sc_printed : FnScope ["value", "lines", "path", "content", "change", "name", "version", "needs", "line", "other", "low", "high"] ["value"] (defScope s_printed) := ⟨rfl, rfl, rfl, by decide +kernel, rfl, by decide +kernel, by decide +kernel⟩
theorem ok_printed {C CV fV f : Addr} {fd fdV : FuncData} (F : Fun K "printed" "printed" s_printed f fd) (T : Glo mg) (tp : TreeP P w K mg base C) (nt : NoT K C) {t120 : Tok} (m_MOST_CHANGES : mg "MOST_CHANGES" = some (.int 120 t120))
    (eV : Err K mg "BadValue" CV fV) (gV : FnOk P w K mg base CX0 1 fV fdV ["self", "at"] (spAt1 K CV)) (bV : Binds K fdV ["self", "at"] [])
    (c_content_lines : C8.Cal P w K mg base 1 "content_lines" (spCLines K) []) (c_is_edit : C8.Cal P w K mg base 5 "is_edit" (spY editY K) []) (c_is_package : C8.Cal P w K mg base 5 "is_package" (spY pkgY K) []) :
    FnOk P w K mg base (L2N.CX P w) 6 f fd ["value"] (spPrinted K C CV) := by
  refine okN F sc_printed (fun vs H Q E h => ?_) (fun cdv A outer s H vs Q E hr h => ?_)
  · obtain ⟨v, rfl, _⟩ := h
    rfl
  · obtain ⟨v, rfl, hv⟩ := h
    have r2 : Room 2 _ := hr.mono (by decide)
    have tk := L2N.takes_of (X := cxOf (L2N.CX P w) P w K mg base ["value", "lines", "path", "content", "change", "name", "version", "needs", "line", "other", "low", "high"] "printed" (defScope s_printed) f cdv A outer s H E) rfl rfl rfl rfl
    refine ⟨_, (C8.pss_cut (ps_if (pt_val (pe_callB call_isi (by rfl) T.isi PyProof.Rows.boot_isinstance (pa_cons (pv 0) (pa_cons (pe_glob (v := .ref C) (by rfl) tp.tf.mC rfl) pa_nil))))
      (pss_cons (ps_set (i := 1) sc_printed.nd rfl (.inl rfl) (pe_lst (pa_strs (xs := ["tree"]) rfl)))
        (pss_one (ps_for (L2.passes_of rfl) rfl (pi_tup (pe_files tp hr (by omega) (pv 0))) (pg_tup rfl (pgs_cons (pg_name (i := 2) sc_printed.nd rfl (.inl rfl)) (pgs_cons (pg_name (i := 3) sc_printed.nd rfl (.inl rfl)) pgs_nil)))
        (pss_one (ps_expr (pe_bm PySem.F.plainAttrs_list PySem.F.slot_list_extend PySem.F.type_list_extend mt_extend (pv 1) (pa_cons (pe_op op_cat (pe_lst (pa_cons (pe_op op_add_str pe_str (pv 2)) pa_nil)) (C8.pe_c c_content_lines hr (by omega) (by rfl) (pa_cons (pv 3) pa_nil))) pa_nil)))))))
      (pss_one (ps_if (PW.pt (pw_and (pt_val (C8.pe_c c_is_edit hr (by omega) (by rfl) (pa_cons (pv 0) pa_nil))) (pw_and1 (pt_cmpR op_le (pe_callB call_len_seq (by rfl) T.len PySem.boot_len (pa_cons (pv 0) pa_nil)) (pe_glob (v := .int 120) (by rfl) m_MOST_CHANGES ⟨_, rfl⟩) (nomark _)))))
        (pss_cons (ps_set (i := 1) sc_printed.nd rfl (.inl rfl) (pe_lst (pa_strs (xs := ["edit"]) rfl)))
          (pss_one (ps_for (L2.passes_of rfl) rfl (pi_seq (pv 0)) (pg_name (i := 4) sc_printed.nd rfl (.inl rfl))
          (pss_cons (ps_expr (pe_bm PySem.F.plainAttrs_list PySem.F.slot_list_append PySem.F.type_list_append mt_append (pv 1) (pa_cons (pe_op op_add_str (pe_op op_add_str (pe_ix (r := rIx K) ix_seq (pv 4) pe_int (fun _ _ => rfl)) pe_str) (pe_ix (r := rIx K) ix_seq (pv 4) pe_int (fun _ _ => rfl))) pa_nil)))
            (pss_one (ps_if (pt_cmpR op_eq (pe_ix (r := rIx K) ix_seq (pv 4) pe_int (fun _ _ => rfl)) pe_str (nomark _))
            (pss_one (ps_expr (pe_bm PySem.F.plainAttrs_list PySem.F.slot_list_extend PySem.F.type_list_extend mt_extend (pv 1) (pa_cons (C8.pe_c c_content_lines hr (by omega) (by rfl) (pa_cons (pe_ix (r := rIx K) ix_seq (pv 4) pe_int (fun _ _ => rfl)) pa_nil)) pa_nil))))
            pss_nil))))))
        (pss_one (ps_if (pt_val (C8.pe_c c_is_package hr (by omega) (by rfl) (pa_cons (pv 0) pa_nil)))
          (pss_cons (ps_asg (pv 0) (Ks.pg_seq rfl (pgs_cons (pg_name (i := 5) sc_printed.nd rfl (.inl rfl)) (pgs_cons (pg_name (i := 6) sc_printed.nd rfl (.inl rfl)) (pgs_cons (pg_name (i := 7) sc_printed.nd rfl (.inl rfl)) (pgs_cons (pg_name (i := 3) sc_printed.nd rfl (.inl rfl)) pgs_nil))))))
            (pss_cons (ps_set (i := 1) sc_printed.nd rfl (.inl rfl) (pe_lst (pa_cons (pe_joined (.cons pe_str (.cons (pe_fmt (pv 5)) (.cons pe_str (.cons (pe_fmt (pv 6)) .nil))))) pa_nil)))
            (pss_cons (ps_expr (pe_bm PySem.F.plainAttrs_list PySem.F.slot_list_extend PySem.F.type_list_extend mt_extend (pv 1) (pa_cons (pe_lc (own := [("other", 9), ("low", 10), ("high", 11)]) (g := (Ks.gSeq K 3 (gCons (gName 9) (gCons (gName 10) (gCons (gName 11) gNil))))) (tt := tYes) rfl sc_printed.nd (pi_seq (pv 7)) (blkOk_by (N := ["value", "lines", "path", "content", "change", "name", "version", "needs", "line", "other", "low", "high"]) (sc := defScope s_printed) (by decide +kernel)) (fun _ _ _ _ _ => (Ks.pg_seq rfl (pgs_cons (pg_name (i := 9) sc_printed.nd rfl (.inl rfl)) (pgs_cons (pg_name (i := 10) sc_printed.nd rfl (.inl rfl)) (pgs_cons (pg_name (i := 11) sc_printed.nd rfl (.inl rfl)) pgs_nil))))) (fun _ _ _ _ _ => pts_nil) (fun _ _ _ _ _ => (pe_joined (.cons pe_str (.cons (pe_fmt (pv 9)) (.cons pe_str (.cons (pe_fmt (pv 10)) (.cons pe_str (.cons (pe_fmt (pv 11)) .nil))))))))) pa_nil)))
            (pss_one (ps_expr (pe_bm PySem.F.plainAttrs_list PySem.F.slot_list_extend PySem.F.type_list_extend mt_extend (pv 1) (pa_cons (pe_op op_cat (pe_lst (pa_strs (xs := ["content"]) rfl)) (C8.pe_c c_content_lines hr (by omega) (by rfl) (pa_cons (pv 3) pa_nil))) pa_nil)))))))
          (pss_one (L2N.ps_raise rfl tk (nmk_ex eV.ex eV.ini eV.tI gV r2 bV pass0 (by rfl) eV.mc (pa_cons pe_int pa_nil)))))))))
      (pss_one (ps_ret (pe_join pe_str (pe_lc (own := [("line", 8)]) (g := gName 8) (tt := tYes) rfl sc_printed.nd (pi_list (pv 1)) (blkOk_by (N := ["value", "lines", "path", "content", "change", "name", "version", "needs", "line", "other", "low", "high"]) (sc := defScope s_printed) (by decide +kernel)) (fun _ _ _ _ _ => (pg_name (i := 8) sc_printed.nd rfl (.inl rfl))) (fun _ _ _ _ _ => pts_nil) (fun _ _ _ _ _ => (pe_op op_add_str (pv 8) pe_str))))))), ?_⟩
    refine ⟨fun σ' H' => ∃ (k2 k3 k4 k5 k6 k7 k8 k9 k10 k11 : Option V) (p : Addr) (rows : List Str), σ' = [some v, some (.ref p), k2, k3, k4, k5, k6, k7, k8, k9, k10, k11] ∧ Same H H' ∧ Strs H' p rows ∧ (contentOf rows).length ≤ 90000 ∧ ∀ H2 : Hp, Same H H2 → Q (.str (contentOf rows)) H2, ?_, ?_⟩
    · rcases hv with ⟨a, fs, rfl, ha, hc, hl, k⟩ | ⟨d, hd, yo, ke, kp, kx⟩
      · refine st_if <| tt_b <| te_cb <| ta_cons <| te_v rfl <| ta_cons <| te_c <| ta_nil ⟨_, .ref C, .ref C, .ref C, true, rfl, .own C, ha.ty tp.tf, tp.tf.kC, _, rfl, iteT ?_⟩
        refine st_seq <| st_asg ?_
        refine ⟨(by show 1 ≤ sizeLine; decide), fun p hp => st_g ?_⟩
        dsimp only
        have s1 : Same H (upd H p (.lst (List.map V.str [("tree" : Str)]))) := Same.new hp
        have p1 : Strs (upd H p (.lst (List.map V.str [("tree" : Str)]))) p ["tree"] := upd_same
        generalize upd H p (.lst (List.map V.str [("tree" : Str)])) = H1 at s1 p1 ⊢
        refine te_filesV rfl (ha.same s1) fun t o vs h1 h2 h3 h4 => ?_
        have vl := h4.len
        rw [List.length_map] at vl
        have ntp : t ≠ p := fun z => by
          rw [z, p1] at h1
          cases h1
        refine ⟨t, rfl, ⟨_, .inl (.inr ⟨o, h1⟩)⟩, ?_⟩
        refine for_tup (K := K) (a := t) (xs := vs) (fun i σ H2 => ∃ (k2 k3 : Option V), σ = [some (.ref a), some (.ref p), k2, k3, none, none, none, none, none, none, none, none] ∧ Same H H2 ∧ Rd H2 t (.tup vs) ∧ Reps H2 (fs.map pairD) vs ∧ Strs H2 p ("tree" :: (fs.take i).flatMap flL))
          ⟨_, _, rfl, s1, .inr ⟨o, h1⟩, h4, p1⟩ (fun i σ H2 _ ⟨_, _, _, _, z, _⟩ => .inl z) ?_ ?_
        · rintro i x σ H2 hx ⟨k2, k3, rfl, s2, r2, v2, p2⟩
          have hil : i < fs.length := by
            have := (List.getElem?_eq_some_iff.mp hx).1
            omega
          have hq : fs[i]? = some fs[i] := List.getElem?_eq_getElem hil
          obtain ⟨v, hv, hrep⟩ := v2.get (i := i) (d := pairD fs[i]) (by rw [List.getElem?_map, hq]; rfl)
          obtain rfl : v = x := Option.some.inj (hv.symm.trans hx)
          obtain ⟨t2, rfl, ht⟩ := pair_of hrep
          have cl := hc _ (List.getElem_mem hil)
          have pre := rows_pre (α := Str × Str) (f := flL) (h := "tree") hl hq
          have fpl : (("file " : Str) ++ fs[i].1).length + 1 ≤ 90000 := Nat.le_trans (content_mem (pre.2 _ (List.mem_cons_self ..))) hl
          have stp : ("tree" : Str) :: (fs.take (i + 1)).flatMap flL = (("tree" : Str) :: (fs.take i).flatMap flL) ++ flL fs[i] := by
            rw [List.take_add_one, hq]
            simp only [Option.toList_some, List.flatMap_append, List.flatMap_cons, List.flatMap_nil, List.append_nil, List.cons_append]
          rw [stp] at pre ⊢
          generalize fs[i] = q at hq ht cl fpl pre
          refine ⟨t2, _, rfl, .inl ht, rfl, _, _, rfl, _, _, rfl, rfl, ?_⟩
          dsimp only
          refine ⟨_, rfl, .inl ⟨rfl, _, SqL.of p2⟩, _, rfl, _, _, rfl, rfl, small_of (by rw [len_cat] at fpl; omega), (by show 1 ≤ sizeLine; decide), fun e he => ⟨_, rfl, q.2, rfl, by omega, fun D H3 s3 hD d3 => ?_⟩⟩
          have e3 := s3 _ _ (upd_same (H := H2) (a := e))
          have p3 := s3 _ _ ((Same.new (o := .lst [.str (("file " : Str) ++ q.1)]) he) _ _ p2)
          have s03 : Same H H3 := fun b o z => s3 b o (Same.new he b o (s2 b o z))
          have r3 := Rd.same s3 (Rd.same (Same.new he) r2)
          have v3 := Reps.keep (Same.tk s3) (Reps.keep (Same.tk (Same.new he)) v2)
          have lb := bar_len q.2
          refine ⟨e, D, _, _, rfl, rfl, e3, d3, by rw [List.length_map, sizeLine_eq]; show 1 + _ ≤ _; omega, fun g hg => ?_⟩
          have sg : Same H3 (upd H3 g (.lst ([V.str (("file " : Str) ++ q.1)] ++ (barL q.2).map V.str))) := Same.new hg
          have pg := sg _ _ p3
          have gg : upd H3 g (.lst ([V.str (("file " : Str) ++ q.1)] ++ (barL q.2).map V.str)) g = _ := upd_same
          have s04 : Same H (upd H3 g (.lst ([V.str (("file " : Str) ++ q.1)] ++ (barL q.2).map V.str))) := fun b o z => sg b o (s03 b o z)
          have r4 := Rd.same sg r3
          have v4 := Reps.keep (Same.tk sg) v3
          generalize upd H3 g (.lst ([V.str (("file " : Str) ++ q.1)] ++ (barL q.2).map V.str)) = H4 at pg gg s04 r4 v4 ⊢
          refine ⟨p, g, _, _, rfl, rfl, pg, gg, ?_, ?_⟩
          · have := pre.1
            rw [List.length_append, show (flL q).length = (barL q.2).length + 1 from rfl] at this
            rw [List.length_map, List.length_append, List.length_map, sizeLine_eq]
            show _ + (1 + _) ≤ _
            omega
          · refine ⟨_, _, rfl, Same.mut s04 hp, ?_, ?_, ?_⟩
            · rcases r4 with r4 | ⟨o4, r4⟩
              · exact .inl (by rw [upd_ne ntp]; exact r4)
              · exact .inr ⟨o4, by rw [upd_ne ntp]; exact r4⟩
            · exact Reps.keep (Tk.lst pg) v4
            · show upd _ _ _ _ = _
              rw [upd_same]
              simp [flL]
        · rintro σ H2 ⟨k2, k3, rfl, s2, r2, v2, p2⟩
          rw [vl, List.take_length] at p2
          exact ⟨_, _, _, _, _, _, _, _, _, _, p, _, rfl, s2, p2, hl, k⟩
      · refine st_if <| tt_b <| te_cb <| ta_cons <| te_v rfl <| ta_cons <| te_c <| ta_nil ⟨v, .ref C, _, .ref C, false, rfl, .own C, Dp.ty hd, Dp.noT nt hd, _, rfl, iteF ?_⟩
        refine st_if <| tt_small rfl hd yo (fun _ _ _ _ h q => ⟨_, _, rfl, h, q⟩) (fun _ _ _ _ q => ⟨_, _, rfl, rfl, q⟩) fun H1 s1 => ?_
        cases se : smallE d with
        | true =>
          have ⟨ee, e120⟩ := small_parts se
          obtain ⟨ds, es, an⟩ := edit_parts ee
          obtain ⟨hl, k⟩ := ke se
          have el : editL d = ("edit" : Str) :: ds.flatMap chL := by unfold editL; rw [es]; rfl
          rw [el] at hl k
          obtain ⟨a, vs, rfl, sq, al⟩ := Dp.seq (Dp.same s1 hd) es
          refine iteT <| st_seq <| st_asg ?_
          refine ⟨(by show 1 ≤ sizeLine; decide), fun p hp => st_g ?_⟩
          dsimp only
          have hp0 := s1.free hp
          have s2 : Same H1 (upd H1 p (.lst (List.map V.str [("edit" : Str)]))) := Same.new hp
          have p1 : Strs (upd H1 p (.lst (List.map V.str [("edit" : Str)]))) p ["edit"] := upd_same
          have s02 : Same H (upd H1 p (.lst (List.map V.str [("edit" : Str)]))) := fun b o z => s2 b o (s1 b o z)
          generalize upd H1 p (.lst (List.map V.str [("edit" : Str)])) = H2 at s2 p1 s02 ⊢
          refine seqY_walk0 sq s2 (fun Q q => ⟨_, rfl, q⟩) fun J G wk hG => ?_
          refine for_it wk (fun i σ H3 => ∃ (k4 : Option V), σ = [some (.ref a), some (.ref p), none, none, k4, none, none, none, none, none, none, none] ∧ Same H1 H3 ∧ Strs H3 p ("edit" :: (ds.take i).flatMap chL))
            ⟨_, rfl, s2, p1⟩ (fun i σ H3 _ ⟨_, _, z, _⟩ => hG H3 z) ?_ ?_
          · rintro i y σ Hx H3 hi ⟨k4, rfl, s3, p3⟩ ⟨rfl, hy⟩
            have hil : i < ds.length := by
              have := DpAll.len al
              omega
            have hq : ds[i]? = some ds[i] := List.getElem?_eq_getElem hil
            obtain ⟨v, hv, hdp⟩ := DpAll.get al hq
            obtain rfl : v = y := Option.some.inj (hv.symm.trans hy)
            have pre := rows_pre (f := chL) (h := "edit") hl hq
            have cp := chg_parts (an _ (List.getElem_mem hil))
            have stp : ("edit" : Str) :: (ds.take (i + 1)).flatMap chL = (("edit" : Str) :: (ds.take i).flatMap chL) ++ chL ds[i] := by
              rw [List.take_add_one, hq]
              simp only [Option.toList_some, List.flatMap_append, List.flatMap_cons, List.flatMap_nil, List.append_nil, List.cons_append]
            rw [stp] at pre ⊢
            generalize ds[i] = q at hq hdp pre cp
            dsimp only
            rcases cp with ⟨x, c, eq, hc⟩ | ⟨x, eq⟩
            · skip
              obtain ⟨cc, ws, rfl, sq3, al3⟩ := Dp.seq (Dp.same s3 hdp) eq
              obtain ⟨v0, h0, d0⟩ := DpAll.get (i := 0) al3 rfl
              obtain ⟨v1, h1, d1⟩ := DpAll.get (i := 1) al3 rfl
              cases d0
              cases d1
              have ech : chL q = ((("put" : Str) ++ " ") ++ x) :: barL c := by unfold chL; rw [eq]; rfl
              rw [ech] at pre ⊢
              have xl : ((("put" : Str) ++ " ") ++ x).length + 1 ≤ 90000 := Nat.le_trans (content_mem (pre.2 _ (List.mem_cons_self ..))) hl
              have xl1 := xl
              rw [len_cat] at xl1
              have len := pre.1
              rw [List.length_append] at len
              refine st_seq ?_
              refine ⟨_, rfl, .inl ⟨rfl, _, SqL.of p3⟩, ?_⟩
              refine ta_cons <| te_op <| te_op <| te_op <| te_v rfl <| te_c <| ixY sq3 (atI_nat (j := 0) h0) <| te_c ⟨_, _, rfl, rfl, small_of (by rw [len_cat] at xl1; omega), te_op <| te_v rfl <| te_c <| ixY sq3 (atI_nat (j := 1) h1) ⟨_, _, rfl, rfl, small_of (by omega), ta_nil ?_⟩⟩
              refine ⟨p, _, _, rfl, rfl, p3, by rw [List.length_map, sizeLine_eq]; simp only [List.length_cons, List.length_nil] at len ⊢; omega, ?_⟩
              dsimp only
              have s4 : Same H1 (upd H3 p (.lst (List.map V.str (("edit" : Str) :: (ds.take i).flatMap chL) ++ [.str ((("put" : Str) ++ " ") ++ x)]))) := Same.mut s3 hp
              have p4 : Strs (upd H3 p (.lst (List.map V.str (("edit" : Str) :: (ds.take i).flatMap chL) ++ [.str ((("put" : Str) ++ " ") ++ x)]))) p ((("edit" : Str) :: (ds.take i).flatMap chL) ++ [(("put" : Str) ++ " ") ++ x]) := by
                show upd _ _ _ _ = _
                rw [upd_same, List.map_append]
                rfl
              generalize upd H3 p (.lst (List.map V.str (("edit" : Str) :: (ds.take i).flatMap chL) ++ [.str ((("put" : Str) ++ " ") ++ x)])) = H4 at s4 p4 ⊢
              obtain ⟨_, ws, ec, sq4, al4⟩ := Dp.seq (Dp.same s4 hdp) eq
              cases ec
              obtain ⟨v0, h0, d0⟩ := DpAll.get (i := 0) al4 rfl
              cases d0
              refine st_if <| tt_b <| te_op <| te_op <| te_v rfl <| te_c <| ixY sq4 (atI_nat (j := 0) h0) <| te_c ?_
              refine ⟨rfl, _, rfl, ?_⟩
              rw [show decide (V.str "put" = V.str "put") = true from decide_eq_true rfl]
              refine iteT ?_
              obtain ⟨v2, h2, d2⟩ := DpAll.get (i := 2) al4 rfl
              cases d2
              refine ⟨_, rfl, .inl ⟨rfl, _, SqL.of p4⟩, ?_⟩
              refine ta_cons <| te_call <| ta_cons <| te_op <| te_v rfl <| te_c <| ixY sq4 (atI_nat (j := 2) h2) <| ta_nil ⟨c, rfl, by omega, fun D H5 s5 hD d5 => ta_nil ?_⟩
              have p5 := s5 _ _ p4
              refine ⟨p, D, _, _, rfl, rfl, p5, d5, ?_, ?_⟩
              · have := pre.1
                simp only [List.length_map, List.length_append, List.length_cons, List.length_nil, sizeLine_eq] at this ⊢
                omega
              · refine ⟨_, rfl, Same.mut (fun b o z => s5 b o (s4 b o z)) hp, ?_⟩
                show upd _ _ _ _ = _
                rw [upd_same]
                simp
            · skip
              obtain ⟨cc, ws, rfl, sq3, al3⟩ := Dp.seq (Dp.same s3 hdp) eq
              obtain ⟨v0, h0, d0⟩ := DpAll.get (i := 0) al3 rfl
              obtain ⟨v1, h1, d1⟩ := DpAll.get (i := 1) al3 rfl
              cases d0
              cases d1
              have ech : chL q = [(("drop" : Str) ++ " ") ++ x] := by unfold chL; rw [eq]; rfl
              rw [ech] at pre ⊢
              have xl : ((("drop" : Str) ++ " ") ++ x).length + 1 ≤ 90000 := Nat.le_trans (content_mem (pre.2 _ (List.mem_cons_self ..))) hl
              have xl1 := xl
              rw [len_cat] at xl1
              have len := pre.1
              rw [List.length_append] at len
              refine st_seq ?_
              refine ⟨_, rfl, .inl ⟨rfl, _, SqL.of p3⟩, ?_⟩
              refine ta_cons <| te_op <| te_op <| te_op <| te_v rfl <| te_c <| ixY sq3 (atI_nat (j := 0) h0) <| te_c ⟨_, _, rfl, rfl, small_of (by rw [len_cat] at xl1; omega), te_op <| te_v rfl <| te_c <| ixY sq3 (atI_nat (j := 1) h1) ⟨_, _, rfl, rfl, small_of (by omega), ta_nil ?_⟩⟩
              refine ⟨p, _, _, rfl, rfl, p3, by rw [List.length_map, sizeLine_eq]; simp only [List.length_cons, List.length_nil] at len ⊢; omega, ?_⟩
              dsimp only
              have s4 : Same H1 (upd H3 p (.lst (List.map V.str (("edit" : Str) :: (ds.take i).flatMap chL) ++ [.str ((("drop" : Str) ++ " ") ++ x)]))) := Same.mut s3 hp
              have p4 : Strs (upd H3 p (.lst (List.map V.str (("edit" : Str) :: (ds.take i).flatMap chL) ++ [.str ((("drop" : Str) ++ " ") ++ x)]))) p ((("edit" : Str) :: (ds.take i).flatMap chL) ++ [(("drop" : Str) ++ " ") ++ x]) := by
                show upd _ _ _ _ = _
                rw [upd_same, List.map_append]
                rfl
              generalize upd H3 p (.lst (List.map V.str (("edit" : Str) :: (ds.take i).flatMap chL) ++ [.str ((("drop" : Str) ++ " ") ++ x)])) = H4 at s4 p4 ⊢
              obtain ⟨_, ws, ec, sq4, al4⟩ := Dp.seq (Dp.same s4 hdp) eq
              cases ec
              obtain ⟨v0, h0, d0⟩ := DpAll.get (i := 0) al4 rfl
              cases d0
              refine st_if <| tt_b <| te_op <| te_op <| te_v rfl <| te_c <| ixY sq4 (atI_nat (j := 0) h0) <| te_c ?_
              refine ⟨rfl, _, rfl, ?_⟩
              rw [show decide (V.str "drop" = V.str "put") = false by decide +kernel]
              exact iteF ⟨_, rfl, s4, p4⟩
          · rintro σ H3 ⟨k4, rfl, s3, p3⟩
            rw [DpAll.len al, List.take_length] at p3
            exact ⟨_, _, _, _, _, _, _, _, _, _, p, _, rfl, fun b o z => s3 b o (s1 b o z), p3, hl, k⟩
        | false =>
          refine iteF <| st_if <| tt_b <| te_call <| ta_cons <| te_v rfl <| ta_nil ⟨v, d, rfl, Dp.same s1 hd, yo, fun H2 s2 => ⟨_, rfl, ?_⟩⟩
          have s02 : Same H H2 := fun b o z => s2 b o (s1 b o z)
          cases ep : pkgY d with
          | false => exact iteF ⟨(by show 1 ≤ 1000; decide), raise1 s02 fun dd H' o => kx se ep dd H' o⟩
          | true =>
            refine iteT ?_
            obtain ⟨x, c, i, n, ns, e4, hi, hc, en, l4, an⟩ := pkg_parts ep
            obtain ⟨hl, k⟩ := kp se ep
            have el : pkgL d = glue ["package ", x, " ", toString i] :: (ns.map ndL ++ (("content" : Str) :: barL c)) := by unfold pkgL; rw [e4]; simp only [en]; rfl
            rw [el] at hl k
            obtain ⟨a, vs, rfl, sq, al⟩ := Dp.seq (Dp.same s02 hd) e4
            cases al with
            | cons d0 al =>
            cases al with
            | cons d1 al =>
            cases al with
            | cons d2 al =>
            cases al with
            | cons d3 al =>
            cases al
            cases d0
            cases d1
            cases d3
            rename_i vn
            obtain ⟨na, nvs, rfl, sqn, aln⟩ := Dp.seq d2 en
            refine st_seq ?_
            refine ⟨_, rfl, g_seq sq rfl ⟨_, _, rfl, _, _, rfl, _, _, rfl, _, _, rfl, rfl, ?_⟩⟩
            dsimp only
            have gl := content_mem (List.mem_cons_self (a := glue ["package ", x, " ", toString i]) (l := ns.map ndL ++ (("content" : Str) :: barL c)))
            have gl2 : (((((Str.empty ++ ("package " : Str)) ++ x) ++ (" " : Str)) ++ (toString i : Str))).length + 1 ≤ 90000 := Nat.le_trans gl hl
            have gl3 := gl2
            simp only [len_cat] at gl3
            refine st_seq <| st_asg ?_
            refine ⟨_, rfl, small_of (by simp only [len_cat]; omega), _, rfl, .inl ⟨x, rfl, small_of (by omega), _, rfl, small_of (by simp only [len_cat]; omega), _, rfl, small_of (by simp only [len_cat]; omega), _, rfl, .inr ⟨i, rfl, log_few hi, _, rfl, small_of (by simp only [len_cat]; omega), ?_⟩⟩⟩
            refine ⟨(by show 1 ≤ sizeLine; decide), fun p hp => st_g ?_⟩
            dsimp only
            have hp0 := s02.free hp
            have s3 : Same H2 (upd H2 p (.lst [.str (((((Str.empty ++ ("package " : Str)) ++ x) ++ (" " : Str)) ++ (toString i : Str)))])) := Same.new hp
            have p3 : Strs (upd H2 p (.lst [.str (((((Str.empty ++ ("package " : Str)) ++ x) ++ (" " : Str)) ++ (toString i : Str)))])) p [glue ["package ", x, " ", toString i]] := upd_same
            generalize upd H2 p (.lst [.str (((((Str.empty ++ ("package " : Str)) ++ x) ++ (" " : Str)) ++ (toString i : Str)))]) = H3 at s3 p3 ⊢
            have nl := DpAll.len aln
            refine st_seq ?_
            refine ⟨_, rfl, .inl ⟨rfl, _, SqL.of p3⟩, ?_⟩
            refine ta_cons <| te_lc ?_
            refine seqY_walk0 sqn s3 (fun Q q => ⟨_, rfl, q⟩) fun J G wk hG D hD => ?_
            refine lc_it (te := fun σ H Q => tJs [tC (.str (Str.ofString "need ")), tFmt (tVar 9), tC (.str (Str.ofString " ")), tFmt (tVar 10), tC (.str (Str.ofString " ")), tFmt (tVar 11)] Str.empty σ H fun out H1 => Q (.str out) H1) wk (fun j H4 => Same H3 H4 ∧ H4 D = some (.lst (((ns.take j).map ndL).map V.str))) ⟨Same.new hD, upd_same⟩ (fun j H4 _ q => hG H4 fun b o z => q.1 b o (s3 b o z)) ?_ ?_
            · rintro j y Hx H4 hj ⟨s4, e4'⟩ ⟨rfl, hy⟩
              have hjl : j < ns.length := by omega
              have hq : ns[j]? = some ns[j] := List.getElem?_eq_getElem hjl
              obtain ⟨v, hv, hdp⟩ := DpAll.get aln hq
              obtain rfl : v = y := Option.some.inj (hv.symm.trans hy)
              obtain ⟨z, lo, hi', e5, lo9, hi9⟩ := need_parts (an _ (List.getElem_mem hjl))
              have e6 : ndL ns[j] = glue ["need ", z, " ", toString lo, " ", toString hi'] := by unfold ndL; rw [e5]; rfl
              have mem : ndL ns[j] ∈ ns.map ndL := List.mem_map_of_mem (List.getElem_mem hjl)
              rw [e6] at mem
              have ml := Nat.le_trans (content_mem (List.mem_cons_of_mem (glue ["package ", x, " ", toString i]) (List.mem_append_left (("content" : Str) :: barL c) mem))) hl
              have ml2 : (((((((Str.empty ++ ("need " : Str)) ++ z) ++ (" " : Str)) ++ (toString lo : Str)) ++ (" " : Str)) ++ (toString hi' : Str))).length + 1 ≤ 90000 := ml
              simp only [len_cat] at ml2
              have hdp4 := Dp.same s4 (Dp.same s3 hdp)
              obtain ⟨b, ws, rfl, sq5, al5⟩ := Dp.seq hdp4 e5
              cases al5 with
              | cons d0 al5 =>
              cases al5 with
              | cons d1 al5 =>
              cases al5 with
              | cons d2 al5 =>
              cases al5
              cases d0
              cases d1
              cases d2
              refine g_seq sq5 rfl ⟨_, _, rfl, _, _, rfl, _, _, rfl, rfl, rfl, ?_⟩
              refine ⟨_, rfl, small_of (by simp only [len_cat]; omega), _, rfl, .inl ⟨z, rfl, small_of (by omega), _, rfl, small_of (by simp only [len_cat]; omega), _, rfl, small_of (by simp only [len_cat]; omega), _, rfl, .inr ⟨lo, rfl, log_few lo9, _, rfl, small_of (by simp only [len_cat]; omega), _, rfl, small_of (by simp only [len_cat]; omega), _, rfl, .inr ⟨hi', rfl, log_few hi9, _, rfl, small_of (by simp only [len_cat]; omega), ?_⟩⟩⟩⟩
              refine ⟨_, e4', ?_, Same.mut s4 hD, ?_⟩
              · rw [List.length_map, List.length_map, List.length_take, sizeLine_eq]
                omega
              · rw [upd_same, List.take_add_one, hq, List.map_append, List.map_append]
                simp only [Option.toList_some, List.map_cons, List.map_nil, e6]
                rfl
            rintro H4 ⟨s4, e4'⟩
            rw [nl, List.take_length] at e4'
            have p4 := s4 _ _ p3
            refine ta_nil ⟨p, D, _, _, rfl, rfl, p4, e4', by rw [List.length_map, List.length_map, List.length_map, sizeLine_eq]; show 1 + _ ≤ _; omega, ?_⟩
            dsimp only
            have s5 : Same H (upd H4 p (.lst (List.map V.str [glue ["package ", x, " ", toString i]] ++ (ns.map ndL).map V.str))) := Same.mut (fun b o z => s4 b o (s3 b o (s02 b o z))) hp0
            have p5 : Strs (upd H4 p (.lst (List.map V.str [glue ["package ", x, " ", toString i]] ++ (ns.map ndL).map V.str))) p ([glue ["package ", x, " ", toString i]] ++ ns.map ndL) := by
              show upd _ _ _ _ = _
              rw [upd_same, List.map_append]
            generalize upd H4 p (.lst (List.map V.str [glue ["package ", x, " ", toString i]] ++ (ns.map ndL).map V.str)) = H5 at s5 p5 ⊢
            refine ⟨_, rfl, .inl ⟨rfl, _, SqL.of p5⟩, ?_⟩
            refine ⟨(by show 1 ≤ sizeLine; decide), fun e he => ⟨_, rfl, c, rfl, by omega, fun D6 H6 s6 hD6 d6 => ?_⟩⟩
            have e6 := s6 _ _ (upd_same (H := H5) (a := e))
            have p6 := s6 _ _ ((Same.new (o := .lst (List.map V.str [("content" : Str)])) he) _ _ p5)
            have s06 : Same H H6 := fun b o z => s6 b o (Same.new he b o (s5 b o z))
            have lb := bar_len c
            refine ⟨e, D6, _, _, rfl, rfl, e6, d6, by rw [List.length_map, List.length_map, sizeLine_eq]; show 1 + _ ≤ _; omega, fun g hg => ?_⟩
            have sg : Same H6 (upd H6 g (.lst (List.map V.str [("content" : Str)] ++ (barL c).map V.str))) := Same.new hg
            have pg := sg _ _ p6
            have gg : upd H6 g (.lst (List.map V.str [("content" : Str)] ++ (barL c).map V.str)) g = _ := upd_same
            refine ⟨p, g, _, _, rfl, rfl, pg, gg, ?_, ?_⟩
            · simp only [List.length_map, List.length_append, List.length_cons, List.length_nil, sizeLine_eq]
              omega
            · refine ⟨_, _, _, _, _, _, _, _, _, _, p, _, rfl, Same.mut (fun b o z => sg b o (s06 b o z)) hp0, ?_, hl, k⟩
              show upd _ _ _ _ = _
              rw [upd_same]
              simp
    · rintro σ' H1 ⟨k2, k3, k4, k5, k6, k7, k8, k9, k10, k11, p, xs, rfl, s1, p1, hl, k⟩
      have few := content_rows xs
      refine st_ret ?_
      refine ⟨⟨_, rfl⟩, _, rfl, p, rfl, ⟨_, SqL.of p1⟩, fun D hD => lc_list (K := K) (xs := xs.map V.str) (fun i H2 => Same H1 H2 ∧ H2 D = some (.lst (((xs.map (· ++ ("\n" : Str))).take i).map V.str))) ⟨Same.new hD, ?_⟩ (fun i H2 _ q => SqL.of (q.1 _ _ p1)) ?_ ?_⟩
      · rw [upd_same]
        rfl
      · rintro i x H2 hx ⟨s2, e2⟩
        rw [List.getElem?_map] at hx
        obtain ⟨y, hy, rfl⟩ := Option.map_eq_some_iff.mp hx
        have hi : i < xs.length := (List.getElem?_eq_some_iff.mp hy).1
        have sy := content_mem (List.mem_of_getElem? hy)
        refine ⟨rfl, _, rfl, _, _, rfl, rfl, small_of (by have : ("\n" : Str).length = 1 := (by decide +kernel); omega), _, e2, ?_, Same.mut s2 hD, ?_⟩
        · rw [List.length_map, List.length_take, List.length_map, sizeLine_eq]
          omega
        · rw [upd_same, List.take_add_one, List.getElem?_map, hy, List.map_append]
          rfl
      · rintro H2 ⟨s2, e2⟩
        rw [List.length_map] at e2
        have e3 : (xs.map (· ++ ("\n" : Str))).take xs.length = xs.map (· ++ ("\n" : Str)) := List.take_of_length_le (by rw [List.length_map]; exact Nat.le_refl _)
        rw [e3] at e2
        refine ⟨_, D, _, rfl, rfl, .inl (SqL.of e2), ?_, k H2 (fun b o z => s2 b o (s1 b o z))⟩
        rw [content_len] at hl
        have e4 : (xs.map (· ++ ("\n" : Str))).map (·.length) = xs.map fun x => x.length + 1 := by
          rw [List.map_map]
          refine List.map_congr_left fun x _ => ?_
          show (x ++ ("\n" : Str)).length = _
          rw [len_cat]
          rfl
        rw [e4, List.length_map]
        have : ("" : Str).length = 0 := by decide +kernel
        rw [this]
        omega
end
end Kl

namespace Kl
open PySem L2 Kd
/-! the law's own rows of texts -/
def edL (e : Str × Option Str) : List Str := match e.2 with | some c => (("put " : Str) ++ e.1) :: barL c | none => [("drop " : Str) ++ e.1]
def editLw (es : Es) : List Str := ("edit" : Str) :: es.flatMap edL
def ndLw (m : Need3) : Str := ((((("need " : Str) ++ m.1) ++ (" " : Str)) ++ (toString m.2.1 : Str)) ++ (" " : Str)) ++ (toString m.2.2 : Str)
def pkgLw (p : Pkg) : List Str := (((("package " : Str) ++ p.1) ++ (" " : Str)) ++ (toString p.2.1 : Str)) :: (p.2.2.1.map ndLw ++ (("content" : Str) :: barL p.2.2.2))
abbrev spOutL (L : List Str) (H : Hp) (Q : VK) : Prop := ∀ (p : Addr) (H' : Hp), Same H H' → Strs H' p L → Q (.ref p) H'
def spTreeRows (_ : PySem.W.Frag) : Sp := fun vs H Q _ => ∃ (v : V) (fs : Fs), vs = [v] ∧ Rep H (filesD fs) v ∧ (∀ q ∈ fs, q.2.length ≤ 1000) ∧ (contentOf (treeL fs)).length ≤ 90000 ∧ spOutL (treeL fs) H Q
def spEditRows (_ : PySem.W.Frag) : Sp := fun vs H Q _ => ∃ (v : V) (es : Es), vs = [v] ∧ Rep H (editD es) v ∧ (∀ q ∈ es, ∀ c, q.2 = some c → c.length ≤ 1000) ∧ (contentOf (editLw es)).length ≤ 90000 ∧ spOutL (editLw es) H Q
def spPkgRows (_ : PySem.W.Frag) : Sp := fun vs H Q _ => ∃ (v : V) (p : Pkg), vs = [v] ∧ Rep H (pkgD p) v ∧ p.2.1.natAbs ≤ 9 ∧ (∀ m ∈ p.2.2.1, m.2.1.natAbs ≤ 9 ∧ m.2.2.natAbs ≤ 9) ∧ p.2.2.2.length ≤ 1000 ∧ (contentOf (pkgLw p)).length ≤ 90000 ∧ spOutL (pkgLw p) H Q
def spTextOf (_ : PySem.W.Frag) : Sp := fun vs H Q _ => ∃ (p : Addr) (xs : List Str), vs = [.ref p] ∧ Strs H p xs ∧ (contentOf xs).length ≤ 90000 ∧ ∀ H' : Hp, Same H H' → Q (.str (contentOf xs)) H'
section
variable {P : Program} {w : World} {K : PySem.W.Frag} {mg : Str → Option Value} {base : Heap}
abbrev s_l_content_rows : Stmt := topS 63
theorem sc_l_content_rows : FnScope ["content", "one"] ["content"] (defScope s_l_content_rows) := ⟨rfl, rfl, rfl, by decide +kernel, rfl, by decide +kernel, by decide +kernel⟩
theorem ok_lcrows {f : Addr} {fd : FuncData} (F : Fun K "_law_content_rows" "_law_content_rows" s_l_content_rows f fd) : FnOk P w K mg base CX0 1 f fd ["content"] (spCLines K) := by
  refine F.ok sc_l_content_rows (fun vs H Q E h => ?_) (fun cdv A outer s H vs Q E hr h => ?_)
  · obtain ⟨c, rfl, _⟩ := h
    rfl
  · obtain ⟨c, rfl, hc, k⟩ := h
    refine ⟨_, (pss_one (ps_ret (pe_lc (own := [("one", 1)]) (g := gName 1) (tt := tYes) rfl sc_l_content_rows.nd (pi_list (pe_split (pv 0) pe_str)) (blkOk_by (N := ["content", "one"]) (sc := defScope s_l_content_rows) (by decide +kernel)) (fun _ _ _ _ _ => (pg_name (i := 1) sc_l_content_rows.nd rfl (.inl rfl))) (fun _ _ _ _ _ => pts_nil) (fun _ _ _ _ _ => (pe_op op_add_str pe_str (pv 1)))))), ?_⟩
    refine st_ret <| te_lc ?_
    refine ⟨_, rfl, ⟨_, rfl⟩, c, "\n", rfl, rfl, by decide +kernel, (by rw [sizeLine_eq]; omega), fun p hp => ?_⟩
    have s1 : Same H (upd H p (.lst ((Txt.split c "\n").map V.str))) := Same.new hp
    have p1 : upd H p (.lst ((Txt.split c "\n").map V.str)) p = some (.lst ((Txt.split c "\n").map V.str)) := upd_same
    generalize upd H p (.lst ((Txt.split c "\n").map V.str)) = H1 at s1 p1 ⊢
    have sl := PyProof.Rows.split_le c "\n"
    refine ⟨p, rfl, ⟨_, SqL.of p1⟩, fun D hD => lc_list (K := K) (a := p) (xs := (Txt.split c "\n").map V.str) (fun i H2 => Same H1 H2 ∧ H2 D = some (.lst (((Txt.split c "\n").take i).map fun x => V.str (("|" : Str) ++ x)))) ⟨Same.new hD, upd_same⟩ (fun i H2 _ q => SqL.of (q.1 _ _ p1)) ?_ ?_⟩
    · rintro i y H2 hy ⟨s2, e2⟩
      rw [List.getElem?_map] at hy
      obtain ⟨x, hx, rfl⟩ := Option.map_eq_some_iff.mp hy
      have lx := PyProof.Rows.part_short (List.mem_of_getElem? hx)
      have l1 : ("|" : Str).length = 1 := by decide +kernel
      refine ⟨rfl, _, rfl, _, _, rfl, rfl, small_of (by omega), _, e2, ?_, Same.mut s2 hD, ?_⟩
      · rw [List.length_map, List.length_take, sizeLine_eq]
        omega
      · rw [upd_same, List.take_add_one, hx, List.map_append]
        rfl
    rintro H2 ⟨s2, e2⟩
    rw [List.length_map, List.take_length] at e2
    refine k D H2 (fun b o z => s2 b o (s1 b o z)) (s1.free hD) ?_
    show H2 D = some (.lst ((barL c).map V.str))
    rw [e2]
    unfold barL
    rw [List.map_map]
    rfl
abbrev s_l_text_of : Stmt := topS 67
theorem sc_l_text_of : FnScope ["rows", "one"] ["rows"] (defScope s_l_text_of) := ⟨rfl, rfl, rfl, by decide +kernel, rfl, by decide +kernel, by decide +kernel⟩
theorem ok_ltext {f : Addr} {fd : FuncData} (F : Fun K "_law_text_of" "_law_text_of" s_l_text_of f fd) : FnOk P w K mg base CX0 1 f fd ["rows"] (spTextOf K) := by
  refine F.ok sc_l_text_of (fun vs H Q E h => ?_) (fun cdv A outer s H vs Q E hr h => ?_)
  · obtain ⟨p, xs, rfl, _⟩ := h
    rfl
  · obtain ⟨p, xs, rfl, p1, hl, k⟩ := h
    refine ⟨_, (pss_one (ps_ret (pe_join pe_str (pe_lc (own := [("one", 1)]) (g := gName 1) (tt := tYes) rfl sc_l_text_of.nd (pi_list (pv 0)) (blkOk_by (N := ["rows", "one"]) (sc := defScope s_l_text_of) (by decide +kernel)) (fun _ _ _ _ _ => (pg_name (i := 1) sc_l_text_of.nd rfl (.inl rfl))) (fun _ _ _ _ _ => pts_nil) (fun _ _ _ _ _ => (pe_op op_add_str (pv 1) pe_str)))))), ?_⟩
    have few := content_rows xs
    refine st_ret ?_
    refine ⟨⟨_, rfl⟩, _, rfl, p, rfl, ⟨_, SqL.of p1⟩, fun D hD => lc_list (K := K) (xs := xs.map V.str) (fun i H2 => Same H H2 ∧ H2 D = some (.lst (((xs.map (· ++ ("\n" : Str))).take i).map V.str))) ⟨Same.new hD, ?_⟩ (fun i H2 _ q => SqL.of (q.1 _ _ p1)) ?_ ?_⟩
    · rw [upd_same]
      rfl
    · rintro i x H2 hx ⟨s2, e2⟩
      rw [List.getElem?_map] at hx
      obtain ⟨y, hy, rfl⟩ := Option.map_eq_some_iff.mp hx
      have hi : i < xs.length := (List.getElem?_eq_some_iff.mp hy).1
      have sy := content_mem (List.mem_of_getElem? hy)
      refine ⟨rfl, _, rfl, _, _, rfl, rfl, small_of (by have : ("\n" : Str).length = 1 := (by decide +kernel); omega), _, e2, ?_, Same.mut s2 hD, ?_⟩
      · rw [List.length_map, List.length_take, List.length_map, sizeLine_eq]
        omega
      · rw [upd_same, List.take_add_one, List.getElem?_map, hy, List.map_append]
        rfl
    · rintro H2 ⟨s2, e2⟩
      rw [List.length_map] at e2
      have e3 : (xs.map (· ++ ("\n" : Str))).take xs.length = xs.map (· ++ ("\n" : Str)) := List.take_of_length_le (by rw [List.length_map]; exact Nat.le_refl _)
      rw [e3] at e2
      refine ⟨_, D, _, rfl, rfl, .inl (SqL.of e2), ?_, k H2 s2⟩
      rw [content_len] at hl
      have e4 : (xs.map (· ++ ("\n" : Str))).map (·.length) = xs.map fun x => x.length + 1 := by
        rw [List.map_map]
        refine List.map_congr_left fun x _ => ?_
        show (x ++ ("\n" : Str)).length = _
        rw [len_cat]
        rfl
      rw [e4, List.length_map]
      have : ("" : Str).length = 0 := by decide +kernel
      rw [this]
      omega
abbrev s_l_tree_rows : Stmt := topS 64
theorem sc_l_tree_rows : FnScope ["files", "rows", "one"] ["files"] (defScope s_l_tree_rows) := ⟨rfl, rfl, rfl, by decide +kernel, rfl, by decide +kernel, by decide +kernel⟩
theorem ok_ltrows {f : Addr} {fd : FuncData} (F : Fun K "_law_tree_rows" "_law_tree_rows" s_l_tree_rows f fd) (c_l_content_rows : C8.Cal P w K mg base 1 "_law_content_rows" (spCLines K) []) : FnOk P w K mg base CX0 2 f fd ["files"] (spTreeRows K) := by
  refine F.ok sc_l_tree_rows (fun vs H Q E h => ?_) (fun cdv A outer s H vs Q E hr h => ?_)
  · obtain ⟨v, fs, rfl, _⟩ := h
    rfl
  · obtain ⟨v, fs, rfl, hv, hc, hl, k⟩ := h
    obtain ⟨t, vs, rfl, ht, _, hvs⟩ := hv
    have vl := hvs.len
    rw [List.length_map] at vl
    refine ⟨_, (pss_cons (ps_set (i := 1) sc_l_tree_rows.nd rfl (.inl rfl) (pe_lst (pa_strs (xs := ["tree"]) rfl)))
      (pss_cons (ps_for PassesOwn.never rfl (pi_tup (pv 0)) (pg_name (i := 2) sc_l_tree_rows.nd rfl (.inl rfl))
      (pss_one (ps_set (i := 1) sc_l_tree_rows.nd rfl (.inl rfl) (pe_op op_cat (pe_op op_cat (pv 1) (pe_lst (pa_cons (pe_op op_add_str pe_str (pe_ix (r := rIxT K) ix_tup (pv 2) pe_int (fun _ _ => rfl))) pa_nil))) (C8.pe_c c_l_content_rows hr (by omega) (by rfl) (pa_cons (pe_ix (r := rIxT K) ix_tup (pv 2) pe_int (fun _ _ => rfl)) pa_nil))))))
      (pss_one (ps_ret (pv 1))))), ?_⟩
    refine st_seq <| st_asg ?_
    refine ⟨(by show 1 ≤ sizeLine; decide), fun p hp => st_g ?_⟩
    dsimp only
    have s1 : Same H (upd H p (.lst (List.map V.str [("tree" : Str)]))) := Same.new hp
    have p1 : Strs (upd H p (.lst (List.map V.str [("tree" : Str)]))) p ["tree"] := upd_same
    generalize upd H p (.lst (List.map V.str [("tree" : Str)])) = H1 at s1 p1 ⊢
    refine st_seq ?_
    refine ⟨_, rfl, t, rfl, ⟨_, .inl (Rd.same s1 ht)⟩, ?_⟩
    refine for_tup (K := K) (a := t) (xs := vs) (fun i σ H2 => ∃ (q : Addr) (k2 : Option V), σ = [some (.ref t), some (.ref q), k2] ∧ Same H H2 ∧ Strs H2 q ("tree" :: (fs.take i).flatMap flL))
      ⟨_, _, rfl, s1, p1⟩ (fun i σ H2 _ ⟨_, _, _, z, _⟩ => .inl (Rd.same z ht)) ?_ ?_
    · rintro i x σ H2 hx ⟨q, k2, rfl, s2, p2⟩
      have hil : i < fs.length := by
        have := (List.getElem?_eq_some_iff.mp hx).1
        omega
      have hq : fs[i]? = some fs[i] := List.getElem?_eq_getElem hil
      obtain ⟨v, hv, hrep⟩ := hvs.get (i := i) (d := pairD fs[i]) (by rw [List.getElem?_map, hq]; rfl)
      obtain rfl : v = x := Option.some.inj (hv.symm.trans hx)
      obtain ⟨t2, rfl, ht2⟩ := pair_of (hrep.keep (Same.tk s2))
      have cl := hc _ (List.getElem_mem hil)
      have pre := rows_pre (α := Str × Str) (f := flL) (h := "tree") hl hq
      have fpl : (("file " : Str) ++ fs[i].1).length + 1 ≤ 90000 := Nat.le_trans (content_mem (pre.2 _ (List.mem_cons_self ..))) hl
      have stp : ("tree" : Str) :: (fs.take (i + 1)).flatMap flL = (("tree" : Str) :: (fs.take i).flatMap flL) ++ flL fs[i] := by
        rw [List.take_add_one, hq]
        simp only [Option.toList_some, List.flatMap_append, List.flatMap_cons, List.flatMap_nil, List.append_nil, List.cons_append]
      rw [stp] at pre ⊢
      generalize fs[i] = e at hq ht2 cl fpl pre
      dsimp only
      rw [len_cat] at fpl
      refine st_asg <| te_op <| te_op <| te_v rfl ?_
      refine ⟨_, rfl, te_c <| pair0 ht2 ⟨_, _, rfl, rfl, small_of (by omega), (by show 1 ≤ sizeLine; decide), fun g hg => ?_⟩⟩
      have sg : Same H2 (upd H2 g (.lst [.str (("file " : Str) ++ e.1)])) := Same.new hg
      have gg : upd H2 g (.lst [.str (("file " : Str) ++ e.1)]) g = _ := upd_same
      have p3 := sg _ _ p2
      have s3 : Same H (upd H2 g (.lst [.str (("file " : Str) ++ e.1)])) := fun b o z => sg b o (s2 b o z)
      generalize upd H2 g (.lst [.str (("file " : Str) ++ e.1)]) = H3 at sg gg p3 s3 ⊢
      have len := pre.1
      rw [List.length_append, show (flL e).length = (barL e.2).length + 1 from rfl] at len
      refine ⟨q, g, _, _, rfl, rfl, p3, gg, by rw [List.length_map, sizeLine_eq]; simp only [List.length_cons, List.length_nil] at len ⊢; omega, fun r hr => ?_⟩
      have s4 : Same H3 (upd H3 r (.lst (List.map V.str (("tree" : Str) :: (fs.take i).flatMap flL) ++ [.str (("file " : Str) ++ e.1)]))) := Same.new hr
      have p4 : Strs (upd H3 r (.lst (List.map V.str (("tree" : Str) :: (fs.take i).flatMap flL) ++ [.str (("file " : Str) ++ e.1)]))) r ((("tree" : Str) :: (fs.take i).flatMap flL) ++ [("file " : Str) ++ e.1]) := by
        show upd _ _ _ _ = _
        rw [upd_same, List.map_append]
        rfl
      generalize upd H3 r (.lst (List.map V.str (("tree" : Str) :: (fs.take i).flatMap flL) ++ [.str (("file " : Str) ++ e.1)])) = H4 at s4 p4 ⊢
      refine te_call <| ta_cons <| te_op <| te_v rfl <| te_c <| pair1 (Rd.same s4 (Rd.same sg ht2)) <| ta_nil ⟨e.2, rfl, by omega, fun D H5 s5 hD d5 => ?_⟩
      refine ⟨r, D, _, _, rfl, rfl, s5 _ _ p4, d5, by simp only [List.length_map, List.length_append, List.length_cons, List.length_nil, sizeLine_eq] at len ⊢; omega, fun u hu => st_g ?_⟩
      refine ⟨u, _, rfl, fun b o z => ?_, ?_⟩
      · exact Same.new hu _ _ (s5 _ _ (s4 _ _ (s3 _ _ z)))
      · show upd _ _ _ _ = _
        rw [upd_same]
        simp [flL]
    · rintro σ H2 ⟨q, k2, rfl, s2, p2⟩
      rw [vl, List.take_length] at p2
      exact st_ret (te_v rfl (k q H2 s2 p2))
end
end Kl

namespace Kl
open PySem L2 Kd
/-! the law's rows of an edit and of a package -/
theorem chg_some {H : Hp} {p c : Str} {v : V} (h : Rep H (changeD (p, some c)) v) : ∃ t, v = .ref t ∧ Rd H t (.tup [.str "put", .str p, .str c]) := by
  obtain ⟨t, vs, rfl, ht, _, x, r, rfl, hx, y, r2, rfl, hy, z, r3, rfl, hz, hn⟩ := h
  cases (show r3 = [] from hn)
  cases (show x = V.str "put" from hx)
  cases (show y = V.str p from hy)
  cases (show z = V.str c from hz)
  exact ⟨t, rfl, ht⟩
theorem chg_none {H : Hp} {p : Str} {v : V} (h : Rep H (changeD (p, none)) v) : ∃ t, v = .ref t ∧ Rd H t (.tup [.str "drop", .str p]) := by
  obtain ⟨t, vs, rfl, ht, _, x, r, rfl, hx, y, r2, rfl, hy, hn⟩ := h
  cases (show r2 = [] from hn)
  cases (show x = V.str "drop" from hx)
  cases (show y = V.str p from hy)
  exact ⟨t, rfl, ht⟩
theorem ixTd {K : PySem.W.Frag} {H : Hp} {t : Addr} {vs : List V} {i : Int} {x : V} {Q : VK} (h : Rd H t (.tup vs)) (e : atI vs i = some x) (q : Q x H) : rIxT K (.ref t) (.int i) H Q := ⟨t, vs, i, x, rfl, rfl, .inl h, e, q⟩
theorem pkg_of {H : Hp} {p : Pkg} {v : V} (h : Rep H (pkgD p) v) : ∃ (t u : Addr) (ms : List V), v = .ref t ∧ Rd H t (.tup [.str p.1, .int p.2.1, .ref u, .str p.2.2.2]) ∧ Rd H u (.tup ms) ∧ Reps H (p.2.2.1.map needD) ms := by
  obtain ⟨t, vs, rfl, ht, _, x, r, rfl, hx, y, r2, rfl, hy, z, r3, rfl, hz, w, r4, rfl, hw, hn⟩ := h
  cases (show r4 = [] from hn)
  cases (show x = V.str p.1 from hx)
  cases (show y = V.int p.2.1 from hy)
  cases (show w = V.str p.2.2.2 from hw)
  obtain ⟨u, ms, rfl, hu, _, hm⟩ := hz
  exact ⟨t, u, ms, rfl, ht, hu, hm⟩
theorem need_ofD {H : Hp} {m : Need3} {v : V} (h : Rep H (needD m) v) : ∃ t, v = .ref t ∧ Rd H t (.tup [.str m.1, .int m.2.1, .int m.2.2]) := by
  obtain ⟨t, vs, rfl, ht, _, x, r, rfl, hx, y, r2, rfl, hy, z, r3, rfl, hz, hn⟩ := h
  cases (show r3 = [] from hn)
  cases (show x = V.str m.1 from hx)
  cases (show y = V.int m.2.1 from hy)
  cases (show z = V.int m.2.2 from hz)
  exact ⟨t, rfl, ht⟩
section
variable {P : Program} {w : World} {K : PySem.W.Frag} {mg : Str → Option Value} {base : Heap}
abbrev s_l_edit_rows : Stmt := topS 65
theorem sc_l_edit_rows : FnScope ["edit", "rows", "one"] ["edit"] (defScope s_l_edit_rows) := ⟨rfl, rfl, rfl, by decide +kernel, rfl, by decide +kernel, by decide +kernel⟩
theorem ok_lerows {f : Addr} {fd : FuncData} (F : Fun K "_law_edit_rows" "_law_edit_rows" s_l_edit_rows f fd) (c_l_content_rows : C8.Cal P w K mg base 1 "_law_content_rows" (spCLines K) []) : FnOk P w K mg base CX0 2 f fd ["edit"] (spEditRows K) := by
  refine F.ok sc_l_edit_rows (fun vs H Q E h => ?_) (fun cdv A outer s H vs Q E hr h => ?_)
  · obtain ⟨v, fs, rfl, _⟩ := h
    rfl
  · obtain ⟨v, es, rfl, hv, hc, hl, k⟩ := h
    obtain ⟨t, vs, rfl, ht, _, hvs⟩ := hv
    have vl := hvs.len
    rw [List.length_map] at vl
    refine ⟨_, (pss_cons (ps_set (i := 1) sc_l_edit_rows.nd rfl (.inl rfl) (pe_lst (pa_strs (xs := ["edit"]) rfl)))
      (pss_cons (ps_for PassesOwn.never rfl (pi_tup (pv 0)) (pg_name (i := 2) sc_l_edit_rows.nd rfl (.inl rfl))
      (pss_one (ps_set (i := 1) sc_l_edit_rows.nd rfl (.inl rfl) (pe_op op_cat (pv 1) (pe_ifExp (pt_cmpR op_eq (pe_ix (r := rIxT K) ix_tup (pv 2) pe_int (fun _ _ => rfl)) pe_str (nomark _)) (pe_op op_cat (pe_lst (pa_cons (pe_op op_add_str pe_str (pe_ix (r := rIxT K) ix_tup (pv 2) pe_int (fun _ _ => rfl))) pa_nil)) (C8.pe_c c_l_content_rows hr (by omega) (by rfl) (pa_cons (pe_ix (r := rIxT K) ix_tup (pv 2) pe_int (fun _ _ => rfl)) pa_nil))) (pe_lst (pa_cons (pe_op op_add_str pe_str (pe_ix (r := rIxT K) ix_tup (pv 2) pe_int (fun _ _ => rfl))) pa_nil)))))))
      (pss_one (ps_ret (pv 1))))), ?_⟩
    refine st_seq <| st_asg ?_
    refine ⟨(by show 1 ≤ sizeLine; decide), fun p hp => st_g ?_⟩
    dsimp only
    have s1 : Same H (upd H p (.lst (List.map V.str [("edit" : Str)]))) := Same.new hp
    have p1 : Strs (upd H p (.lst (List.map V.str [("edit" : Str)]))) p ["edit"] := upd_same
    generalize upd H p (.lst (List.map V.str [("edit" : Str)])) = H1 at s1 p1 ⊢
    refine st_seq ?_
    refine ⟨_, rfl, t, rfl, ⟨_, .inl (Rd.same s1 ht)⟩, ?_⟩
    refine for_tup (K := K) (a := t) (xs := vs) (fun i σ H2 => ∃ (q : Addr) (k2 : Option V), σ = [some (.ref t), some (.ref q), k2] ∧ Same H H2 ∧ Strs H2 q ("edit" :: (es.take i).flatMap edL))
      ⟨_, _, rfl, s1, p1⟩ (fun i σ H2 _ ⟨_, _, _, z, _⟩ => .inl (Rd.same z ht)) ?_ ?_
    · rintro i x σ H2 hx ⟨q, k2, rfl, s2, p2⟩
      have hil : i < es.length := by
        have := (List.getElem?_eq_some_iff.mp hx).1
        omega
      have hq : es[i]? = some es[i] := List.getElem?_eq_getElem hil
      obtain ⟨v, hv, hrep⟩ := hvs.get (i := i) (d := changeD es[i]) (by rw [List.getElem?_map, hq]; rfl)
      obtain rfl : v = x := Option.some.inj (hv.symm.trans hx)
      have hrep2 := hrep.keep (Same.tk s2)
      have cl := hc _ (List.getElem_mem hil)
      have pre := rows_pre (α := Str × Option Str) (f := edL) (h := "edit") hl hq
      have stp : ("edit" : Str) :: (es.take (i + 1)).flatMap edL = (("edit" : Str) :: (es.take i).flatMap edL) ++ edL es[i] := by
        rw [List.take_add_one, hq]
        simp only [Option.toList_some, List.flatMap_append, List.flatMap_cons, List.flatMap_nil, List.append_nil, List.cons_append]
      rw [stp] at pre ⊢
      generalize es[i] = e at hq hrep2 cl pre
      dsimp only
      obtain ⟨x, o⟩ := e
      have len := pre.1
      rw [List.length_append] at len
      have rm := pre.2
      refine st_asg <| te_op <| te_v rfl ?_
      cases o with
      | some c =>
        obtain ⟨t2, rfl, ht2⟩ := chg_some hrep2
        have cl := cl c rfl
        have fpl := Nat.le_trans (content_mem (rm (("put " : Str) ++ x) (List.mem_cons_self ..))) hl
        rw [len_cat] at fpl
        refine ⟨_, rfl, te_c <| ixTd ht2 rfl <| te_c ⟨rfl, _, rfl, ?_⟩⟩
        rw [show decide (V.str "put" = V.str "put") = true from decide_eq_true rfl]
        refine iteT ?_
        refine ⟨_, rfl, te_c <| ixTd ht2 rfl ⟨_, _, rfl, rfl, small_of (by omega), (by show 1 ≤ sizeLine; decide), fun g hg => ?_⟩⟩
        have sg : Same H2 (upd H2 g (.lst [.str (("put " : Str) ++ x)])) := Same.new hg
        have gg : upd H2 g (.lst [.str (("put " : Str) ++ x)]) g = _ := upd_same
        have p3 := sg _ _ p2
        have s3 : Same H (upd H2 g (.lst [.str (("put " : Str) ++ x)])) := fun b o z => sg b o (s2 b o z)
        generalize upd H2 g (.lst [.str (("put " : Str) ++ x)]) = H3 at sg gg p3 s3 ⊢
        refine te_call <| ta_cons <| te_op <| te_v rfl <| te_c <| ixTd (Rd.same sg ht2) rfl <| ta_nil ⟨c, rfl, by omega, fun D H5 s5 hD d5 => ?_⟩
        have lb := bar_len c
        refine ⟨g, D, _, _, rfl, rfl, s5 _ _ gg, d5, by rw [List.length_map, sizeLine_eq]; show 1 + _ ≤ _; omega, fun u hu => ?_⟩
        have s6 : Same H5 (upd H5 u (.lst ([.str (("put " : Str) ++ x)] ++ (barL c).map V.str))) := Same.new hu
        have u6 : upd H5 u (.lst ([.str (("put " : Str) ++ x)] ++ (barL c).map V.str)) u = _ := upd_same
        have p6 := s6 _ _ (s5 _ _ p3)
        have s06 : Same H (upd H5 u (.lst ([.str (("put " : Str) ++ x)] ++ (barL c).map V.str))) := fun b o z => s6 b o (s5 b o (s3 b o z))
        generalize upd H5 u (.lst ([.str (("put " : Str) ++ x)] ++ (barL c).map V.str)) = H6 at s6 u6 p6 s06 ⊢
        rw [show (edL (x, some c)).length = (barL c).length + 1 from rfl] at len
        refine ⟨q, u, _, _, rfl, rfl, p6, u6, by simp only [List.length_map, List.length_append, List.length_cons, List.length_nil, sizeLine_eq] at len ⊢; omega, fun z hz => st_g ⟨z, _, rfl, fun b o y => Same.new hz _ _ (s06 _ _ y), ?_⟩⟩
        show upd _ _ _ _ = _
        rw [upd_same]
        simp [edL]
      | none =>
        obtain ⟨t2, rfl, ht2⟩ := chg_none hrep2
        have fpl := Nat.le_trans (content_mem (rm (("drop " : Str) ++ x) (List.mem_cons_self ..))) hl
        rw [len_cat] at fpl
        refine ⟨_, rfl, te_c <| ixTd ht2 rfl <| te_c ⟨rfl, _, rfl, ?_⟩⟩
        rw [show decide (V.str "drop" = V.str "put") = false by decide +kernel]
        refine iteF ?_
        refine ⟨_, rfl, te_c <| ixTd ht2 rfl ⟨_, _, rfl, rfl, small_of (by omega), (by show 1 ≤ sizeLine; decide), fun g hg => ?_⟩⟩
        have sg : Same H2 (upd H2 g (.lst [.str (("drop " : Str) ++ x)])) := Same.new hg
        have gg : upd H2 g (.lst [.str (("drop " : Str) ++ x)]) g = _ := upd_same
        have p3 := sg _ _ p2
        have s3 : Same H (upd H2 g (.lst [.str (("drop " : Str) ++ x)])) := fun b o z => sg b o (s2 b o z)
        generalize upd H2 g (.lst [.str (("drop " : Str) ++ x)]) = H3 at sg gg p3 s3 ⊢
        rw [show (edL (x, none)).length = 1 from rfl] at len
        refine ⟨q, g, _, _, rfl, rfl, p3, gg, by simp only [List.length_map, List.length_append, List.length_cons, List.length_nil, sizeLine_eq] at len ⊢; omega, fun z hz => st_g ⟨z, _, rfl, fun b o y => Same.new hz _ _ (s3 _ _ y), ?_⟩⟩
        show upd _ _ _ _ = _
        rw [upd_same]
        simp [edL]
    · rintro σ H2 ⟨q, k2, rfl, s2, p2⟩
      rw [vl, List.take_length] at p2
      exact st_ret (te_v rfl (k q H2 s2 p2))
abbrev s_l_package_rows : Stmt := topS 66
theorem sc_l_package_rows : FnScope ["package", "rows", "one"] ["package"] (defScope s_l_package_rows) := ⟨rfl, rfl, rfl, by decide +kernel, rfl, by decide +kernel, by decide +kernel⟩
theorem ok_lprows {f : Addr} {fd : FuncData} (F : Fun K "_law_package_rows" "_law_package_rows" s_l_package_rows f fd) (T : Glo mg) (c_l_content_rows : C8.Cal P w K mg base 1 "_law_content_rows" (spCLines K) []) : FnOk P w K mg base CX0 2 f fd ["package"] (spPkgRows K) := by
  refine F.ok sc_l_package_rows (fun vs H Q E h => ?_) (fun cdv A outer s H vs Q E hr h => ?_)
  · obtain ⟨v, p, rfl, _⟩ := h
    rfl
  · obtain ⟨v, ⟨n, i, ns, c⟩, rfl, hv, hi, hns, hc, hl, k⟩ := h
    obtain ⟨t, u, ms, rfl, ht, hu, hms⟩ := pkg_of hv
    dsimp only at ht hms hi hns hc
    have ml := hms.len
    rw [List.length_map] at ml
    refine ⟨_, (pss_cons (ps_set (i := 1) sc_l_package_rows.nd rfl (.inl rfl) (pe_lst (pa_cons (pe_op op_add_str (pe_op op_add_str (pe_op op_add_str pe_str (pe_ix (r := rIxT K) ix_tup (pv 0) pe_int (fun _ _ => rfl))) pe_str) (pe_callTy call_str_int (by rfl) T.str (by decide +kernel) (pa_cons (pe_ix (r := rIxT K) ix_tup (pv 0) pe_int (fun _ _ => rfl)) pa_nil))) pa_nil)))
      (pss_cons (ps_for PassesOwn.never rfl (pi_tup (pe_ix (r := rIxT K) ix_tup (pv 0) pe_int (fun _ _ => rfl))) (pg_name (i := 2) sc_l_package_rows.nd rfl (.inl rfl))
      (pss_one (ps_expr (pe_bm PySem.F.plainAttrs_list PySem.F.slot_list_append PySem.F.type_list_append mt_append (pv 1) (pa_cons (pe_op op_add_str (pe_op op_add_str (pe_op op_add_str (pe_op op_add_str (pe_op op_add_str pe_str (pe_ix (r := rIxT K) ix_tup (pv 2) pe_int (fun _ _ => rfl))) pe_str) (pe_callTy call_str_int (by rfl) T.str (by decide +kernel) (pa_cons (pe_ix (r := rIxT K) ix_tup (pv 2) pe_int (fun _ _ => rfl)) pa_nil))) pe_str) (pe_callTy call_str_int (by rfl) T.str (by decide +kernel) (pa_cons (pe_ix (r := rIxT K) ix_tup (pv 2) pe_int (fun _ _ => rfl)) pa_nil))) pa_nil)))))
      (pss_one (ps_ret (pe_op op_cat (pe_op op_cat (pv 1) (pe_lst (pa_strs (xs := ["content"]) rfl))) (C8.pe_c c_l_content_rows hr (by omega) (by rfl) (pa_cons (pe_ix (r := rIxT K) ix_tup (pv 0) pe_int (fun _ _ => rfl)) pa_nil))))))), ?_⟩
    have gl := Nat.le_trans (content_mem (List.mem_cons_self (a := (((("package " : Str) ++ n) ++ (" " : Str)) ++ (toString i : Str))) (l := ns.map ndLw ++ (("content" : Str) :: barL c)))) hl
    have rowsn := Nat.le_trans (content_rows _) hl
    simp only [pkgLw, List.length_cons, List.length_append, List.length_map] at rowsn
    simp only [len_cat] at gl
    refine st_seq <| st_asg ?_
    refine ⟨_, rfl, te_c <| ixTd ht rfl ⟨_, _, rfl, rfl, small_of (by omega), ?_⟩⟩
    refine te_c ⟨_, _, rfl, rfl, small_of (by simp only [len_cat]; omega), ?_⟩
    refine te_cb <| ta_cons <| te_op <| te_v rfl <| te_c <| ixTd ht rfl <| ta_nil ⟨i, rfl, log_few hi, _, _, rfl, rfl, small_of (by simp only [len_cat]; omega), (by show 1 ≤ sizeLine; decide), fun p hp => st_g ?_⟩
    dsimp only
    have s1 : Same H (upd H p (.lst [.str (((("package " : Str) ++ n) ++ (" " : Str)) ++ (toString i : Str))])) := Same.new hp
    have p1 : Strs (upd H p (.lst [.str (((("package " : Str) ++ n) ++ (" " : Str)) ++ (toString i : Str))])) p [((("package " : Str) ++ n) ++ (" " : Str)) ++ (toString i : Str)] := upd_same
    generalize upd H p (.lst [.str (((("package " : Str) ++ n) ++ (" " : Str)) ++ (toString i : Str))]) = H1 at s1 p1 ⊢
    refine st_seq ?_
    refine ⟨_, rfl, te_c <| ixTd (Rd.same s1 ht) rfl ⟨u, rfl, ⟨_, .inl (Rd.same s1 hu)⟩, ?_⟩⟩
    refine for_tup (K := K) (a := u) (xs := ms) (fun j σ H2 => ∃ (k2 : Option V), σ = [some (.ref t), some (.ref p), k2] ∧ Same H H2 ∧ Strs H2 p ((((("package " : Str) ++ n) ++ (" " : Str)) ++ (toString i : Str)) :: (ns.take j).map ndLw))
      ⟨_, rfl, s1, p1⟩ (fun j σ H2 _ ⟨_, _, z, _⟩ => .inl (Rd.same z hu)) ?_ ?_
    · rintro j x σ H2 hx ⟨k2, rfl, s2, p2⟩
      have hjl : j < ns.length := by
        have := (List.getElem?_eq_some_iff.mp hx).1
        omega
      have hq : ns[j]? = some ns[j] := List.getElem?_eq_getElem hjl
      obtain ⟨v, hv, hrep⟩ := hms.get (i := j) (d := needD ns[j]) (by rw [List.getElem?_map, hq]; rfl)
      obtain rfl : v = x := Option.some.inj (hv.symm.trans hx)
      obtain ⟨t2, rfl, ht2⟩ := need_ofD (hrep.keep (Same.tk s2))
      have m9 := hns _ (List.getElem_mem hjl)
      have mem : ndLw ns[j] ∈ ns.map ndLw := List.mem_map_of_mem (List.getElem_mem hjl)
      have nl := Nat.le_trans (content_mem (List.mem_cons_of_mem (((("package " : Str) ++ n) ++ (" " : Str)) ++ (toString i : Str)) (List.mem_append_left (("content" : Str) :: barL c) mem))) hl
      rw [List.take_add_one, hq]
      generalize ns[j] = m at hq ht2 m9 mem nl
      dsimp only
      simp only [ndLw, len_cat] at nl
      refine ⟨_, rfl, .inl ⟨rfl, _, SqL.of p2⟩, ?_⟩
      refine ta_cons ?_
      refine ⟨_, rfl, te_c <| ixTd ht2 rfl ⟨_, _, rfl, rfl, small_of (by omega), ?_⟩⟩
      refine te_c ⟨_, _, rfl, rfl, small_of (by simp only [len_cat]; omega), ?_⟩
      refine te_cb <| ta_cons <| te_op <| te_v rfl <| te_c <| ixTd ht2 rfl <| ta_nil ⟨m.2.1, rfl, log_few m9.1, _, _, rfl, rfl, small_of (by simp only [len_cat]; omega), ?_⟩
      refine te_c ⟨_, _, rfl, rfl, small_of (by simp only [len_cat]; omega), ?_⟩
      refine te_cb <| ta_cons <| te_op <| te_v rfl <| te_c <| ixTd ht2 rfl <| ta_nil ⟨m.2.2, rfl, log_few m9.2, _, _, rfl, rfl, small_of (by simp only [len_cat]; omega), ta_nil ?_⟩
      refine ⟨p, _, _, rfl, rfl, p2, by simp only [List.length_map, List.length_cons, List.length_take, sizeLine_eq]; omega, ?_⟩
      refine ⟨_, rfl, Same.mut s2 hp, ?_⟩
      show upd _ _ _ _ = _
      rw [upd_same]
      simp [ndLw]
    · rintro σ H2 ⟨k2, rfl, s2, p2⟩
      rw [ml, List.take_length] at p2
      refine st_ret <| te_op <| te_op <| te_v rfl ?_
      refine ⟨(by show 1 ≤ sizeLine; decide), fun e he => ⟨p, e, _, _, rfl, rfl, Same.new he _ _ p2, upd_same, by simp only [List.length_map, List.length_cons, List.length_nil, sizeLine_eq]; omega, fun g hg => ?_⟩⟩
      have s3 : Same H2 (upd H2 e (.lst (List.map V.str [("content" : Str)]))) := Same.new he
      have s03 : Same H (upd H2 e (.lst (List.map V.str [("content" : Str)]))) := fun b o z => s3 b o (s2 b o z)
      generalize upd H2 e (.lst (List.map V.str [("content" : Str)])) = H3 at s3 s03 hg ⊢
      have s4 : Same H3 (upd H3 g (.lst (List.map V.str ((((("package " : Str) ++ n) ++ (" " : Str)) ++ (toString i : Str)) :: ns.map ndLw) ++ List.map V.str [("content" : Str)]))) := Same.new hg
      have g4 : Strs (upd H3 g (.lst (List.map V.str ((((("package " : Str) ++ n) ++ (" " : Str)) ++ (toString i : Str)) :: ns.map ndLw) ++ List.map V.str [("content" : Str)]))) g (((((("package " : Str) ++ n) ++ (" " : Str)) ++ (toString i : Str)) :: ns.map ndLw) ++ [("content" : Str)]) := by
        show upd _ _ _ _ = _
        rw [upd_same, List.map_append]
      generalize upd H3 g (.lst (List.map V.str ((((("package " : Str) ++ n) ++ (" " : Str)) ++ (toString i : Str)) :: ns.map ndLw) ++ List.map V.str [("content" : Str)])) = H4 at s4 g4 ⊢
      have s04 : Same H H4 := fun b o z => s4 b o (s03 b o z)
      refine te_call <| ta_cons <| te_op <| te_v rfl <| te_c <| ixTd (Rd.same s04 ht) rfl <| ta_nil ⟨c, rfl, by omega, fun D H5 s5 hD d5 => ?_⟩
      refine ⟨g, D, _, _, rfl, rfl, s5 _ _ g4, d5, by simp only [List.length_map, List.length_append, List.length_cons, List.length_nil, sizeLine_eq]; omega, fun u hu => ?_⟩
      refine k u _ (fun b o z => Same.new hu _ _ (s5 _ _ (s04 _ _ z))) ?_
      show upd _ _ _ _ = _
      rw [upd_same]
      simp [pkgLw]
end
end Kl

namespace Ks
open PySem PySem.Spec PyProof.Rows L2 L2N
/-! two except clauses, both with `as` the same name -/
section
variable {X : Cx} {n : Str} {i : Nat} {pins : List (Addr × Obj)} {D : Ends} {σ1 : L2.St} {H1 : Hp} {a : Addr} {cls : Value} {d : Option Addr} {u : Shared} {g B : Heap}
/-- what is known of an exception that has landed in this def -/
structure Landed (X : Cx) (pins : List (Addr × Obj)) (σ1 : L2.St) (H1 : Hp) (a : Addr) (cls : Value) (d : Option Addr) (B : Heap) (u : Shared) (g : Heap) : Prop where
  fly : HandSPX.FlyingZ B (X.env :: X.outer) a (Zn cls d) g
  inv : ∀ g2, HandSPX.FlyingZ B (X.env :: X.outer) a (Zn cls d) g2 → g.UpToSlots g2 → Inv X pins σ1 H1 { u with heap := g2 }
  free : H1 a = none
/-- its place is none of the frames' -/
theorem Landed.apart (hf : X.env.frame = some X.env.locals) (L : Landed X pins σ1 H1 a cls d B u g) : a ≠ X.env.locals ∧ a ∉ X.fs := by
  have out : a ∉ frs (X.env :: X.outer) := fun m => by
    obtain ⟨o, _, he, _, hd⟩ := L.fly.there
    obtain ⟨_, o2, e2, ne2⟩ := L.fly.2.2.1.mem m
    cases he.symm.trans e2
    exact ne2 _ hd
  refine ⟨fun z => out (List.mem_filterMap.mpr ⟨_, .head _, ?_⟩), fun m => out ?_⟩
  · rw [z]
    exact hf
  · obtain ⟨v, hv, e⟩ := List.mem_filterMap.mp m
    exact List.mem_filterMap.mpr ⟨v, .tail _ hv, e⟩
/-- one clause, the others behind it -/
theorem Landed.clause {x : Str} {c : Value} {su : List Stmt} {b0 : Stmt} {np pp : Pos} {ts : Addr → Value → Option Addr → TS} {rest : List ExceptHandler} {W2 : WX} (hf : X.env.frame = some X.env.locals) (hN : X.N.Nodup) (hi : X.N[i]? = some n) (hln : X.env.kindOf n = some .local)
    (ok : X.Ok) (L : Landed X pins σ1 H1 a cls d B u g) (hc : Names X x c) (hsu : ∀ (oe : Obj) (pn : List (Addr × Obj)), Zn cls d oe → (∃ vs, oe.data = .fields vs) → PSs (X.suite a ((a, oe) :: pn)) (b0 :: su) (ts a cls d))
    (hrest : W2 cls d σ1 H1 → wpAny (model X.prog X.w) X.A (handleBy (.ref a) X.env rest) (SP X pins D) X.xe { u with heap := g }) (w : wAs X.K c i ts W2 D cls d σ1 H1) :
    wpAny (model X.prog X.w) X.A (handleBy (.ref a) X.env (.ExceptHandler (some (.Name x np)) (some n) (b0 :: su) pp :: rest)) (SP X pins D) X.xe { u with heap := g } := by
  obtain ⟨aL, aF⟩ := L.apart hf
  obtain ⟨q, hq, yes, no⟩ := w
  have I0 := L.inv g L.fly (Heap.UpToSlots.refl _)
  obtain ⟨o0, _, e0, z0, d0⟩ := L.fly.there
  have S0 := I0.suite e0 d0 L.free aL aF
  have kind := PySem.W.exm_one (M := model X.prog X.w) I0.kIn (fun A Q E s k z => wpAny_typeOf_ref (k _ _ e0) (by rw [z0.1]; exact z)) hq
  refine wpAny_handleBy_cons (codeAny_handlers_test ?_) (fun z => by cases z)
  have named : ∀ {Q E : Value → Shared → Prop}, Q c { u with heap := g } → wpAny (model X.prog X.w) (X.A.mark (some (.ref a))) (eval (.Name x np) X.env) Q E { u with heap := g } := fun {Q E} z => by
    rcases hc with ⟨h1, h2, h3 | ⟨h3, h4, h5⟩⟩
    · exact ld_glob (X := X.suite a ((a, o0) :: (X.pn ++ pins))) S0 h1 h3 z h2
    · exact ld_blt (X := X.suite a ((a, o0) :: (X.pn ++ pins))) S0 h1 h3 h4 z h5 h2
  refine named (kind.here ?_)
  cases q with
  | false => exact hrest (no rfl)
  | true =>
    refine codeAny_handlers_suite_as (HandSPX.lands_againZ L.fly fun g2 fly2 up2 => ?_)
    obtain ⟨o2, _, e2, z2, d2⟩ := fly2.there
    refine store_ok (X := X.suite a ((a, o2) :: (X.pn ++ pins))) (v := .ref a) ((L.inv g2 fly2 up2).suite e2 d2 L.free aL aF) hN hi (.inl hln) rfl (fun s2 S2 => ?_) (.inr hln)
    refine wpAny_mono ((hsu o2 (X.pn ++ pins) z2 ⟨_, d2⟩).run [] s2 _ H1 _ S2 (yes rfl a L.free)) (fun fl s3 hsp => ?_) (fun _ _ z => z.elim)
    cases fl with
    | ret v => exact hsp.elim fun _ h => h.elim fun _ h => h.elim fun _ h => gone_ok (h.1.unsuite ok) hN hi hln fun _ J => ⟨_, _, _, J, h.2.1, h.2.2⟩
    | next => exact hsp.elim fun _ h => h.elim fun _ h => gone_ok (h.1.unsuite ok) hN hi hln fun _ J => ⟨_, _, J, h.2⟩
    | brk => exact hsp.elim fun _ h => h.elim fun _ h => gone_ok (h.1.unsuite ok) hN hi hln fun _ J => ⟨_, _, J, h.2⟩
    | cont => exact hsp.elim fun _ h => h.elim fun _ h => gone_ok (h.1.unsuite ok) hN hi hln fun _ J => ⟨_, _, J, h.2⟩
end
section
variable {X : Cx} {n : Str} {i : Nat} {body : List Stmt} {pos : Pos} {tb : WX → TS} {Wout : WX}
theorem ps_try_as2 {x1 x2 : Str} {c1 c2 : Value} {su1 su2 : List Stmt} {b1 b2 : Stmt} {np1 np2 p1 p2 : Pos} {ts1 ts2 : Addr → Value → Option Addr → TS}
    (hs : X.stack = X.env :: X.outer) (hf : X.env.frame = some X.env.locals) (hN : X.N.Nodup) (hi : X.N[i]? = some n) (hln : X.env.kindOf n = some .local) (hc1 : Names X x1 c1) (hc2 : Names X x2 c2) (tk : L2N.Takes X Wout)
    (hb : ∀ (W : WX) (pn : List (Addr × Obj)) (xe : Value → Shared → Prop), L2N.Takes (X.tr pn xe) W → PassesOwn (model X.prog X.w) X.A X.env xe → PSs (X.tr pn xe) body (tb W))
    (hs1 : ∀ (a : Addr) (oe : Obj) (cls : Value) (d : Option Addr) (pn : List (Addr × Obj)), Zn cls d oe → (∃ vs, oe.data = .fields vs) → PSs (X.suite a ((a, oe) :: pn)) (b1 :: su1) (ts1 a cls d))
    (hs2 : ∀ (a : Addr) (oe : Obj) (cls : Value) (d : Option Addr) (pn : List (Addr × Obj)), Zn cls d oe → (∃ vs, oe.data = .fields vs) → PSs (X.suite a ((a, oe) :: pn)) (b2 :: su2) (ts2 a cls d)) :
    PS X (.Try body [.ExceptHandler (some (.Name x1 np1)) (some n) (b1 :: su1) p1, .ExceptHandler (some (.Name x2 np2)) (some n) (b2 :: su2) p2] [] [] pos) (fun D σ H => tb (wAs X.K c1 i ts1 (wAs X.K c2 i ts2 Wout D) D) D σ H) := by
  refine ⟨fun pins s0 σ0 H0 D I0 h0 => wpAny_Try_except (wpAny_mono ((hb (wAs X.K c1 i ts1 (wAs X.K c2 i ts2 Wout D) D) (X.pn ++ pins) (fun e s₁ => wpAny (model X.prog X.w) X.A (noteFrame e X.env) (fun _ s₂ => wpAny (model X.prog X.w) X.A (setFlight e none) (fun _ s₃ => wpAny (model X.prog X.w) X.A (handleBy e X.env [.ExceptHandler (some (.Name x1 np1)) (some n) (b1 :: su1) p1, .ExceptHandler (some (.Name x2 np2)) (some n) (b2 :: su2) p2]) (SP X pins D) X.xe s₃) X.xe s₂) X.xe s₁) (fun v u up => ?_) PassesOwn.looking).run [] s0 σ0 H0 D (I0.toTry _) h0) (fun fl u hsp => ?_) (fun _ _ z => z))⟩
  · obtain ⟨a, B, sI, _, σ1, H1, cls, d, rfl, J, nb, ups, sky, free, os, gens, w⟩ := up
    replace J := J.ofTry I0.ok
    have sky2 : Sky B (X.env :: X.outer) a (Zn cls d) X.env.locals u.heap := hs ▸ sky
    refine Sky.land (env := X.env) Zn.steady (I0.ok.frames.trans (congrArg some hs)) hf sky2 fun g fly up1 => ?_
    have L : Landed X pins σ1 H1 a cls d B u g := ⟨fly, fun g2 fly2 up2 => J.landed nb fly2.1 ((ups.trans up1).trans up2) os gens, free⟩
    refine L.clause hf hN hi hln I0.ok hc1 (fun o pn => hs1 a o cls d pn) (fun w2 => L.clause hf hN hi hln I0.ok hc2 (fun o pn => hs2 a o cls d pn) (fun w3 => ?_) w2) w
    have id1 := fly
    obtain ⟨_, _, _, o, vs, T, oT, tl, he, hz, hd, h1, hr⟩ := id1
    have off : wpAny (model X.prog X.w) X.A (setFlight (.ref a) X.env.frame) (fun _ s4 => wpAny (model X.prog X.w) X.A (throw (.ref a) : Sem Flow) (SP X pins D) X.xe s4) X.xe { u with heap := g } := by
      rw [hf]
      refine HandSPX.setFlight_upZ fly fun g4 held up4 => wpAny_throw (tk _ _ ?_)
      exact ⟨a, B, sI, pins, σ1, H1, cls, d, rfl, J, nb, (ups.trans up1).trans up4, .inr (.inr (hs.symm ▸ held)), free, os, gens, w3⟩
    refine wpAny_handleBy_nil (wpAny_bind (wpAny_field he hd h1 ?_))
    have nn : ¬ (Value.ref T == Value.none) = true := by simp
    rw [if_neg nn]
    first
      | exact wpAny_bind off
      | exact wpAny_bind (wpAny_pure (wpAny_bind off))
  · cases fl with
    | next => exact hsp.elim fun _ h => h.elim fun _ h => wpAny_execs_nil ⟨_, _, h.1.ofTry I0.ok, h.2⟩
    | brk => exact hsp.elim fun _ h => h.elim fun _ h => ⟨_, _, h.1.ofTry I0.ok, h.2⟩
    | cont => exact hsp.elim fun _ h => h.elim fun _ h => ⟨_, _, h.1.ofTry I0.ok, h.2⟩
    | ret v => exact hsp.elim fun _ h => h.elim fun _ h => h.elim fun _ h => ⟨_, _, _, h.1.ofTry I0.ok, h.2.1, h.2.2⟩
end
end Ks

namespace Kl
open PySem L2 Kd Kx
/-! _law_parse_fault: parse in a try with two clauses -/
def spFault (K : PySem.W.Frag) : Sp := fun vs H Q _ => ∃ (v : V) (tag : Str) (n : Int), vs = [v] ∧
  ((tag = "value" ∧ n = 1 ∧ ∃ d, Dp K H v d ∧ isStrY d = false) ∨ ∃ t : Str, v = .str t ∧ t.length ≤ 90000 ∧ okS t ∧ ((∃ m : Nat, parseP t = .syn m ∧ tag = "syntax" ∧ n = (m : Int)) ∨ (parseP t = .res .bad ∧ tag = "value" ∧ n = 1))) ∧
  ∀ (p : Addr) (H' : Hp), Same H H' → H' p = some (.tup [.str tag, .int n]) → Q (.ref p) H'
theorem takes_no {X : Cx} : L2N.Takes X (fun _ _ _ _ => False) := fun _ _ x => by
  obtain ⟨_, _, _, _, _, _, _, _, _, _, _, _, _, _, _, _, z⟩ := x
  exact z.elim
/-- what the two clauses ask of the exceptions' classes -/
structure Two (K : PySem.W.Frag) (CV CS : Addr) : Prop where
  vv : PySem.W.exmOne K (.ref CV) (.ref CV) = some true
  ss : PySem.W.exmOne K (.ref CS) (.ref CS) = some true
  sv : PySem.W.exmOne K (.ref CS) (.ref CV) = some false
  nV : PySem.W.findIn K (.ref CV) "at" = some none
  nS : PySem.W.findIn K (.ref CS) "at" = some none
section
variable {P : Program} {w : World} {K : PySem.W.Frag} {mg : Str → Option Value} {base : Heap}
abbrev s_l_parse_fault : Stmt := topS 62
theorem sc_l_parse_fault : FnScope ["text", "error"] ["text"] (defScope s_l_parse_fault) := ⟨rfl, rfl, rfl, by decide +kernel, rfl, by decide +kernel, by decide +kernel⟩
theorem ok_fault {C CV CS fV fS fp f : Addr} {fd fdp : FuncData} (F : Fun K "_law_parse_fault" "_law_parse_fault" s_l_parse_fault f fd) (eV : Err K mg "BadValue" CV fV) (eS : Err K mg "BadSyntax" CS fS) (two : Two K CV CS)
    (PA : At K mg "parse" s_parse ["text"] fp fdp) (GP : FnOk P w K mg base (L2N.CX P w) 8 fp fdp ["text"] (spParse K C CV CS)) : FnOk P w K mg base CX0 9 f fd ["text"] (spFault K) := by
  refine F.ok sc_l_parse_fault (fun vs H Q E h => ?_) (fun cdv A outer s H vs Q E hr h => ?_)
  · obtain ⟨v, tag, n, rfl, _⟩ := h
    rfl
  · obtain ⟨v, tag, n, rfl, hv, k⟩ := h
    have hr8 : Room 8 _ := hr.mono (by decide)
    refine ⟨_, (pss_cons (Ks.ps_try_as2 (i := 1) rfl rfl sc_l_parse_fault.nd rfl rfl ⟨rfl, by decide, .inl eV.mc⟩ ⟨rfl, by decide, .inl eS.mc⟩ takes_no (fun W pn xe tk _ => pss_one (ps_expr (pe_callS GP hr8 (by rfl) PA.mf PA.fn.kp PA.bd (fun σ => L2N.passAt tk σ) (pa_cons (pv 0) pa_nil))))
        (fun a oe cls d pn hz hf => pss_one (ps_ret (pe_tup (pa_cons pe_str (pa_cons (pe_get hz.zc hf (pv 1)) pa_nil)))))
        (fun a oe cls d pn hz hf => pss_one (ps_ret (pe_tup (pa_cons pe_str (pa_cons (pe_get hz.zc hf (pv 1)) pa_nil))))))
      (pss_one (ps_ret pe_non))), ?_⟩
    refine st_seq ?_
    refine st_expr <| te_callS <| ta_cons <| te_v rfl <| ta_nil ⟨v, rfl, ?_⟩
    rcases hv with ⟨rfl, rfl, d, hd, sd⟩ | ⟨t, rfl, tl, to, hp⟩
    · refine .inl ⟨d, hd, sd, fun dd H' out => ?_⟩
      refine ⟨true, two.vv, fun _ ax hax => ?_, fun z => nomatch z⟩
      refine st_ret <| te_tup <| ta_cons <| te_c <| ta_cons <| te_v rfl ⟨rfl, CV, dd, _, _, rfl, eV.xf, two.nV, rfl, out.xd, rfl, ta_nil ⟨(by show 2 ≤ sizeLine; decide), fun q hq => ?_⟩⟩
      exact k q _ (fun b o z => Same.new hq _ _ (out.sm _ _ z)) upd_same
    · refine .inr ⟨t, rfl, tl, to, fun m e dd H' out => ?_, fun fs e => ?_, fun es e => ?_, fun pk e => ?_, fun e dd H' out => ?_⟩
      · rcases hp with ⟨m', e', rfl, rfl⟩ | ⟨e', _⟩
        · rw [e'] at e
          cases e
          refine ⟨false, two.sv, (fun z => nomatch z), fun _ => ⟨true, two.ss, fun _ ax hax => ?_, fun z => nomatch z⟩⟩
          refine st_ret <| te_tup <| ta_cons <| te_c <| ta_cons <| te_v rfl ⟨rfl, CS, dd, _, _, rfl, eS.xf, two.nS, rfl, out.xd, rfl, ta_nil ⟨(by show 2 ≤ sizeLine; decide), fun q hq => ?_⟩⟩
          exact k q _ (fun b o z => Same.new hq _ _ (out.sm _ _ z)) upd_same
        · rw [e'] at e
          cases e
      · rcases hp with ⟨m', e', _⟩ | ⟨e', _⟩ <;> (rw [e'] at e; cases e)
      · rcases hp with ⟨m', e', _⟩ | ⟨e', _⟩ <;> (rw [e'] at e; cases e)
      · rcases hp with ⟨m', e', _⟩ | ⟨e', _⟩ <;> (rw [e'] at e; cases e)
      · rcases hp with ⟨m', e', _⟩ | ⟨e', rfl, rfl⟩
        · rw [e'] at e
          cases e
        · refine ⟨true, two.vv, fun _ ax hax => ?_, fun z => nomatch z⟩
          refine st_ret <| te_tup <| ta_cons <| te_c <| ta_cons <| te_v rfl ⟨rfl, CV, dd, _, _, rfl, eV.xf, two.nV, rfl, out.xd, rfl, ta_nil ⟨(by show 2 ≤ sizeLine; decide), fun q hq => ?_⟩⟩
          exact k q _ (fun b o z => Same.new hq _ _ (out.sm _ _ z)) upd_same
end
end Kl

namespace Kl
open PySem L2 Kd
/-! rows as a text, a text as rows -/
abbrev Free (l : Str) : Prop := 10 ∉ l.cps.toList
theorem str_ext {x y : Str} (h : x.cps.toList = y.cps.toList) : x = y := by
  have a := TL.mk_tl x
  have b := TL.mk_tl y
  rw [← a, ← b]
  exact congrArg (fun l => (⟨List.toArray l⟩ : Str)) h
theorem cps_nl : ("\n" : Str).cps.toList = [10] := by decide +kernel
theorem cps_bar : ("|" : Str).cps.toList = [124] := by decide +kernel
theorem cps_nil : ("" : Str).cps.toList = [] := by decide +kernel
theorem join_list (L : List Str) : (Txt.join "\n" L).cps.toList = TL.joinL [10] (L.map TL.tl) := by
  rw [TL.join_eq]
  have h := TL.tl_join "\n" L
  rw [show TL.tl "\n" = [10] from cps_nl] at h
  exact h
theorem joinL_cons {S : List Nat} {a b : List Nat} {r : List (List Nat)} : TL.joinL S (a :: b :: r) = a ++ (S ++ TL.joinL S (b :: r)) := rfl
theorem content_join : ∀ rows : List Str, (contentOf rows).cps.toList = TL.joinL [10] ((rows ++ [("" : Str)]).map TL.tl)
  | [] => by
    rw [content_nil]
    exact cps_nil.symm
  | x :: r => by
    have ih := content_join r
    rw [content_cons, ih]
    obtain ⟨b, r', e⟩ : ∃ b r', r ++ [("" : Str)] = b :: r' := by
      cases r with
      | nil => exact ⟨_, _, rfl⟩
      | cons b r => exact ⟨_, _, rfl⟩
    rw [show x :: r ++ [("" : Str)] = x :: (b :: r') by rw [← e]; rfl, e]
    rfl
theorem text_split {rows : List Str} (h : ∀ r ∈ rows, Free r) : Txt.split (contentOf rows) "\n" = rows ++ [("" : Str)] := by
  have e : contentOf rows = Txt.join "\n" (rows ++ [("" : Str)]) := str_ext (by rw [content_join, join_list])
  rw [e]
  refine TL.split_join (s := 10) (S := []) cps_nl (by decide +kernel) (by simp) fun p hp => ?_
  rcases List.mem_append.mp hp with h1 | h1
  · exact h p h1
  · rw [List.mem_singleton.mp h1]
    show 10 ∉ ("" : Str).cps.toList
    rw [cps_nil]
    simp
theorem join_snoc : ∀ {a : List Nat} {r : List (List Nat)}, TL.joinL [10] (a :: r ++ [[]]) = TL.joinL [10] (a :: r) ++ [10]
  | a, [] => by simp [TL.joinL]
  | a, b :: r => by
    have ih := join_snoc (a := b) (r := r)
    show a ++ ([10] ++ TL.joinL [10] (b :: r ++ [[]])) = (a ++ ([10] ++ TL.joinL [10] (b :: r))) ++ [10]
    rw [ih]
    simp [List.append_assoc]
theorem content_end {rows : List Str} (h : rows ≠ []) : contentOf rows = Txt.join "\n" rows ++ "\n" := str_ext (by
  rw [content_join, cps_cat, join_list, cps_nl]
  cases rows with
  | nil => exact absurd rfl h
  | cons x r =>
    rw [List.map_append]
    have e : [("" : Str)].map TL.tl = [[]] := by
      show [("" : Str).cps.toList] = [[]]
      rw [cps_nil]
    rw [e]
    exact join_snoc)
theorem join_free {rows : List Str} (hn : rows ≠ []) (h : ∀ r ∈ rows, Free r) : Txt.split (Txt.join "\n" rows) "\n" = rows := TL.split_join (s := 10) (S := []) cps_nl (by decide +kernel) hn h
theorem content_app (xs ys : List Str) : contentOf (xs ++ ys) = contentOf xs ++ contentOf ys := str_ext (by
  rw [cps_cat]
  induction xs with
  | nil => rw [content_nil]; rfl
  | cons x r ih => rw [List.cons_append, content_cons, content_cons, ih]; simp)
theorem okS_content {rows : List Str} (h : ∀ r ∈ rows, okS r) : okS (contentOf rows) := by
  induction rows with
  | nil =>
    intro c hc
    rw [content_nil] at hc
    cases hc
  | cons x r ih =>
    intro c hc
    rw [content_cons, List.mem_append, List.mem_cons] at hc
    rcases hc with hc | rfl | hc
    · exact h x (List.mem_cons_self ..) c hc
    · decide
    · exact ih (fun z hz => h z (List.mem_cons_of_mem _ hz)) c hc
/-! runs of kinds -/
theorem runK_app : ∀ (as bs : List Str) (k : Str) (n : Nat), runK k (as ++ bs) n = match runK k as n with | .inl m => .inl m | .inr k1 => runK k1 bs (n + as.length)
  | [], bs, k, n => rfl
  | a :: as, bs, k, n => by
    rw [List.cons_append, runK, runK]
    cases e : kindP k a with
    | none => rfl
    | some k' =>
      dsimp only
      rw [runK_app as bs k' (n + 1), List.length_cons]
      congr 1
      funext k1
      rw [show n + 1 + as.length = n + (as.length + 1) by omega]
def Goes (k : Str) (ls : List Str) (k' : Str) : Prop := ∀ n, runK k ls n = .inr k'
theorem Goes.nil {k : Str} : Goes k [] k := fun _ => rfl
theorem Goes.one {k l k' : Str} (h : kindP k l = some k') : Goes k [l] k' := fun n => by
  rw [runK, h]
  rfl
theorem Goes.app {k k1 k2 : Str} {as bs : List Str} (h : Goes k as k1) (g : Goes k1 bs k2) : Goes k (as ++ bs) k2 := fun n => by
  rw [runK_app, h n]
  exact g _
theorem Goes.init {k k2 : Str} {as bs : List Str} (h : Goes k (as ++ bs) k2) : ∃ k1, runK k as 0 = .inr k1 := by
  have h0 := h 0
  rw [runK_app] at h0
  cases e : runK k as 0 with
  | inl m =>
    rw [e] at h0
    cases h0
  | inr k1 => exact ⟨k1, rfl⟩
theorem bar_start (l : Str) : Txt.startswith (("|" : Str) ++ l) "|" = true := by
  rw [bar_iff, cps_cat, cps_bar]
  rfl
theorem kind_bar {k l : Str} (hb : ("|" : Str) ∈ behP k) : kindP k (("|" : Str) ++ l) = some (if Txt.endswith k " |" = true then k else k ++ " |") := by
  unfold kindP
  rw [if_pos (bar_start l), if_pos hb]
theorem bars_go {k k' : Str} (hb : ("|" : Str) ∈ behP k') (e : (if Txt.endswith k' " |" = true then k' else k' ++ (" |" : Str)) = k') : ∀ ls : List Str, Goes k' (ls.map (("|" : Str) ++ ·)) k'
  | [] => Goes.nil
  | l :: r => by
    have h := kind_bar (l := l) hb
    rw [e] at h
    exact (Goes.one h).app (bars_go (k := k) hb e r)
theorem barL_go {k k' : Str} (h1 : ("|" : Str) ∈ behP k) (e1 : (if Txt.endswith k " |" = true then k else k ++ (" |" : Str)) = k') (h2 : ("|" : Str) ∈ behP k') (e2 : (if Txt.endswith k' " |" = true then k' else k' ++ (" |" : Str)) = k') (c : Str) : Goes k (barL c) k' := by
  unfold barL
  have hn := split_ne c "\n"
  cases es : Txt.split c "\n" with
  | nil => exact absurd es hn
  | cons l r =>
    have h := kind_bar (l := l) h1
    rw [e1] at h
    exact (Goes.one h).app (bars_go (k := k) h2 e2 r)
/-! blocks of bars -/
theorem slice_bar (l : Str) : Txt.slice (("|" : Str) ++ l) (some 1) none = l := str_ext (by rw [slice1, cps_cat, cps_bar]; rfl)
theorem bars_fold (acc : List Blk) (ps : List Str) : ∀ (r : List Str) (a : Str), (r.map (("|" : Str) ++ ·)).foldl stepB (acc ++ [(ps, some a)]) = acc ++ [(ps, some (r.foldl (fun (x l : Str) => (x ++ ("\n" : Str)) ++ l) a))]
  | [], a => rfl
  | l :: r, a => by
    show (r.map (("|" : Str) ++ ·)).foldl stepB (stepB (acc ++ [(ps, some a)]) (("|" : Str) ++ l)) = _
    rw [stepB_bar (bar_start l)]
    show (r.map (("|" : Str) ++ ·)).foldl stepB (acc ++ [(ps, some ((a ++ "\n") ++ Txt.slice (("|" : Str) ++ l) (some 1) none))]) = _
    rw [slice_bar]
    exact bars_fold acc ps r _
theorem fold_list : ∀ (r : List Str) (a : Str), (r.foldl (fun x l => (x ++ ("\n" : Str)) ++ l) a).cps.toList = TL.joinL [10] (TL.tl a :: r.map TL.tl)
  | [], a => rfl
  | l :: r, a => by
    rw [List.foldl_cons, fold_list r]
    have e : TL.tl ((a ++ ("\n" : Str)) ++ l) = TL.tl a ++ ([10] ++ TL.tl l) := by
      show ((a ++ ("\n" : Str)) ++ l).cps.toList = _
      rw [cps_cat, cps_cat, cps_nl, List.append_assoc]
    rw [e]
    cases r with
    | nil => simp [TL.joinL]
    | cons b r => simp [TL.joinL]
theorem barL_fold (acc : List Blk) (ps : List Str) (c : Str) : (barL c).foldl stepB (acc ++ [(ps, none)]) = acc ++ [(ps, some c)] := by
  unfold barL
  have hn := split_ne c "\n"
  have hj : Txt.join "\n" (Txt.split c "\n") = c := (TL.join_eq _ _).trans <| StrLaws.join_split c "\n"
  cases es : Txt.split c "\n" with
  | nil => exact absurd es hn
  | cons l r =>
    rw [es] at hj
    show (r.map (("|" : Str) ++ ·)).foldl stepB (stepB (acc ++ [(ps, none)]) (("|" : Str) ++ l)) = _
    rw [stepB_bar (bar_start l)]
    show (r.map (("|" : Str) ++ ·)).foldl stepB (acc ++ [(ps, some (Txt.slice (("|" : Str) ++ l) (some 1) none))]) = _
    rw [slice_bar, bars_fold]
    have e : r.foldl (fun x l => (x ++ ("\n" : Str)) ++ l) l = c := str_ext (by
      rw [fold_list, ← hj, join_list]
      rfl)
    rw [e]
theorem bar_free {c l : Str} (h : l ∈ barL c) : Free l := by
  unfold barL at h
  obtain ⟨x, hx, rfl⟩ := List.mem_map.mp h
  have e : ("\n" : Str) = ⟨#[10]⟩ := by decide +kernel
  rw [e] at hx
  have := StrLaws.split_free c 10 x hx
  intro h
  rw [cps_cat, cps_bar, List.mem_append] at h
  rcases h with h | h
  · simp at h
  · exact this h
end Kl

namespace Kl
open PySem L2 Kd
/-! what parse says of rows, of rows cut, of rows and an odd one -/
structure Told (rows : List Str) (R : Res) : Prop where
  free : ∀ r ∈ rows, Free r
  ne : ∀ r ∈ rows, r ≠ ""
  filled : rows ≠ []
  go : ∃ k, Goes "" rows k ∧ k ∈ lastT
  val : valueP (blocksP rows) = R
  ok : ∀ r ∈ rows, okS r
  len : (contentOf rows).length ≤ 80000
section
variable {rows : List Str} {R : Res}
theorem Told.whole (h : Told rows R) : parseP (contentOf rows) = .res R := by
  obtain ⟨k, g, hk⟩ := h.go
  unfold parseP
  rw [text_split h.free]
  unfold parseL
  rw [List.dropLast_concat, g 0]
  show (if (rows ++ [("" : Str)]).getLast? ≠ some ("" : Str) ∨ k ∉ lastT then Got.syn _ else _) = _
  rw [if_neg (by rw [List.getLast?_concat]; simp only [ne_eq, not_true_eq_false, false_or, Classical.not_not]; exact hk), h.val]
theorem Told.cutT (h : Told rows R) : Txt.slice (contentOf rows) none (some (-1)) = Txt.join "\n" rows := by
  rw [content_end h.filled]
  have e := SX.butlast_snoc (Txt.join "\n" rows).cps.toList 10
  rw [SX.S_tl] at e
  have e2 : SX.S ((Txt.join "\n" rows).cps.toList ++ [10]) = Txt.join "\n" rows ++ ("\n" : Str) := str_ext (by rw [cps_cat, cps_nl])
  rw [e2] at e
  exact e
theorem Told.cut (h : Told rows R) : parseP (Txt.slice (contentOf rows) none (some (-1))) = .syn (rows.length - 1) := by
  obtain ⟨k, g, hk⟩ := h.go
  rw [h.cutT]
  unfold parseP
  rw [join_free h.filled h.free]
  obtain ⟨init, l, e⟩ : ∃ init l, rows = init ++ [l] := ⟨rows.dropLast, rows.getLast h.filled, (List.dropLast_concat_getLast h.filled).symm⟩
  have hl := h.ne l (by rw [e]; simp)
  rw [e] at g ⊢
  obtain ⟨k1, g1⟩ := g.init
  unfold parseL
  rw [List.dropLast_concat, g1]
  show (if (init ++ [l]).getLast? ≠ some ("" : Str) ∨ k1 ∉ lastT then Got.syn _ else _) = _
  rw [if_pos (.inl (by rw [List.getLast?_concat]; exact fun z => hl (Option.some.inj z)))]
theorem odd_none : ∀ k ∈ lastT, kindP k "odd" = none := by decide +kernel
theorem Told.odd (h : Told rows R) : parseP (contentOf rows ++ ("odd\n" : Str)) = .syn rows.length := by
  obtain ⟨k, g, hk⟩ := h.go
  have e : contentOf rows ++ ("odd\n" : Str) = contentOf (rows ++ [("odd" : Str)]) := by
    rw [content_app, show contentOf [("odd" : Str)] = ("odd\n" : Str) by decide +kernel]
  unfold parseP
  rw [e, text_split (fun r hr => by
    rcases List.mem_append.mp hr with h1 | h1
    · exact h.free r h1
    · rw [List.mem_singleton.mp h1]
      decide +kernel)]
  unfold parseL
  rw [List.dropLast_concat, runK_app, g 0]
  show (match runK k [("odd" : Str)] (0 + rows.length) with | .inl n => Got.syn n | .inr k => _) = _
  rw [runK, odd_none k hk]
  show Got.syn (0 + rows.length) = _
  rw [Nat.zero_add]
theorem Told.okS (h : Told rows R) : okS (contentOf rows) := okS_content h.ok
theorem Told.okCut (h : Told rows R) : Kl.okS (Txt.slice (contentOf rows) none (some (-1))) := fun c hc => by
  rw [h.cutT] at hc
  refine h.okS c ?_
  rw [content_end h.filled, cps_cat]
  exact List.mem_append_left _ hc
theorem Told.lenCut (h : Told rows R) : (Txt.slice (contentOf rows) none (some (-1))).length ≤ 80000 := by
  have := h.len
  rw [content_end h.filled, len_cat] at this
  rw [h.cutT]
  omega
theorem Told.okOdd (h : Told rows R) : Kl.okS (contentOf rows ++ ("odd\n" : Str)) := okS_cat h.okS (okS_of (by decide +kernel))
theorem Told.lenOdd (h : Told rows R) : (contentOf rows ++ ("odd\n" : Str)).length ≤ 90000 := by
  have := h.len
  rw [len_cat]
  have : ("odd\n" : Str).length = 4 := by decide +kernel
  omega
end
/-! bars: their signs and sizes -/
theorem bar_ok {c l : Str} (hc : okS c) (h : l ∈ barL c) : okS l := by
  unfold barL at h
  obtain ⟨x, hx, rfl⟩ := List.mem_map.mp h
  exact okS_cat (okS_of (by decide +kernel)) (okS_part hc hx)
theorem bar_ne {c l : Str} (h : l ∈ barL c) : l ≠ "" := by
  unfold barL at h
  obtain ⟨x, hx, rfl⟩ := List.mem_map.mp h
  intro e
  have h2 : (("|" : Str) ++ x).cps.toList = ("" : Str).cps.toList := congrArg (fun z : Str => z.cps.toList) e
  rw [cps_cat, cps_bar, cps_nil] at h2
  cases h2
theorem bar_size (c : Str) : (contentOf (barL c)).length ≤ 3 * c.length + 6 := by
  have h1 := PyProof.Rows.split_weight c "\n" (by decide +kernel)
  have h2 := PyProof.Rows.split_le c "\n"
  rw [content_len]
  unfold barL
  rw [List.map_map]
  have e : ∀ xs : List Str, (xs.map ((fun x : Str => x.length + 1) ∘ (("|" : Str) ++ ·))).sum = (xs.map (·.length)).sum + 2 * xs.length := fun xs => by
    induction xs with
    | nil => rfl
    | cons x r ih =>
      simp only [List.map_cons, List.sum_cons, List.length_cons, ih, Function.comp]
      rw [len_cat]
      have : ("|" : Str).length = 1 := by decide +kernel
      omega
  rw [e]
  omega
theorem content_cat_len (xs ys : List Str) : (contentOf (xs ++ ys)).length = (contentOf xs).length + (contentOf ys).length := by rw [content_app, len_cat]
theorem content_one (x : Str) : (contentOf [x]).length = x.length + 1 := by
  rw [content_len]
  rfl
theorem content_cons_len (x : Str) (r : List Str) : (contentOf (x :: r)).length = x.length + 1 + (contentOf r).length := by
  rw [show x :: r = [x] ++ r from rfl, content_cat_len, content_one]
theorem flat_size {α : Type} {f : α → List Str} {m : Nat} : ∀ {xs : List α}, (∀ x ∈ xs, (contentOf (f x)).length ≤ m) → (contentOf (xs.flatMap f)).length ≤ xs.length * m
  | [], _ => by
    rw [List.flatMap_nil, content_len]
    exact Nat.zero_le _
  | x :: r, h => by
    have h1 := h x (List.mem_cons_self ..)
    have h2 := flat_size (xs := r) fun z hz => h z (List.mem_cons_of_mem _ hz)
    rw [List.flatMap_cons, content_cat_len, List.length_cons, Nat.succ_mul]
    omega
/-! contents -/
theorem Ct.okS {m : Nat} {x : Str} (h : Ct m x) : okS x := fun c hc => by
  have := h.all c hc
  unfold ctc okc at this
  simp only [Bool.or_eq_true, Bool.and_eq_true, decide_eq_true_eq, beq_iff_eq, bne_iff_ne] at this
  omega
theorem Ct.signs {x : Str} (h : Ct 1000 x) : contY (.str x) = true := by
  have s := h.cont.strike
  show signsB 1000 x = true
  unfold signsB shownB
  rw [s.ascii, s.print, decide_eq_true h.len, Bool.true_and, Bool.true_and, Bool.true_and, Bool.not_eq_true', List.any_eq_false]
  intro c hc
  have := okx_of (s.all c hc)
  simp only [beq_iff_eq]
  omega
end Kl

namespace Kl
open PySem L2 Kd
/-! the rows of a tree, an edit, a package are told as such -/
theorem pys_eq : ∀ ds : List D, pys ds = ds.map py
  | [] => rfl
  | d :: ds => by rw [pys, pys_eq ds]; rfl
theorem path_file : ∀ p ∈ allPaths, kindP "tree" (("file " : Str) ++ p) = some "file" ∧ kindP "file |" (("file " : Str) ++ p) = some "file" ∧ Txt.split (("file " : Str) ++ p) " " = [("file" : Str), p] ∧ Txt.startswith (("file " : Str) ++ p) "|" = false := by decide +kernel
theorem path_put : ∀ p ∈ allPaths, (∀ k ∈ ([("edit" : Str), "put |", "drop"] : List Str), kindP k (("put " : Str) ++ p) = some "put") ∧ Txt.split (("put " : Str) ++ p) " " = [("put" : Str), p] ∧ Txt.startswith (("put " : Str) ++ p) "|" = false := by decide +kernel
theorem path_drop : ∀ p ∈ allPaths, (∀ k ∈ ([("edit" : Str), "put |", "drop"] : List Str), kindP k (("drop " : Str) ++ p) = some "drop") ∧ Txt.split (("drop " : Str) ++ p) " " = [("drop" : Str), p] ∧ Txt.startswith (("drop " : Str) ++ p) "|" = false := by decide +kernel
def rowB (x : Str) : Bool := !(x.cps.toList.contains 10) && (decide (x ≠ "") && (PyData.strOk x && decide (x.length ≤ 40)))
theorem rowB_of {x : Str} (h : rowB x = true) : Free x ∧ x ≠ "" ∧ okS x ∧ x.length ≤ 40 := by
  unfold rowB at h
  rw [Bool.and_eq_true, Bool.and_eq_true, Bool.and_eq_true, decide_eq_true_eq, decide_eq_true_eq, Bool.not_eq_true'] at h
  refine ⟨fun z => ?_, h.2.1, okS_of h.2.2.1, h.2.2.2⟩
  have : x.cps.toList.contains 10 = true := List.contains_iff_mem.mpr z
  rw [h.1] at this
  cases this
theorem path_rows : ∀ p ∈ allPaths, pathB p = true ∧ rowB (("file " : Str) ++ p) = true ∧ rowB (("put " : Str) ++ p) = true ∧ rowB (("drop " : Str) ++ p) = true := by decide +kernel
theorem tree_go : ∀ {fs : Fs}, (∀ q ∈ fs, q.1 ∈ allPaths) → ∀ k ∈ ([("tree" : Str), "file |"] : List Str), ∃ k' ∈ ([("tree" : Str), "file |"] : List Str), Goes k (fs.flatMap flL) k'
  | [], _, k, hk => ⟨k, hk, Goes.nil⟩
  | q :: r, h, k, hk => by
    have p := path_file q.1 (h q (List.mem_cons_self ..))
    have g1 : Goes k [("file " : Str) ++ q.1] "file" := by
      simp only [List.mem_cons, List.not_mem_nil, or_false] at hk
      rcases hk with rfl | rfl
      · exact Goes.one p.1
      · exact Goes.one p.2.1
    have g2 : Goes "file" (barL q.2) "file |" := barL_go (by decide +kernel) (by decide +kernel) (by decide +kernel) (by decide +kernel) q.2
    obtain ⟨k', hk', g3⟩ := tree_go (fs := r) (fun z hz => h z (List.mem_cons_of_mem _ hz)) "file |" (by simp)
    refine ⟨k', hk', ?_⟩
    rw [List.flatMap_cons]
    exact (g1.app g2).app g3
theorem tree_fold : ∀ {fs : Fs}, (∀ q ∈ fs, q.1 ∈ allPaths) → ∀ acc : List Blk, (fs.flatMap flL).foldl stepB acc = acc ++ fs.map fun q => bFile q.1 (some q.2)
  | [], _, acc => by simp
  | q :: r, h, acc => by
    have p := path_file q.1 (h q (List.mem_cons_self ..))
    rw [List.flatMap_cons, List.foldl_append]
    show (r.flatMap flL).foldl stepB ((barL q.2).foldl stepB (stepB acc (("file " : Str) ++ q.1))) = _
    rw [stepB_head p.2.2.2, p.2.2.1, barL_fold, tree_fold (fs := r) (fun z hz => h z (List.mem_cons_of_mem _ hz))]
    simp
theorem files_yes {fs : Fs} (h : FOk fs) (a : Asc (fs.map (·.1))) {ds : List PyData} {d : PyData} (ed : seqY d = some ds) (e : ds = fs.map fun q => py (pairD q)) : filesY d = true := by
  unfold filesY
  rw [ed]
  subst e
  dsimp only
  have few := h.few
  rw [Bool.and_eq_true, Bool.and_eq_true, decide_eq_true_eq, List.length_map, List.all_eq_true]
  refine ⟨by omega, fun x hx => ?_, ?_⟩
  · obtain ⟨q, hq, rfl⟩ := List.mem_map.mp hx
    show (pathB q.1 && contY (.str q.2)) = true
    rw [(path_rows q.1 (h.path q hq)).1, (h.ct q hq).signs]
    rfl
  · rw [List.map_map, show (nameY ∘ fun q => py (pairD q)) = fun q : Str × Str => q.1 from rfl]
    exact ascB_asc.mpr a
theorem told_tree {fs : Fs} (h : FOk fs) (a : Asc (fs.map (·.1))) : Told (treeL fs) (.tree fs) := by
  have rows : ∀ r ∈ treeL fs, Free r ∧ r ≠ "" ∧ okS r := fun r hr => by
    unfold treeL at hr
    rcases List.mem_cons.mp hr with rfl | hr
    · have := rowB_of (x := "tree") (by decide +kernel)
      exact ⟨this.1, this.2.1, this.2.2.1⟩
    · obtain ⟨q, hq, hr⟩ := List.mem_flatMap.mp hr
      rcases List.mem_cons.mp hr with rfl | hr
      · have := rowB_of (path_rows q.1 (h.path q hq)).2.1
        exact ⟨this.1, this.2.1, this.2.2.1⟩
      · exact ⟨bar_free hr, bar_ne hr, bar_ok (h.ct q hq).okS hr⟩
  refine ⟨fun r hr => (rows r hr).1, fun r hr => (rows r hr).2.1, by simp [treeL], ?_, ?_, fun r hr => (rows r hr).2.2, ?_⟩
  · obtain ⟨k', hk', g⟩ := tree_go h.path "tree" (by simp)
    refine ⟨k', (Goes.one (k := "") (l := "tree") (k' := "tree") (by decide +kernel)).app g, ?_⟩
    simp only [List.mem_cons, List.not_mem_nil, or_false] at hk'
    rcases hk' with rfl | rfl <;> decide
  · have e : blocksP (treeL fs) = bTree :: fs.map fun q => bFile q.1 (some q.2) := by
      unfold blocksP treeL
      rw [List.foldl_cons, show stepB [] ("tree" : Str) = [bTree] by decide +kernel, tree_fold h.path]
      rfl
    rw [e]
    rw [valueP, if_pos (show (bTree : Blk).1.getD 0 "" = "tree" by decide)]
    have ef : filesOf (fs.map fun q => bFile q.1 (some q.2)) = fs := by
      unfold filesOf
      rw [List.map_map]
      exact List.map_id' fs
    rw [ef, if_pos (files_yes h a (d := pyFs fs) (ds := pys (fs.map pairD)) rfl (by rw [pys_eq, List.map_map]; rfl))]
  · have few := h.few
    have h1 := flat_size (f := flL) (m := 3100) (xs := fs) fun q hq => by
      have := rowB_of (path_rows q.1 (h.path q hq)).2.1
      have b := bar_size q.2
      have := (h.ct q hq).len
      unfold flL
      rw [content_cons_len]
      omega
    unfold treeL
    rw [content_cons_len]
    have : ("tree" : Str).length = 4 := by decide +kernel
    omega
/-! edits -/
def chgY (e : Str × Option Str) : List PyData := match e.2 with | some c => [.str "put", .str e.1, .str c] | none => [.str "drop", .str e.1]
/-- d tells the edit es, in rows or tuples -/
def Ed (es : Es) (d : PyData) : Prop := ∃ ds, seqY d = some ds ∧ ds.map seqY = es.map fun e => some (chgY e)
theorem Ed.of (es : Es) : Ed es (py (editD es)) := ⟨pys (es.map changeD), rfl, by
  rw [pys_eq, List.map_map, List.map_map]
  refine List.map_congr_left fun e _ => ?_
  obtain ⟨p, o⟩ := e
  cases o <;> rfl⟩
theorem ed_all : ∀ {es : Es} {ds : List PyData}, ds.map seqY = es.map (fun e => some (chgY e)) → (∀ q ∈ es, q.1 ∈ allPaths) → (∀ q ∈ es, ∀ c, q.2 = some c → Ct 1000 c) → ds.all changeY = true ∧ ds.map keyY = es.map (·.1) ∧ ds.flatMap chL = es.flatMap edL
  | [], [], _, _, _ => ⟨rfl, rfl, rfl⟩
  | [], d :: ds, h, _, _ => by cases h
  | e :: es, [], h, _, _ => by cases h
  | e :: es, d :: ds, h, hp, hc => by
    rw [List.map_cons, List.map_cons] at h
    obtain ⟨h1, h2⟩ := List.cons.inj h
    obtain ⟨i1, i2, i3⟩ := ed_all (es := es) (ds := ds) h2 (fun z hz => hp z (List.mem_cons_of_mem _ hz)) fun z hz => hc z (List.mem_cons_of_mem _ hz)
    have pb := (path_rows e.1 (hp e (List.mem_cons_self ..))).1
    have hce := hc e (List.mem_cons_self ..)
    obtain ⟨p, o⟩ := e
    have e1 : changeY d = true ∧ keyY d = p ∧ chL d = edL (p, o) := by
      cases o with
      | some c =>
        have h1 : seqY d = some [.str "put", .str p, .str c] := h1
        refine ⟨?_, by unfold keyY; rw [h1], ?_⟩
        · unfold changeY
          rw [h1]
          show (putY (.str "put") && (pathB p && contY (.str c))) = true
          rw [show putY (.str "put") = true by decide +kernel, show pathB p = true from pb, (hce c rfl).signs]
          rfl
        · unfold chL
          rw [h1]
          show ((("put" : Str) ++ " ") ++ p) :: barL c = (("put " : Str) ++ p) :: barL c
          rw [show ("put" : Str) ++ (" " : Str) = ("put " : Str) by decide +kernel]
      | none =>
        have h1 : seqY d = some [.str "drop", .str p] := h1
        refine ⟨?_, by unfold keyY; rw [h1], ?_⟩
        · unfold changeY
          rw [h1]
          show (dropY (.str "drop") && pathB p) = true
          rw [show dropY (.str "drop") = true by decide +kernel, show pathB p = true from pb]
          rfl
        · unfold chL
          rw [h1]
          show [(("drop" : Str) ++ " ") ++ p] = [("drop " : Str) ++ p]
          rw [show ("drop" : Str) ++ (" " : Str) = ("drop " : Str) by decide +kernel]
    refine ⟨?_, ?_, ?_⟩
    · rw [List.all_cons, e1.1, i1]
      rfl
    · rw [List.map_cons, List.map_cons, e1.2.1, i2]
    · rw [List.flatMap_cons, List.flatMap_cons, e1.2.2, i3]
theorem Ed.yes {es : Es} {d : PyData} (h : Ed es d) (ok : EOk es) (a : Asc (es.map (·.1))) : editY d = true ∧ smallE d = true ∧ editL d = editLw es := by
  obtain ⟨ds, e, m⟩ := h
  obtain ⟨h1, h2, h3⟩ := ed_all m ok.path ok.ct
  have few := ok.few
  have ln : ds.length = es.length := by
    have := congrArg List.length m
    rw [List.length_map, List.length_map] at this
    exact this
  have ey : editY d = true := by
    unfold editY
    rw [e]
    dsimp only
    rw [h1, h2, ascB_asc.mpr a]
    rfl
  refine ⟨ey, ?_, ?_⟩
  · unfold smallE
    rw [ey, e, Bool.true_and, decide_eq_true_eq]
    show ds.length ≤ 120
    omega
  · unfold editL editLw
    rw [e]
    show _ :: ds.flatMap chL = _
    rw [h3]
theorem edit_go : ∀ {es : Es}, (∀ q ∈ es, q.1 ∈ allPaths) → ∀ k ∈ ([("edit" : Str), "put |", "drop"] : List Str), ∃ k' ∈ ([("edit" : Str), "put |", "drop"] : List Str), Goes k (es.flatMap edL) k'
  | [], _, k, hk => ⟨k, hk, Goes.nil⟩
  | q :: r, h, k, hk => by
    have hq := h q (List.mem_cons_self ..)
    obtain ⟨p, o⟩ := q
    rw [List.flatMap_cons]
    cases o with
    | some c =>
      have g1 : Goes k [("put " : Str) ++ p] "put" := Goes.one ((path_put p hq).1 k hk)
      have g2 : Goes "put" (barL c) "put |" := barL_go (by decide +kernel) (by decide +kernel) (by decide +kernel) (by decide +kernel) c
      obtain ⟨k', hk', g3⟩ := edit_go (es := r) (fun z hz => h z (List.mem_cons_of_mem _ hz)) "put |" (by simp)
      exact ⟨k', hk', (g1.app g2).app g3⟩
    | none =>
      have g1 : Goes k [("drop " : Str) ++ p] "drop" := Goes.one ((path_drop p hq).1 k hk)
      obtain ⟨k', hk', g3⟩ := edit_go (es := r) (fun z hz => h z (List.mem_cons_of_mem _ hz)) "drop" (by simp)
      exact ⟨k', hk', g1.app g3⟩
theorem edit_fold : ∀ {es : Es}, (∀ q ∈ es, q.1 ∈ allPaths) → ∀ acc : List Blk, (es.flatMap edL).foldl stepB acc = acc ++ es.map fun e => (match e.2 with | some c => bPut e.1 (some c) | none => bDrop e.1)
  | [], _, acc => by simp
  | q :: r, h, acc => by
    have hq := h q (List.mem_cons_self ..)
    obtain ⟨p, o⟩ := q
    rw [List.flatMap_cons, List.foldl_append]
    cases o with
    | some c =>
      have pf := path_put p hq
      show (r.flatMap edL).foldl stepB ((barL c).foldl stepB (stepB acc (("put " : Str) ++ p))) = _
      rw [stepB_head pf.2.2, pf.2.1, barL_fold, edit_fold (es := r) (fun z hz => h z (List.mem_cons_of_mem _ hz))]
      simp
    | none =>
      have pf := path_drop p hq
      show (r.flatMap edL).foldl stepB (stepB acc (("drop " : Str) ++ p)) = _
      rw [stepB_head pf.2.2, pf.2.1, edit_fold (es := r) (fun z hz => h z (List.mem_cons_of_mem _ hz))]
      simp
theorem told_edit {es : Es} (h : EOk es) (a : Asc (es.map (·.1))) : Told (editLw es) (.edit es) := by
  have rows : ∀ r ∈ editLw es, Free r ∧ r ≠ "" ∧ okS r := fun r hr => by
    unfold editLw at hr
    rcases List.mem_cons.mp hr with rfl | hr
    · have := rowB_of (x := "edit") (by decide +kernel)
      exact ⟨this.1, this.2.1, this.2.2.1⟩
    · obtain ⟨⟨p, o⟩, hq, hr⟩ := List.mem_flatMap.mp hr
      have pr := path_rows p (h.path _ hq)
      cases o with
      | some c =>
        rcases List.mem_cons.mp hr with rfl | hr
        · have := rowB_of pr.2.2.1
          exact ⟨this.1, this.2.1, this.2.2.1⟩
        · exact ⟨bar_free hr, bar_ne hr, bar_ok (h.ct _ hq c rfl).okS hr⟩
      | none =>
        rw [List.mem_singleton.mp hr]
        have := rowB_of pr.2.2.2
        exact ⟨this.1, this.2.1, this.2.2.1⟩
  refine ⟨fun r hr => (rows r hr).1, fun r hr => (rows r hr).2.1, by simp [editLw], ?_, ?_, fun r hr => (rows r hr).2.2, ?_⟩
  · obtain ⟨k', hk', g⟩ := edit_go h.path "edit" (by simp)
    refine ⟨k', (Goes.one (k := "") (l := "edit") (k' := "edit") (by decide +kernel)).app g, ?_⟩
    simp only [List.mem_cons, List.not_mem_nil, or_false] at hk'
    rcases hk' with rfl | rfl | rfl <;> decide
  · have e : blocksP (editLw es) = bEdit :: es.map fun e => (match e.2 with | some c => bPut e.1 (some c) | none => bDrop e.1) := by
      unfold blocksP editLw
      rw [List.foldl_cons, show stepB [] ("edit" : Str) = [bEdit] by decide +kernel, edit_fold h.path]
      rfl
    rw [e]
    rw [valueP, if_neg (show ¬ (bEdit : Blk).1.getD 0 "" = "tree" by decide), if_pos (show (bEdit : Blk).1.getD 0 "" = "edit" by decide)]
    have ef : editOf (es.map fun e => (match e.2 with | some c => bPut e.1 (some c) | none => bDrop e.1)) = es := by
      unfold editOf
      rw [List.map_map]
      refine (List.map_congr_left fun e _ => ?_).trans (List.map_id es)
      obtain ⟨p, o⟩ := e
      cases o <;> rfl
    have few := h.few
    rw [ef, if_pos ⟨((Ed.of es).yes h a).1, by rw [List.length_map]; omega⟩]
  · have few := h.few
    have h1 := flat_size (f := edL) (m := 3100) (xs := es) fun q hq => by
      obtain ⟨p, o⟩ := q
      have pr := path_rows p (h.path _ hq)
      cases o with
      | some c =>
        have := rowB_of pr.2.2.1
        have b := bar_size c
        have := (h.ct _ hq c rfl).len
        show (contentOf ((("put " : Str) ++ p) :: barL c)).length ≤ _
        rw [content_cons_len]
        omega
      | none =>
        have := rowB_of pr.2.2.2
        show (contentOf [("drop " : Str) ++ p]).length ≤ _
        rw [content_one]
        omega
    unfold editLw
    rw [content_cons_len]
    have : ("edit" : Str).length = 4 := by decide +kernel
    omega
end Kl

namespace Kl
open PySem L2 Kd
/-! the rows of a package; the data that come back -/
abbrev pkNames : List Str := ["core", "zip"]
abbrev pkVers : List Int := [1, 2, 3, 4, 5, 6, 7, 8, 9]
abbrev pkNeeds : List (List Need3) := [[], [("a", 1, 9)], [("a", 1, 9), ("b", 2, 2)]]
structure PkOk (p : Pkg) : Prop where
  nm : p.1 ∈ pkNames
  vr : p.2.1 ∈ pkVers
  nd : p.2.2.1 ∈ pkNeeds
  ct : Ct 1000 p.2.2.2
def pkPre (n : Str) (v : Int) (ns : List Need3) : List Str := (((("package " : Str) ++ n) ++ (" " : Str)) ++ (toString v : Str)) :: (ns.map ndLw ++ [("content" : Str)])
def pkBlk (n : Str) (v : Int) (ns : List Need3) : List Blk := bPkg n (toString v : Str) :: ns.map fun m => ([("need" : Str), m.1, (toString m.2.1 : Str), (toString m.2.2 : Str)], none)
theorem pk_facts : ∀ n ∈ pkNames, ∀ v ∈ pkVers, ∀ ns ∈ pkNeeds, runK "" (pkPre n v ns) 0 = .inr "content" ∧ (pkPre n v ns).foldl stepB [] = pkBlk n v ns ++ [bCont none] ∧ (pkPre n v ns).all rowB = true := by decide +kernel
theorem pk_facts2 : ∀ n ∈ pkNames, ∀ v ∈ pkVers, ∀ ns ∈ pkNeeds, digitP (toString v : Str) = v ∧ needsOf ((pkBlk n v ns).drop 1) = ns ∧ wordB n = true ∧ verY (.int v) = true ∧ needsY 4 (py (.tup (ns.map needD))) = true := by decide +kernel
theorem pk_facts3 : ∀ ns ∈ pkNeeds, ns.length ≤ 4 ∧ ∀ m ∈ ns, m.2.1.natAbs ≤ 9 ∧ m.2.2.natAbs ≤ 9 ∧ m.1.length ≤ 100000 ∧ PyData.strOk m.1 = true := by decide +kernel
theorem runK_any : ∀ {ls : List Str} {k k' : Str} {n m : Nat}, runK k ls n = .inr k' → runK k ls m = .inr k'
  | [], _, _, _, _, h => h
  | l :: ls, k, k', n, m, h => by
    rw [runK] at h ⊢
    cases e : kindP k l with
    | none =>
      rw [e] at h
      cases h
    | some k2 =>
      rw [e] at h
      exact runK_any (ls := ls) h
theorem pk_rows (p : Pkg) : pkgLw p = pkPre p.1 p.2.1 p.2.2.1 ++ barL p.2.2.2 := by
  unfold pkgLw pkPre
  simp
theorem PkOk.yes {p : Pkg} (h : PkOk p) : pkgY (py (pkgD p)) = true := by
  obtain ⟨_, _, f3, f4, f5⟩ := pk_facts2 p.1 h.nm p.2.1 h.vr p.2.2.1 h.nd
  show (wordB p.1 && (verY (.int p.2.1) && (needsY 4 (py (.tup (p.2.2.1.map needD))) && contY (.str p.2.2.2)))) = true
  rw [f3, f4, f5, h.ct.signs]
  rfl
theorem told_pkg {p : Pkg} (h : PkOk p) : Told (pkgLw p) (.pkg p) := by
  obtain ⟨f1, f2, f3⟩ := pk_facts p.1 h.nm p.2.1 h.vr p.2.2.1 h.nd
  obtain ⟨g1, g2, _⟩ := pk_facts2 p.1 h.nm p.2.1 h.vr p.2.2.1 h.nd
  have g2' : needsOf (p.2.2.1.map fun m => (([("need" : Str), m.1, (toString m.2.1 : Str), (toString m.2.2 : Str)], none) : Blk)) = p.2.2.1 := g2
  rw [List.all_eq_true] at f3
  have few := pk_facts3 p.2.2.1 h.nd
  rw [pk_rows]
  have rows : ∀ r ∈ pkPre p.1 p.2.1 p.2.2.1 ++ barL p.2.2.2, Free r ∧ r ≠ "" ∧ okS r := fun r hr => by
    rcases List.mem_append.mp hr with hr | hr
    · have := rowB_of (f3 r hr)
      exact ⟨this.1, this.2.1, this.2.2.1⟩
    · exact ⟨bar_free hr, bar_ne hr, bar_ok h.ct.okS hr⟩
  refine ⟨fun r hr => (rows r hr).1, fun r hr => (rows r hr).2.1, by simp [pkPre], ?_, ?_, fun r hr => (rows r hr).2.2, ?_⟩
  · have g : Goes "" (pkPre p.1 p.2.1 p.2.2.1) "content" := fun n => runK_any f1
    have g2 : Goes "content" (barL p.2.2.2) "content |" := barL_go (by decide +kernel) (by decide +kernel) (by decide +kernel) (by decide +kernel) _
    exact ⟨_, g.app g2, by decide⟩
  · have e : blocksP (pkPre p.1 p.2.1 p.2.2.1 ++ barL p.2.2.2) = pkBlk p.1 p.2.1 p.2.2.1 ++ [bCont (some p.2.2.2)] := by
      unfold blocksP
      rw [List.foldl_append, f2]
      exact barL_fold _ _ _
    rw [e]
    unfold pkBlk
    rw [List.cons_append, value_pkg]
    have ep : pkgOf (bPkg p.1 (toString p.2.1 : Str)) ((p.2.2.1.map fun m => (([("need" : Str), m.1, (toString m.2.1 : Str), (toString m.2.2 : Str)], none) : Blk)) ++ [bCont (some p.2.2.2)]) = p := by
      unfold pkgOf
      rw [List.dropLast_concat, List.getLast?_concat, g2']
      show (p.1, digitP (toString p.2.1 : Str), p.2.2.1, p.2.2.2) = p
      rw [g1]
    rw [ep, if_pos h.yes]
  · rw [content_cat_len]
    have b := bar_size p.2.2.2
    have := h.ct.len
    have l1 : ∀ xs : List Str, (∀ x ∈ xs, rowB x = true) → (contentOf xs).length ≤ xs.length * 41 := fun xs => by
      intro hx
      induction xs with
      | nil => rw [content_len]; exact Nat.zero_le _
      | cons x r ih =>
        have := rowB_of (hx x (List.mem_cons_self ..))
        have := ih fun z hz => hx z (List.mem_cons_of_mem _ hz)
        rw [content_cons_len, List.length_cons, Nat.succ_mul]
        omega
    have := l1 _ f3
    have e : (pkPre p.1 p.2.1 p.2.2.1).length = p.2.2.1.length + 2 := by unfold pkPre; simp
    rw [e] at this
    omega
theorem empty_cat (x : Str) : Str.empty ++ x = x := str_ext (by
  rw [cps_cat]
  rfl)
theorem PkOk.rows {p : Pkg} : pkgL (py (pkgD p)) = pkgLw p := by
  show glue [("package " : Str), p.1, " ", (toString p.2.1 : Str)] :: ((((seqY (.tuple (pys (p.2.2.1.map needD)))).getD []).map ndL) ++ (("content" : Str) :: barL p.2.2.2)) = pkgLw p
  unfold pkgLw
  have e1 : glue [("package " : Str), p.1, " ", (toString p.2.1 : Str)] = ((("package " : Str) ++ p.1) ++ (" " : Str)) ++ (toString p.2.1 : Str) := by
    show ((((Str.empty ++ ("package " : Str)) ++ p.1) ++ (" " : Str)) ++ (toString p.2.1 : Str)) = _
    rw [empty_cat]
  rw [e1]
  congr 2
  show (pys (p.2.2.1.map needD)).map ndL = _
  rw [pys_eq, List.map_map, List.map_map]
  refine List.map_congr_left fun m _ => ?_
  show ((((((Str.empty ++ ("need " : Str)) ++ m.1) ++ (" " : Str)) ++ (toString m.2.1 : Str)) ++ (" " : Str)) ++ (toString m.2.2 : Str)) = ndLw m
  rw [empty_cat]
  rfl
end Kl

namespace Ks
open PySem PySem.Spec PyProof.Rows L2
/-- a text times an int -/
def rMulS : R2 := fun x y H Q => ∃ a n, x = .str a ∧ y = .int n ∧ MulOk a n ∧ Q (.str (Txt.mul a n)) H
theorem op_mulS {X : Cx} : OpR X (binaryOp .Mult) rMulS := by
  intro pins s σ H x y v u Q I rx ry h
  obtain ⟨a, n, rfl, rfl, hok, q⟩ := h
  obtain ⟨t, rfl⟩ := rx
  obtain ⟨t', rfl⟩ := ry
  exact SB.mul hok fun t' k => ⟨.str (Txt.mul a n), H, I.tok _, ⟨_, rfl⟩, q⟩
end Ks
namespace Kl
open PySem L2 Kd
/-! the texts that are always tried -/
def chkB (t tag : Str) (n : Int) : Bool := match parseP t with | .syn m => decide (tag = "syntax") && decide (n = (m : Int)) | .res .bad => decide (tag = "value") && decide (n = 1) | _ => false
theorem chk_of {t tag : Str} {n : Int} (h : chkB t tag n = true) : (∃ m : Nat, parseP t = .syn m ∧ tag = "syntax" ∧ n = (m : Int)) ∨ (parseP t = .res .bad ∧ tag = "value" ∧ n = 1) := by
  unfold chkB at h
  cases e : parseP t with
  | syn m =>
    rw [e] at h
    dsimp only at h
    rw [Bool.and_eq_true, decide_eq_true_eq, decide_eq_true_eq] at h
    exact .inl ⟨m, rfl, h.1, h.2⟩
  | res r =>
    rw [e] at h
    cases r with
    | bad =>
      dsimp only at h
      rw [Bool.and_eq_true, decide_eq_true_eq, decide_eq_true_eq] at h
      exact .inr ⟨rfl, h.1, h.2⟩
    | tree _ => cases h
    | edit _ => cases h
    | pkg _ => cases h
abbrev xs1001 : Str := Txt.mul "x" 1001
abbrev longT : Str := (("tree\nfile a\n|" : Str) ++ xs1001) ++ "\n"
theorem xs_list : xs1001.cps.toList = List.replicate 1001 120 := by decide +kernel
theorem xs_len : xs1001.length = 1001 := by rw [← len_tl, xs_list, List.length_replicate]
theorem xs_mul : MulOk "x" 1001 := by
  refine ⟨by decide, fun _ _ => ?_, fun _ _ => by decide +kernel⟩
  decide +kernel
theorem xs_free : Free xs1001 := fun h => by
  rw [xs_list] at h
  exact absurd (List.eq_of_mem_replicate h) (by decide)
theorem long_ok : okS longT := okS_cat (okS_cat (okS_of (by decide +kernel)) fun c hc => by
  rw [xs_list] at hc
  rw [List.eq_of_mem_replicate hc]
  decide) okS_nl
theorem long_len : longT.length ≤ 90000 := by
  rw [len_cat, len_cat, xs_len, show ("tree\nfile a\n|" : Str).length = 13 by decide +kernel, show ("\n" : Str).length = 1 by decide +kernel]
  decide
theorem long_bad_of {X : Str} (hf : Free X) (hl : X.length = 1001) : parseP (((("tree\nfile a\n|" : Str) ++ X) ++ ("\n" : Str))) = .res .bad := by
  have e : ((("tree\nfile a\n|" : Str) ++ X) ++ ("\n" : Str)) = contentOf [("tree" : Str), "file a", ("|" : Str) ++ X] := str_ext (by
    rw [content_cons, content_cons, content_cons, content_nil, cps_cat, cps_cat, cps_cat, cps_bar, cps_nl, show ("tree\nfile a\n|" : Str).cps.toList = ("tree" : Str).cps.toList ++ 10 :: (("file a" : Str).cps.toList ++ [10, 124]) by decide +kernel]
    simp)
  unfold parseP
  rw [e, text_split fun r hr => by
    simp only [List.mem_cons, List.not_mem_nil, or_false] at hr
    rcases hr with rfl | rfl | rfl
    · exact (rowB_of (by decide +kernel)).1
    · exact (rowB_of (by decide +kernel)).1
    · intro h
      rw [cps_cat, cps_bar, List.mem_append] at h
      rcases h with h | h
      · simp at h
      · exact hf h]
  have k1 : kindP "" "tree" = some "tree" := by decide +kernel
  have k2 : kindP "tree" "file a" = some "file" := by decide +kernel
  have k3 : kindP "file" (("|" : Str) ++ X) = some "file |" := (kind_bar (by decide +kernel)).trans (by decide +kernel)
  unfold parseL
  have rn : runK "" [("tree" : Str), "file a", ("|" : Str) ++ X] 0 = .inr "file |" := (((Goes.one k1).app (Goes.one k2)).app (Goes.one k3)) 0
  rw [List.dropLast_concat, rn]
  show (if ([("tree" : Str), "file a", ("|" : Str) ++ X] ++ [("" : Str)]).getLast? ≠ some ("" : Str) ∨ ("file |" : Str) ∉ lastT then Got.syn _ else _) = _
  rw [if_neg (by rw [List.getLast?_concat]; simp only [ne_eq, not_true_eq_false, false_or, Classical.not_not]; decide)]
  have eb : blocksP [("tree" : Str), "file a", ("|" : Str) ++ X] = [bTree, bFile "a" (some X)] := by
    show stepB ([("tree" : Str), "file a"].foldl stepB []) (("|" : Str) ++ X) = _
    rw [show [("tree" : Str), "file a"].foldl stepB [] = [bTree] ++ [bFile "a" none] by decide +kernel, stepB_bar (bar_start _)]
    show [bTree, bFile "a" (some (Txt.slice (("|" : Str) ++ X) (some 1) none))] = _
    rw [slice_bar]
  rw [eb, valueP, if_pos (show (bTree : Blk).1.getD 0 "" = "tree" by decide)]
  have ec : contY (.str X) = false := by
    show signsB 1000 X = false
    unfold signsB
    rw [hl]
    rfl
  have ef : filesY (pyFs (filesOf [bFile "a" (some X)])) = false := by
    show (decide (1 ≤ 60) && (((pathB "a" && contY (.str X)) && true) && _)) = false
    rw [ec, Bool.and_false, Bool.false_and, Bool.false_and, Bool.and_false]
  rw [ef, if_neg (by decide)]
theorem long_bad : parseP longT = .res .bad := long_bad_of xs_free xs_len
/-- all but the long one -/
abbrev fixedT : List (Str × Str × Int) := [("tree\nfile a\n", "syntax", 2), ("tree\nfile A\n|\n", "syntax", 1), ("tree\n|x\n", "syntax", 1), ("tree\nfile b\n|\nfile a\n|\n", "value", 1),
  ("edit\nput a\n", "syntax", 2), ("edit\ndrop a\n|x\n", "syntax", 2), ("package core 0\ncontent\n|\n", "syntax", 0), ("package core 1\n", "syntax", 1), ("package core 1\ncontent\n", "syntax", 2),
  ("package core 1\nneed a 2 1\ncontent\n|\n", "syntax", 1), ("odd\n", "syntax", 0), ("package core 1\nneed b 1 1\nneed a 1 1\ncontent\n|\n", "value", 1), ("edit \n", "syntax", 0),
  ("tree\nfile a\n|x\n\n", "syntax", 3), ("package core 1\ncontent\nx\n", "syntax", 2), ("tree\nfile b\n|x\nfile a\n|y\noops\n", "syntax", 5), ("edit\ndrop b\ndrop a\nput c\n", "syntax", 4), ("edit\ndrop b\ndrop a", "syntax", 2),
  ("edit\ndrop b\ndrop a\n", "value", 1), ("package core 1\nneed b 1 1\nneed a 1 1\ncontent\n", "syntax", 4), ("tree\nfile b\n|x\nfile a\n", "syntax", 4)]
theorem fixed_ok : ∀ c ∈ fixedT, chkB c.1 c.2.1 c.2.2 = true ∧ PyData.strOk c.1 = true ∧ c.1.length ≤ 90000 := by decide +kernel
theorem empty_ok : chkB "" "syntax" 0 = true := by decide +kernel
end Kl

namespace Kl
open PySem L2 Kd
/-! lists for tuples as data -/
mutual
def Lk : D → PyData → Prop
  | .tup ds, e => ∃ es, seqY e = some es ∧ LkS ds es
  | .non, e => e = .none
  | .bl b, e => e = .bool b
  | .int i, e => e = .int i
  | .str x, e => e = .str x
def LkS : List D → List PyData → Prop
  | [], es => es = []
  | d :: ds, es => ∃ e r, es = e :: r ∧ Lk d e ∧ LkS ds r
end
mutual
theorem lk_of {K : PySem.W.Frag} {N : Addr → Prop} {H : Hp} : ∀ {d : D} {v : V}, RepX N H d v → ∃ e, Dp K H v e ∧ Lk d e ∧ fitY e = fitY (py d) ∧ e.depth = (py d).depth
  | .non, _, h => by cases (show _ = V.non from h); exact ⟨_, .non, rfl, rfl, rfl⟩
  | .bl b, _, h => by cases (show _ = V.bl b from h); exact ⟨_, .bl b, rfl, rfl, rfl⟩
  | .int i, _, h => by cases (show _ = V.int i from h); exact ⟨_, .int i, rfl, rfl, rfl⟩
  | .str x, _, h => by cases (show _ = V.str x from h); exact ⟨_, .str x, rfl, rfl, rfl⟩
  | .tup ds, _, ⟨a, vs, e, _, h, _, r⟩ => by
    subst e
    obtain ⟨es, h1, h2, h3, h4⟩ := lks_of (K := K) r
    have ln : es.length = (pys ds).length := by
      have := h1
      have a1 := DpAll.len h1
      have a2 := RepsX.len r
      rw [← a1, a2, pys_eq, List.length_map]
    rcases h with h | h
    · refine ⟨.tuple es, .tup (.inl h) h1, ⟨es, rfl, h2⟩, ?_, ?_⟩
      · show (decide (es.length ≤ 100000) && fitsY es) = (decide ((pys ds).length ≤ 100000) && fitsY (pys ds))
        rw [ln, h3]
      · show (PyData.tuple es).depth = (PyData.tuple (pys ds)).depth
        rw [PyData.depth, PyData.depth, h4]
    · refine ⟨.list es, .lst (SqL.of h) h1, ⟨es, rfl, h2⟩, ?_, ?_⟩
      · show (decide (es.length ≤ 100000) && fitsY es) = (decide ((pys ds).length ≤ 100000) && fitsY (pys ds))
        rw [ln, h3]
      · show (PyData.list es).depth = (PyData.tuple (pys ds)).depth
        rw [PyData.depth, PyData.depth, h4]
theorem lks_of {K : PySem.W.Frag} {N : Addr → Prop} {H : Hp} : ∀ {ds : List D} {vs : List V}, RepsX N H ds vs → ∃ es, DpAll K H vs es ∧ LkS ds es ∧ fitsY es = fitsY (pys ds) ∧ PyData.depthAll es = PyData.depthAll (pys ds)
  | [], _, h => by cases (show _ = [] from h); exact ⟨[], .nil, rfl, rfl, rfl⟩
  | d :: ds, _, ⟨v, r, e, h, q⟩ => by
    subst e
    obtain ⟨e1, a1, a2, a3, a4⟩ := lk_of (K := K) h
    obtain ⟨es, b1, b2, b3, b4⟩ := lks_of (K := K) q
    refine ⟨e1 :: es, .cons a1 b1, ⟨e1, es, rfl, a2, b2⟩, ?_, ?_⟩
    · show (fitY e1 && fitsY es) = (fitY (py d) && fitsY (pys ds))
      rw [a3, b3]
    · show PyData.depthAll (e1 :: es) = PyData.depthAll (py d :: pys ds)
      rw [PyData.depthAll, PyData.depthAll, a4, b4]
end
theorem lk_chg {q : Str × Option Str} {d : PyData} (h : Lk (changeD q) d) : seqY d = some (chgY q) := by
  obtain ⟨p, o⟩ := q
  cases o with
  | some c =>
    obtain ⟨es, e, a, r, rfl, ha, b, r2, rfl, hb, c', r3, rfl, hc, hn⟩ := h
    cases (show r3 = [] from hn)
    cases (show a = _ from ha)
    cases (show b = _ from hb)
    cases (show c' = _ from hc)
    exact e
  | none =>
    obtain ⟨es, e, a, r, rfl, ha, b, r2, rfl, hb, hn⟩ := h
    cases (show r2 = [] from hn)
    cases (show a = _ from ha)
    cases (show b = _ from hb)
    exact e
theorem lk_chgs : ∀ {es : Es} {ds : List PyData}, LkS (es.map changeD) ds → ds.map seqY = es.map fun e => some (chgY e)
  | [], _, h => by cases (show _ = [] from h); rfl
  | e :: es, _, ⟨d, r, e1, h, q⟩ => by
    subst e1
    rw [List.map_cons, List.map_cons, lk_chg h, lk_chgs q]
/-- an edit in lists and tuples -/
theorem ed_loose {K : PySem.W.Frag} {N : Addr → Prop} {H : Hp} {es : Es} {v : V} (h : RepX N H (editD es) v) (ok : EOk es) : ∃ d, Dp K H v d ∧ YOk d ∧ Ed es d := by
  obtain ⟨d, h1, ⟨ds, e, h2⟩, h3, h4⟩ := lk_of (K := K) h
  have y := yok_edit (es := es) (by have := ok.few; omega) fun q hq => by
    have pr := rowB_of (path_rows q.1 (ok.path q hq)).2.1
    have l := pr.2.2.2
    rw [len_cat] at l
    refine ⟨⟨by omega, fun c hc => pr.2.2.1 c (by rw [cps_cat]; exact List.mem_append_right _ hc)⟩, fun c hc => ?_⟩
    have k := ok.ct q hq c hc
    exact ⟨Nat.le_trans k.len (by decide), k.okS⟩
  refine ⟨d, h1, ⟨by rw [h3]; exact y.fit, by rw [h4]; exact y.dep⟩, ds, e, lk_chgs h2⟩
/-! what printed does not take -/
def oddT : Nat → PyData
  | 0 => .none
  | 1 => .int 5
  | 2 => .str "tree"
  | 3 => .tuple [.tuple [.str "put", .str "A", .str ""]]
  | _ => .tuple [.str "core", .int 0, .tuple [], .str ""]
theorem odd_facts : ∀ i ∈ ([0, 1, 2, 3, 4] : List Nat), smallE (oddT i) = false ∧ pkgY (oddT i) = false ∧ fitY (oddT i) = true := by decide +kernel
theorem odd_files {fs : Fs} (h : FOk fs) (ne : fs ≠ []) : smallE (py (filesD fs)) = false ∧ pkgY (py (filesD fs)) = false := by
  have e0 : seqY (py (filesD fs)) = some (pys (fs.map pairD)) := rfl
  cases fs with
  | nil => exact absurd rfl ne
  | cons q r =>
    have hq := h.path q (List.mem_cons_self ..)
    have pd : ∀ p ∈ allPaths, PyData.eqv (.str p) (.str "drop") = false := by decide +kernel
    have ec : changeY (py (pairD q)) = false := by
      show (dropY (.str q.1) && pathY (.str q.2)) = false
      rw [show dropY (.str q.1) = false from pd q.1 hq]
      rfl
    have e1 : pys ((q :: r).map pairD) = py (pairD q) :: pys (r.map pairD) := rfl
    constructor
    · unfold smallE editY
      rw [e0, e1]
      dsimp only
      rw [List.all_cons, ec]
      rfl
    · unfold pkgY
      rw [e0, e1]
      cases pys (r.map pairD) with
      | nil => rfl
      | cons b r => cases r with
        | nil => rfl
        | cons c r => cases r with
          | nil => rfl
          | cons d r => cases r with
            | nil => rfl
            | cons _ _ => rfl
theorem fs_yok {fs : Fs} (h : FOk fs) : YOk (py (filesD fs)) := by
  have y := yok_fs (fs := fs) (by have := h.few; omega) fun q hq => by
    have pr := rowB_of (path_rows q.1 (h.path q hq)).2.1
    have l := pr.2.2.2
    rw [len_cat] at l
    have k := h.ct q hq
    exact ⟨⟨by omega, fun c hc => pr.2.2.1 c (by rw [cps_cat]; exact List.mem_append_right _ hc)⟩, ⟨Nat.le_trans k.len (by decide), k.okS⟩⟩
  have e : (pyFs fs).depth = (py (filesD fs)).depth := by
    show (PyData.list (pys (fs.map pairD))).depth = (PyData.tuple (pys (fs.map pairD))).depth
    rw [PyData.depth, PyData.depth]
  exact ⟨y.fit, by rw [← e]; exact y.dep⟩
end Kl
namespace Ks
open PySem PySem.Spec PyProof.Rows L2
/-- == of one kind or of another -/
theorem op_either {X : Cx} {f : Value → Value → Sem Value} {r1 r2 : R2} (h1 : OpR X f r1) (h2 : OpR X f r2) : OpR X f (fun x y H Q => r1 x y H Q ∨ r2 x y H Q) := by
  intro pins s σ H x y v u Q I rx ry h
  rcases h with h | h
  · exact h1 pins s σ H x y v u Q I rx ry h
  · exact h2 pins s σ H x y v u Q I rx ry h
end Ks

namespace Kl
open PySem L2 Kd Kx
/-- what may raise, asked of what does not raise -/
theorem fn_calm {P : Program} {w : World} {K : PySem.W.Frag} {mg : Str → Option Value} {base : Heap} {k : Nat} {f : Addr} {fd : FuncData} {ps : List Str} {sp sp' : Sp} (F : FnOk P w K mg base (L2N.CX P w) k f fd ps sp)
    (h : ∀ vs H Q E, sp' vs H Q E → sp vs H Q C8.E0) : FnOk P w K mg base CX0 k f fd ps sp' :=
  ⟨fun vs H Q E q => F.len vs H Q C8.E0 (h _ _ _ _ q), fun A outer s H args us vs Q E hr he hb hv hs => codeAny_mono (F.run A outer s H args us vs Q C8.E0 hr he hb hv (h _ _ _ _ hs)) fun r s2 z => by
    match r, z with
    | .error e, z =>
      obtain ⟨_, _, _, _, _, _, _, _, _, _, _, _, hE⟩ := z
      exact hE.elim
    | .ok (.ret u), z => exact z
    | .ok .next, z => exact z
    | .ok .brk, z => exact z
    | .ok .cont, z => exact z⟩
end Kl

namespace Kl
open PySem L2 Kd
structure TreeQ (P : Program) (w : World) (K : PySem.W.Frag) (mg : Str → Option Value) (base : Heap) (C : Addr) : Prop where
  tp : TreeP P w K mg base C
  eq : ∃ (f : Addr) (fd : FuncData), FnOk P w K mg base CX0 1 f fd ["self", "other"] (spTEq K C) ∧ PySem.W.findIn K (.ref C) "__eq__" = some (some (.ref f)) ∧ PySem.W.isFn K (.ref f) = true ∧ Binds K fd ["self", "other"] []
theorem op_teq {X : Cx} {C : Addr} {j : Nat} (c : TreeQ X.prog X.w X.K X.mg X.base C) (hr : Room j X.A) (hj : 1 ≤ j) : OpR X (compareOp .Eq) (Ks.rOwnI X.K C (spTEq X.K C) C8.E0) := by
  obtain ⟨f, fd, F, h1, h2, h3⟩ := c.eq
  exact Ks.op_ownI F h1 h2 h3 (hr.mono hj) C8.pass0
theorem eq_tree {K : PySem.W.Frag} {mg : Str → Option Value} {C : Addr} {H : Hp} {Q : VK} {a b : Addr} {fs gs : Fs} (F : TreeF K mg C) (ha : TreeAt C H a fs) (hg : ∀ q ∈ fs, PairOk q) (hb : TreeAt C H b gs) (hk : ∀ q ∈ gs, PairOk q) (q : Q (.bl (decide (fs = gs))) H) :
    Ks.rOwnI K C (spTEq K C) C8.E0 (.ref a) (.ref b) H Q := by
  obtain ⟨dx, t, o, vs, h1, h2⟩ := id ha
  exact ⟨a, dx, _, .ref C, rfl, h1, hb.ty F, F.fC, a, .ref b, fs, rfl, ha, hg, .inl ⟨b, gs, rfl, hb, hk, q⟩⟩
theorem eq_other {K : PySem.W.Frag} {C : Addr} {H : Hp} {Q : VK} {a : Addr} {fs : Fs} {y : V} {t : String} (ty : TyX K H y (.type t)) (h1 : PySem.W.notFirst K C (.type t) = true) (h2 : PySem.W.kitOne K (.type t) (.ref C) = some false) (ha : TreeAt C H a fs) (hg : ∀ q ∈ fs, PairOk q) (q : Q (.bl false) H) :
    Ks.rOwnI K C (spTEq K C) C8.E0 (.ref a) y H Q := by
  obtain ⟨dx, u, o, vs, e1, e2⟩ := id ha
  exact ⟨a, dx, _, .type t, rfl, e1, ty, h1, a, y, fs, rfl, ha, hg, .inr ⟨.type t, ty, h2, q⟩⟩
end Kl

namespace Kl
open PySem L2 Kd
section
variable {P : Program} {w : World} {K : PySem.W.Frag} {mg : Str → Option Value} {base : Heap}
theorem ok_soH {f : Addr} {fd : FuncData} (F : At K mg "_law_so" sSo ["found", "meant"] f fd) (T : Glo mg) : ∀ n : Nat, L2H.FnH P w K mg base CX0 n f fd ["found", "meant"] (spSo n)
  | 0 => ⟨fun vs H Q E ⟨a, b, v, u, e, _⟩ => by subst e; rfl, fun A outer s H args us vs Q E p hr hot hpin he hb hv ⟨a, b, v, u, e, _, _, d, _⟩ => absurd d (Nat.not_lt_zero _)⟩
  | n + 1 => by
    have G := ok_soH F T n
    refine Kx.okH F.fn scSo (fun vs H Q E h => ?_) (fun cdv A outer s H vs Q E p hot1 hr h => ?_)
    · obtain ⟨a, b, v, u, rfl, _⟩ := h
      rfl
    · obtain ⟨a, b, v, u, rfl, ra, rb, hd, k⟩ := h
      refine ⟨_, pss_cons (ps_if (pt_cmp (pc_isN (pv 1))) (pss_one (ps_ret (pe_cmp (pc_isN (pv 0))))) pss_nil)
        (pss_cons (ps_if (pt_val (pe_callB call_isi (by rfl) T.isi PyProof.Rows.boot_isinstance (pa_cons (pv 1) (pa_cons (pe_bltn (v := .ty "tuple") (by rfl) T.tuple PyProof.Rows.boot_tuple rfl) pa_nil))))
          (pss_cons (ps_if (PW.pt (pw_or (pt_not (pt_val (pe_callB call_isi (by rfl) T.isi PyProof.Rows.boot_isinstance (pa_cons (pv 0) (pa_cons (pe_bltn (v := .ty "tuple") (by rfl) T.tuple PyProof.Rows.boot_tuple rfl) pa_nil)))))
              (pw_or1 (pt_cmpR op_ne (pe_callB call_len_seq (by rfl) T.len PySem.boot_len (pa_cons (pv 0) pa_nil)) (pe_callB call_len_seq (by rfl) T.len PySem.boot_len (pa_cons (pv 1) pa_nil)) (nomark _))))) (pss_one (ps_ret pe_bl)) pss_nil)
          (pss_cons (L2H.ps_forH PassesOwn.never (Kx.hot_of hot1) (L2H.pi_range1H (by rfl) T.range (pa_cons (pe_callB call_len_seq (by rfl) T.len PySem.boot_len (pa_cons (pv 1) pa_nil)) pa_nil)) (pg_name (i := 2) scSo.nd rfl (.inl rfl))
            (pss_one (ps_if (pt_not (pt_val (L2H.pe_callH G hr (Kx.hot_of hot1) (by rfl) F.mf F.fn.kp F.bd (Kx.pass_at (E := fun _ => E0)) (pa_cons (pe_ix ix_tup (pv 0) (pv 2) (fun _ _ => rfl)) (pa_cons (pe_ix ix_tup (pv 1) (pv 2) (fun _ _ => rfl)) pa_nil))))) (pss_one (ps_ret pe_bl)) pss_nil)))
          (pss_one (ps_ret pe_bl)))) pss_nil)
        (pss_cons (ps_if (PW.pt (pw_or (pt_val (pe_callB call_isi (by rfl) T.isi PyProof.Rows.boot_isinstance (pa_cons (pv 1) (pa_cons (pe_bltn (v := .ty "bool") (by rfl) T.bool (by decide +kernel) rfl) pa_nil))))
            (pw_or1 (pt_val (pe_callB call_isi (by rfl) T.isi PyProof.Rows.boot_isinstance (pa_cons (pv 0) (pa_cons (pe_bltn (v := .ty "bool") (by rfl) T.bool (by decide +kernel) rfl) pa_nil)))))))
          (pss_one (ps_ret (pe_and (pe_callB call_isi (by rfl) T.isi PyProof.Rows.boot_isinstance (pa_cons (pv 1) (pa_cons (pe_bltn (v := .ty "bool") (by rfl) T.bool (by decide +kernel) rfl) pa_nil)))
            (pe_and (pe_callB call_isi (by rfl) T.isi PyProof.Rows.boot_isinstance (pa_cons (pv 0) (pa_cons (pe_bltn (v := .ty "bool") (by rfl) T.bool (by decide +kernel) rfl) pa_nil))) (pe_one (pe_cmpR op_eq (pv 0) (pv 1) (nomark _))))))) pss_nil)
        (pss_cons (ps_if (pt_val (pe_callB call_isi (by rfl) T.isi PyProof.Rows.boot_isinstance (pa_cons (pv 1) (pa_cons (pe_bltn (v := .ty "int") (by rfl) T.int PyProof.Rows.boot_int rfl) pa_nil))))
          (pss_one (ps_ret (pe_and (pe_callB call_isi (by rfl) T.isi PyProof.Rows.boot_isinstance (pa_cons (pv 0) (pa_cons (pe_bltn (v := .ty "int") (by rfl) T.int PyProof.Rows.boot_int rfl) pa_nil))) (pe_one (pe_cmpR op_eq (pv 0) (pv 1) (nomark _)))))) pss_nil)
        (pss_one (ps_ret (pe_and (pe_callB call_isi (by rfl) T.isi PyProof.Rows.boot_isinstance (pa_cons (pv 1) (pa_cons (pe_bltn (v := .ty "str") (by rfl) T.str (by decide +kernel) rfl) pa_nil)))
            (pe_and (pe_callB call_isi (by rfl) T.isi PyProof.Rows.boot_isinstance (pa_cons (pv 0) (pa_cons (pe_bltn (v := .ty "str") (by rfl) T.str (by decide +kernel) rfl) pa_nil))) (pe_one (pe_cmpR op_eq (pv 0) (pv 1) (nomark _)))))))))), ?_⟩
      refine ⟨u, rfl, _, rfl, ?_⟩
      refine ite2 (fun c => ?_) (fun c => ?_)
      · have eu : u = .non := of_decide_eq_true c
        subst eu
        cases b with
        | non =>
          refine ⟨v, rfl, ?_⟩
          cases a with
          | non => cases (show v = V.non from ra); exact k
          | bl x => cases (show v = V.bl x from ra); exact k
          | int x => cases (show v = V.int x from ra); exact k
          | str x => cases (show v = V.str x from ra); exact k
          | tup x =>
            obtain ⟨p, q, e, _⟩ := id ra
            subst e
            exact k
        | bl x => cases (show V.non = V.bl x from rb)
        | int x => cases (show V.non = V.int x from rb)
        | str x => cases (show V.non = V.str x from rb)
        | tup x =>
          obtain ⟨p, q, e, _⟩ := id rb
          cases e
      · refine ⟨u, rfl, u, _, _, _, _, rfl, .ty _, rb.ty, D.kTup b, _, rfl, ?_⟩
        match b, rb, hd, k with
        | .non, rb, hd, k => exact absurd (decide_eq_true (show u = V.non from rb)) c
        | .tup bs, rb, hd, k =>
          obtain ⟨pb, ub, rfl, hb, zb, qb⟩ := id rb
          refine iteT ?_
          refine ⟨v, rfl, v, _, _, _, _, rfl, .ty _, ra.ty, D.kTup a, _, rfl, ?_⟩
          match a, ra, k with
          | .tup as, ra, k =>
            obtain ⟨pa, ua, rfl, ha, za, qa⟩ := id ra
            refine iteF ?_
            refine ⟨_, rfl, pa, ua, rfl, .inr (.inl ha), _, rfl, pb, ub, rfl, .inr (.inl hb), rfl, _, rfl, ?_⟩
            have la := qa.len
            have lb := qb.len
            refine ite2 (fun c2 => ?_) (fun c2 => ?_)
            · have ne : as.length ≠ bs.length := fun z => by
                rw [la, lb, z] at c2
                simp at c2
              have e : D.eqb (.tup as) (.tup bs) = false := by
                cases z : D.eqb (.tup as) (.tup bs) with
                | false => rfl
                | true => exact absurd (D.eqbs_len (by simpa only [D.eqb] using z)) ne
              rw [e] at k
              exact k
            · have eq : as.length = bs.length := by
                have z : ua.length = ub.length := by
                  have : ¬ (!decide (V.int (ua.length : Int) = V.int (ub.length : Int))) = true := c2
                  simp at this
                  omega
                omega
              refine ⟨_, rfl, pb, ub, rfl, .inr (.inl hb), ub.length, rfl, by omega, ?_, ?_⟩
              · rw [sizeLine_eq] at zb
                omega
              · refine for_range (n := ((ub.length : Nat) : Int).toNat) (fun i σ H2 => ∃ kk : Option V, σ = [some (.ref pa), some (.ref pb), kk] ∧ H2 = H ∧ D.eqbs (as.take i) (bs.take i) = true) ⟨none, rfl, rfl, by simp [D.eqbs]⟩ ?_ ?_
                · rintro i σ H2 hi ⟨kk, rfl, rfl, he⟩
                  have hi' : i < ub.length := by simpa using hi
                  have hia : i < as.length := by omega
                  have hib : i < bs.length := by omega
                  have ga := List.getElem?_eq_getElem hia
                  have gb := List.getElem?_eq_getElem hib
                  obtain ⟨x, ex, rx⟩ := qa.get ga
                  obtain ⟨y, ey, ry⟩ := qb.get gb
                  have ez : (0 : Int) + (i : Int) = (i : Int) := Int.zero_add _
                  refine ⟨_, rfl, _, rfl, pa, ua, _, x, rfl, rfl, .inl ha, at_of ez ex, _, rfl, _, rfl, pb, ub, _, y, rfl, rfl, .inl hb, at_of ez ey, ?_⟩
                  refine ⟨_, _, x, y, rfl, rx, ry, ?_, _, rfl, ?_⟩
                  · have := D.dep_mem gb
                    simp only [D.dep] at hd
                    omega
                  · have et := D.eqbs_take ga gb
                    rw [he, Bool.true_and] at et
                    cases z : D.eqb as[i] bs[i] with
                    | true =>
                      rw [z] at et
                      exact ⟨_, rfl, rfl, et⟩
                    | false =>
                      have e : D.eqb (.tup as) (.tup bs) = false := by
                        simp only [D.eqb]
                        exact D.eqbs_cut ga gb z
                      rw [e] at k
                      exact k
                · rintro σ H2 ⟨kk, rfl, rfl, he⟩
                  have e : D.eqb (.tup as) (.tup bs) = true := by
                    simp only [D.eqb]
                    have e1 : ((ub.length : Nat) : Int).toNat = bs.length := by simpa using lb
                    rw [e1, List.take_of_length_le (Nat.le_of_eq eq), List.take_length] at he
                    exact he
                  rw [e] at k
                  exact k
          | .non, ra, k => exact k
          | .bl x, ra, k => exact k
          | .int x, ra, k => exact k
          | .str x, ra, k => exact k
        | .bl y, rb, hd, k =>
          obtain rfl : u = V.bl y := id rb
          refine iteF ?_
          refine ⟨_, rfl, _, _, _, _, _, rfl, .ty _, rb.ty, D.kBl (.bl y), _, rfl, ?_⟩
          refine ⟨_, rfl, _, _, _, _, _, rfl, .ty _, rb.ty, D.kBl (.bl y), _, rfl, iteT ?_⟩
          refine ⟨_, rfl, v, _, _, _, _, rfl, .ty _, ra.ty, D.kBl a, _, rfl, ?_⟩
          match a, ra, k with
          | .bl x, ra, k =>
            obtain rfl : v = V.bl x := id ra
            refine iteT ⟨_, rfl, _, rfl, rfl, ?_⟩
            have e : decide (V.bl x = V.bl y) = D.eqb (.bl x) (.bl y) := by
              simp only [D.eqb, V.bl.injEq]
              cases x <;> cases y <;> rfl
            rw [e]
            exact k
          | .non, ra, k => exact k
          | .int x, ra, k => exact k
          | .str x, ra, k => exact k
          | .tup x, ra, k => exact k
        | .int y, rb, hd, k =>
          obtain rfl : u = V.int y := id rb
          refine iteF ?_
          refine ⟨_, rfl, _, _, _, _, _, rfl, .ty _, rb.ty, D.kBl (.int y), _, rfl, ?_⟩
          refine ⟨_, rfl, v, _, _, _, _, rfl, .ty _, ra.ty, D.kBl a, _, rfl, ?_⟩
          match a, ra, k with
          | .bl x, ra, k => exact ⟨_, rfl, _, _, _, _, _, rfl, .ty _, rb.ty, D.kBl (.int y), _, rfl, k⟩
          | .int x, ra, k =>
            obtain rfl : v = V.int x := id ra
            refine iteF ⟨_, rfl, _, _, _, _, _, rfl, .ty _, rb.ty, D.kInt (.int y), _, rfl, ?_⟩
            refine ⟨_, rfl, _, _, _, _, _, rfl, .ty _, ra.ty, D.kInt (.int x), _, rfl, iteT ⟨_, rfl, _, rfl, rfl, ?_⟩⟩
            have e : decide (V.int x = V.int y) = D.eqb (.int x) (.int y) := by
              simp only [D.eqb, V.int.injEq]
            rw [e]
            exact k
          | .non, ra, k => exact ⟨_, rfl, _, _, _, _, _, rfl, .ty _, rb.ty, D.kInt (.int y), _, rfl, _, rfl, _, _, _, _, _, rfl, .ty _, ra.ty, D.kInt .non, _, rfl, k⟩
          | .str x, ra, k => exact ⟨_, rfl, _, _, _, _, _, rfl, .ty _, rb.ty, D.kInt (.int y), _, rfl, _, rfl, _, _, _, _, _, rfl, .ty _, ra.ty, D.kInt (.str x), _, rfl, k⟩
          | .tup x, ra, k => exact ⟨_, rfl, _, _, _, _, _, rfl, .ty _, rb.ty, D.kInt (.int y), _, rfl, _, rfl, _, _, _, _, _, rfl, .ty _, ra.ty, D.kInt (.tup x), _, rfl, k⟩
        | .str y, rb, hd, k =>
          obtain rfl : u = V.str y := id rb
          refine iteF ?_
          refine ⟨_, rfl, _, _, _, _, _, rfl, .ty _, rb.ty, D.kBl (.str y), _, rfl, ?_⟩
          refine ⟨_, rfl, v, _, _, _, _, rfl, .ty _, ra.ty, D.kBl a, _, rfl, ?_⟩
          match a, ra, k with
          | .bl x, ra, k => exact ⟨_, rfl, _, _, _, _, _, rfl, .ty _, rb.ty, D.kBl (.str y), _, rfl, k⟩
          | .str x, ra, k =>
            obtain rfl : v = V.str x := id ra
            refine iteF ⟨_, rfl, _, _, _, _, _, rfl, .ty _, rb.ty, D.kInt (.str y), _, rfl, ?_⟩
            refine iteF ⟨_, rfl, _, _, _, _, _, rfl, .ty _, rb.ty, D.kStr (.str y), _, rfl, iteT ?_⟩
            refine ⟨_, rfl, _, _, _, _, _, rfl, .ty _, ra.ty, D.kStr (.str x), _, rfl, iteT ⟨_, rfl, _, rfl, rfl, ?_⟩⟩
            have e : decide (V.str x = V.str y) = D.eqb (.str x) (.str y) := by
              simp only [D.eqb, V.str.injEq]
            rw [e]
            exact k
          | .non, ra, k => exact ⟨_, rfl, _, _, _, _, _, rfl, .ty _, rb.ty, D.kInt (.str y), _, rfl, _, rfl, _, _, _, _, _, rfl, .ty _, rb.ty, D.kStr (.str y), _, rfl, _, rfl, _, _, _, _, _, rfl, .ty _, ra.ty, D.kStr .non, _, rfl, k⟩
          | .int x, ra, k => exact ⟨_, rfl, _, _, _, _, _, rfl, .ty _, rb.ty, D.kInt (.str y), _, rfl, _, rfl, _, _, _, _, _, rfl, .ty _, rb.ty, D.kStr (.str y), _, rfl, _, rfl, _, _, _, _, _, rfl, .ty _, ra.ty, D.kStr (.int x), _, rfl, k⟩
          | .tup x, ra, k => exact ⟨_, rfl, _, _, _, _, _, rfl, .ty _, rb.ty, D.kInt (.str y), _, rfl, _, rfl, _, _, _, _, _, rfl, .ty _, rb.ty, D.kStr (.str y), _, rfl, _, rfl, _, _, _, _, _, rfl, .ty _, ra.ty, D.kStr (.tup x), _, rfl, k⟩
end
end Kl

namespace Kl
open PySem L2 Kd
theorem TreeAt.go {C b : Addr} {H H' : Hp} {a : Addr} {fs : Fs} (c : Cell H b) (g : Go b H H') (h : TreeAt C H a fs) : TreeAt C H' a fs := by
  obtain ⟨dx, t, ob, vs, h1, h2, h3, h4, h5⟩ := h
  obtain ⟨i, _, q⟩ := id c
  exact ⟨dx, t, ob, vs, g.keep _ _ (ne_of h1 q (fun z => nomatch z)) h1, g.keep _ _ (ne_of h2 q (fun z => nomatch z)) h2, h3, h4, h5.keep (g.tk c)⟩
end Kl

namespace Kl
open PySem L2 Kd Kx
abbrev s_law : Stmt := topS 68
theorem sc_law : FnScope ["script", "row", "spot", "files", "edit", "package", "cases", "case", "text", "value", "error", "fixed"] ["script"] (defScope s_law) := ⟨rfl, rfl, rfl, by decide +kernel, rfl, by decide +kernel, by decide +kernel⟩
def spLaw (K : PySem.W.Frag) : Sp := fun vs H Q _ => ∃ (a : Addr) (ns : List Int), vs = [.ref a] ∧ Ints K H a ns ∧ ns.length ≤ 63 ∧ ∀ H', Q (.bl true) H'
/-- printed, parse, Tree: of what they take -/
def spPrintedG (K : PySem.W.Frag) (C : Addr) : Sp := fun vs H Q _ => ∃ (v : V) (L : List Str), vs = [v] ∧ (contentOf L).length ≤ 90000 ∧ (∀ H' : Hp, Same H H' → Q (.str (contentOf L)) H') ∧
  ((∃ (a : Addr) (fs : Fs), v = .ref a ∧ TreeAt C H a fs ∧ (∀ q ∈ fs, q.2.length ≤ 1000) ∧ L = treeL fs) ∨ ∃ d, Dp K H v d ∧ YOk d ∧ ((smallE d = true ∧ L = editL d) ∨ (smallE d = false ∧ pkgY d = true ∧ L = pkgL d)))
def ResAt (C : Addr) (H : Hp) (v : V) : Res → Prop
  | .tree fs => ∃ a, v = .ref a ∧ TreeAt C H a fs
  | .edit es => Rep H (editD es) v
  | .pkg p => Rep H (pkgD p) v
  | .bad => False
def NotBad : Res → Prop
  | .bad => False
  | _ => True
def spParseG (_ : PySem.W.Frag) (C : Addr) : Sp := fun vs H Q _ => ∃ (t : Str) (R : Res), vs = [.str t] ∧ t.length ≤ 90000 ∧ okS t ∧ parseP t = .res R ∧ NotBad R ∧ ∀ (v : V) (H' : Hp), Same H H' → ResAt C H' v R → Q v H'
def spInitF (_ : PySem.W.Frag) (C : Addr) : Sp := fun vs H Q _ => ∃ (x dx : Addr) (v : V) (fs : Fs), vs = [.ref x, v] ∧ H x = some (.ins C dx []) ∧ Rep H (filesD fs) v ∧ FOk fs ∧ Asc (fs.map (·.1)) ∧ ∀ H' : Hp, (∀ b o, b ≠ x → H b = some o → H' b = some o) → TreeAt C H' x fs → Q .non H'
section
variable {P : Program} {w : World} {K : PySem.W.Frag} {mg : Str → Option Value} {base : Heap} {C CV CS : Addr}
theorem ok_printedG {f : Addr} {fd : FuncData} (F : FnOk P w K mg base (L2N.CX P w) 6 f fd ["value"] (spPrinted K C CV)) : FnOk P w K mg base CX0 6 f fd ["value"] (spPrintedG K C) :=
  fn_calm F fun vs H Q E ⟨v, L, e, hl, k, h⟩ => ⟨v, e, by
    rcases h with ⟨a, fs, ea, ha, hc, rfl⟩ | ⟨d, hd, yo, ⟨h1, rfl⟩ | ⟨h1, h2, rfl⟩⟩
    · exact .inl ⟨a, fs, ea, ha, hc, hl, k⟩
    · refine .inr ⟨d, hd, yo, fun _ => ⟨hl, k⟩, fun z => ?_, fun z => ?_⟩ <;> (rw [h1] at z; cases z)
    · refine .inr ⟨d, hd, yo, fun z => ?_, fun _ _ => ⟨hl, k⟩, fun _ z => ?_⟩
      · rw [h1] at z
        cases z
      · rw [h2] at z
        cases z⟩
theorem ok_parseG {f : Addr} {fd : FuncData} (F : FnOk P w K mg base (L2N.CX P w) 8 f fd ["text"] (spParse K C CV CS)) : FnOk P w K mg base CX0 8 f fd ["text"] (spParseG K C) :=
  fn_calm F fun vs H Q E ⟨t, R, e, hl, ho, hp, hb, k⟩ => ⟨.str t, e, .inr ⟨t, rfl, hl, ho, by
    rw [hp]
    refine ⟨fun n z => ?_, fun fs z a H' s ta => ?_, fun es z v H' s r => ?_, fun p z v H' s r => ?_, fun z => ?_⟩
    · cases z
    · cases z
      exact k _ H' s ⟨a, rfl, ta⟩
    · cases z
      exact k v H' s r
    · cases z
      exact k v H' s r
    · cases z
      exact hb.elim⟩⟩
theorem ok_initF {f : Addr} {fd : FuncData} (F : FnOk P w K mg base (L2N.CX P w) 5 f fd ["self", "files"] (spInitY K C CV)) : FnOk P w K mg base CX0 5 f fd ["self", "files"] (spInitF K C) :=
  fn_calm F fun vs H Q E ⟨x, dx, v, fs, e, hx, hv, ok, asc, k⟩ => ⟨x, dx, v, py (filesD fs), e, hx, Rep.dp hv, fs_yok ok, fun _ H' s t => k H' s (by
    have e : fsY (py (filesD fs)) = fs := by
      show (pys (fs.map pairD)).map (fun p => (nameY p, conY p)) = fs
      rw [pys_eq, List.map_map, List.map_map]
      exact List.map_id fs
    rw [e] at t
    exact t), fun z => by
      rw [files_yes ok asc (d := py (filesD fs)) (ds := pys (fs.map pairD)) rfl (by rw [pys_eq, List.map_map]; rfl)] at z
      cases z⟩
theorem mk_leafF {H1 : Hp} {R : Addr → Hp → Prop} {v : V} {fs : Fs} (hr : Rep H1 (filesD fs) v) (ok : FOk fs) (asc : Asc (fs.map (·.1))) (k : ∀ (a : Addr) (H' : Hp), Same H1 H' → TreeAt C H' a fs → R a H') :
    ∀ x dx, H1 x = none → H1 dx = none → dx ≠ x → spInitF K C [.ref x, v] (upd (upd H1 dx (.own x)) x (.ins C dx [])) (fun v H2 => v = .non ∧ R x H2) C8.E0 := by
  intro x dx hx hd ne
  have s1 : Same H1 (upd (upd H1 dx (.own x)) x (.ins C dx [])) := fun b o e => by
    rw [upd_ne (ne_of_none e hx), upd_ne (ne_of_none e hd)]
    exact e
  exact ⟨x, dx, v, fs, rfl, upd_same, hr.keep (Same.tk s1), ok, asc, fun H' s tr => ⟨rfl, k x H' (fun b o e => s b o (ne_of_none e hx) (s1 b o e)) tr⟩⟩
/-- all that the law calls -/
structure LawC (P : Program) (w : World) (K : PySem.W.Frag) (mg : Str → Option Value) (base : Heap) (C : Addr) : Prop where
  tq : TreeQ P w K mg base C
  c_l_numbers : C8.Cal P w K mg base 1 "_law_numbers" (spNum K) []
  c_l_take : C8.Cal P w K mg base 2 "_law_take" (spTk K) []
  c_l_text : C8.Cal P w K mg base 3 "_law_text" (spText K) []
  c_l_tree : C8.Cal P w K mg base 8 "_law_tree" (spTree K) []
  c_l_edit : C8.Cal P w K mg base 7 "_law_edit" (spEdit K) []
  c_l_loose : C8.Cal P w K mg base 5 "_law_loose" (spLoose K 5) []
  c_l_so : C8.Cal P w K mg base 5 "_law_so" (spSo 5) []
  c_l_trows : C8.Cal P w K mg base 2 "_law_tree_rows" (spTreeRows K) []
  c_l_erows : C8.Cal P w K mg base 2 "_law_edit_rows" (spEditRows K) []
  c_l_prows : C8.Cal P w K mg base 2 "_law_package_rows" (spPkgRows K) []
  c_l_ltext : C8.Cal P w K mg base 1 "_law_text_of" (spTextOf K) []
  c_l_fault : C8.Cal P w K mg base 9 "_law_parse_fault" (spFault K) []
  c_printed : C8.Cal P w K mg base 6 "printed" (spPrintedG K C) []
  c_parse : C8.Cal P w K mg base 8 "parse" (spParseG K C) []
  mk_Tree : C8.Mak P w K mg base 5 "Tree" C (spInitF K C) []
end
end Kl

namespace Kl
open PySem L2 Kd
/-! steps of k25's law -/
/-- two[:j] -/
theorem cut_two {K : PySem.W.Frag} {u : Addr} {d1 d2 : D} {H : Hp} {Q : VK} {j : Int} (h : Rep H (.tup [d1, d2]) (.ref u)) (h0 : 0 ≤ j) (h2 : j < 3) (k : ∀ (v : V) (H' : Hp), Same H H' → Rep H' (.tup ([d1, d2].take j.toNat)) v → Q v H') : rSlA K (.ref u) none (some j) H Q := by
  obtain ⟨_, vs, e, hu, _, x, r, rfl, hx, y, r2, rfl, hy, hn⟩ := id h
  cases e
  cases (show r2 = [] from hn)
  have cases3 : j = 0 ∨ j = 1 ∨ j = 2 := by omega
  rcases cases3 with rfl | rfl | rfl
  · refine ⟨u, [x, y], rfl, .inl hu, fun z => absurd z (show ¬ (HT.sIx 2 0 none = 0 ∧ HT.sIx 2 2 (some 0) = 2) by decide), fun _ p hp => ?_⟩
    exact k (.ref p) _ (Same.new hp) ⟨p, [], rfl, .inl upd_same, (by show 0 ≤ sizeLine; decide), rfl⟩
  · refine ⟨u, [x, y], rfl, .inl hu, fun z => absurd z (show ¬ (HT.sIx 2 0 none = 0 ∧ HT.sIx 2 2 (some 1) = 2) by decide), fun _ p hp => ?_⟩
    exact k (.ref p) _ (Same.new hp) ⟨p, [x], rfl, .inl upd_same, (by show 1 ≤ sizeLine; decide), x, [], rfl, hx.keep (Tk.new hp), rfl⟩
  · refine ⟨u, [x, y], rfl, .inl hu, fun _ => k (.ref u) H (Same.refl H) h, fun z => absurd (show HT.sIx 2 0 none = 0 ∧ HT.sIx 2 2 (some 2) = 2 by decide) z⟩
theorem tup3 {H : Hp} {q : Addr} {n : Need3} (h : H q = some (.tup [.str n.1, .int n.2.1, .int n.2.2])) : Rep H (needD n) (.ref q) := ⟨q, _, rfl, .inl h, (by show 3 ≤ sizeLine; decide), _, _, rfl, rfl, _, _, rfl, rfl, _, _, rfl, rfl, rfl⟩
/-- a fault as data -/
abbrev faultD (tag : Str) (n : Int) : D := .tup [.str tag, .int n]
theorem fault_rep {H : Hp} {p : Addr} {tag : Str} {n : Int} (h : H p = some (.tup [.str tag, .int n])) : Rep H (faultD tag n) (.ref p) := ⟨p, _, rfl, .inl h, (by show 2 ≤ sizeLine; decide), _, _, rfl, rfl, _, _, rfl, rfl, rfl⟩
theorem fault_sh {tag : Str} {n : Int} (h : PyData.strOk tag = true) (l : tag.length ≤ 100000) : SeqAt.shaped (py (faultD tag n)) = true := YOk.shaped ⟨by
  show (decide (2 ≤ 100000) && ((decide (tag.length ≤ 100000) && PyData.strOk tag) && (true && true))) = true
  rw [h, decide_eq_true l]
  rfl, by
  show (PyData.tuple [.str tag, .int n]).depth ≤ 60
  simp [PyData.depth, PyData.depthAll]⟩
theorem sh_syn (n : Int) : SeqAt.shaped (py (faultD "syntax" n)) = true := fault_sh (by decide +kernel) (by decide +kernel)
theorem sh_val (n : Int) : SeqAt.shaped (py (faultD "value" n)) = true := fault_sh (by decide +kernel) (by decide +kernel)
theorem ne_fault {K : PySem.W.Frag} {H : Hp} {Q : VK} {x y : V} {tag : Str} {n : Int} (hs : SeqAt.shaped (py (faultD tag n)) = true) (h1 : Rep H (faultD tag n) x) (h2 : Rep H (faultD tag n) y) (q : Q (.bl false) H) : rNeD K x y H Q :=
  ⟨_, _, Rep.dp h1, Rep.dp h2, hs, hs, by
    rw [show PyData.eqv (py (faultD tag n)) (py (faultD tag n)) = true from SeqAt.eqv_refl _ (SeqAt.canLay_of_shaped hs)]
    exact q⟩
theorem eq_self {K : PySem.W.Frag} {H : Hp} {Q : VK} {x y : V} {d : D} (hs : SeqAt.shaped (py d) = true) (h1 : Rep H d x) (h2 : Rep H d y) (q : Q (.bl true) H) : rEqD K x y H Q :=
  ⟨_, _, Rep.dp h1, Rep.dp h2, hs, hs, by
    rw [show PyData.eqv (py d) (py d) = true from SeqAt.eqv_refl _ (SeqAt.canLay_of_shaped hs)]
    exact q⟩
/-- a case of the law: rows and what they tell -/
structure CaseV (C : Addr) (H : Hp) (v : V) (L : List Str) (R : Res) : Prop where
  ex : ∃ (t q : Addr) (x : V), v = .ref t ∧ H t = some (.tup [.ref q, x]) ∧ Strs H q L ∧ ResAt C H x R
theorem ResAt.same {C : Addr} {H H' : Hp} {v : V} {R : Res} (s : Same H H') (h : ResAt C H v R) : ResAt C H' v R := by
  cases R with
  | tree fs => exact h.imp fun a z => ⟨z.1, z.2.same s⟩
  | edit es => exact Rep.keep (Same.tk s) h
  | pkg p => exact Rep.keep (Same.tk s) h
  | bad => exact h
theorem CaseV.same {C : Addr} {H H' : Hp} {v : V} {L : List Str} {R : Res} (s : Same H H') (h : CaseV C H v L R) : CaseV C H' v L R := by
  obtain ⟨t, q, x, e, h1, h2, h3⟩ := h.ex
  exact ⟨t, q, x, e, s _ _ h1, s _ _ h2, h3.same s⟩
/-- what a case's value is for printed -/
structure Good3 (L : List Str) (R : Res) : Prop where
  told : Told L R
  data : match R with
    | .tree fs => FOk fs ∧ Asc (fs.map (·.1)) ∧ L = treeL fs
    | .edit es => EOk es ∧ smallE (py (editD es)) = true ∧ YOk (py (editD es)) ∧ L = editL (py (editD es))
    | .pkg p => smallE (py (pkgD p)) = false ∧ pkgY (py (pkgD p)) = true ∧ YOk (py (pkgD p)) ∧ L = pkgL (py (pkgD p))
    | .bad => False
theorem te_lst {t : TA} {σ : L2.St} {H : Hp} {Q : VK} (h : t σ H fun vs H1 => vs.length ≤ sizeLine ∧ ∀ p, H1 p = none → Q (.ref p) (upd H1 p (.lst vs))) : tLst t σ H Q := h
/-- what stands from the cases on -/
structure Fa (K : PySem.W.Frag) (C p b : Addr) (row : List Int) (fv : V) (fs : Fs) (ev : V) (es : Es) (pv : V) (pkg : Pkg) (cl : Addr) (xs : List V) (H : Hp) : Prop where
  sp : Sp0 K p b row H
  hf : Rep H (filesD fs) fv
  he : Rep H (editD es) ev
  hp : Rep H (pkgD pkg) pv
  hc : H cl = some (.lst xs)
  c3 : Paired (fun v LR => CaseV C H v LR.1 LR.2) xs [(treeL fs, .tree fs), (editLw es, .edit es), (pkgLw pkg, .pkg pkg)]
theorem Fa.same {K : PySem.W.Frag} {C p b : Addr} {row : List Int} {fv : V} {fs : Fs} {ev : V} {es : Es} {pv : V} {pkg : Pkg} {cl : Addr} {xs : List V} {H H' : Hp} (s : Same H H') (h : Fa K C p b row fv fs ev es pv pkg cl xs H) : Fa K C p b row fv fs ev es pv pkg cl xs H' :=
  ⟨h.sp.go (Go.same h.sp.cell s), h.hf.keep (Same.tk s), h.he.keep (Same.tk s), h.hp.keep (Same.tk s), s _ _ h.hc, h.c3.mono fun _ _ z => z.same s⟩
theorem ResAt.go {C b : Addr} {H H' : Hp} {v : V} {R : Res} (c : Cell H b) (g : Go b H H') (h : ResAt C H v R) : ResAt C H' v R := by
  cases R with
  | tree fs => exact h.imp fun a z => ⟨z.1, z.2.go c g⟩
  | edit es => exact Rep.go c g h
  | pkg p => exact Rep.go c g h
  | bad => exact h
theorem CaseV.go {C b : Addr} {H H' : Hp} {v : V} {L : List Str} {R : Res} (c : Cell H b) (g : Go b H H') (h : CaseV C H v L R) : CaseV C H' v L R := by
  obtain ⟨t, q, x, e, h1, h2, h3⟩ := h.ex
  refine ⟨t, q, x, e, g.keep _ _ (fun z => ?_) h1, h2.go c g, h3.go c g⟩
  obtain ⟨i, _, hb⟩ := c
  rw [z, hb] at h1
  cases h1
theorem Fa.go {K : PySem.W.Frag} {C p b : Addr} {row : List Int} {fv : V} {fs : Fs} {ev : V} {es : Es} {pv : V} {pkg : Pkg} {cl : Addr} {x y z : V} {H H' : Hp} (g : Go b H H') (h : Fa K C p b row fv fs ev es pv pkg cl [x, y, z] H) : Fa K C p b row fv fs ev es pv pkg cl [x, y, z] H' :=
  ⟨h.sp.go g, Rep.go h.sp.cell g h.hf, Rep.go h.sp.cell g h.he, Rep.go h.sp.cell g h.hp, g.keep _ _ (fun e => by
    have hc := h.hc
    obtain ⟨i, _, hb⟩ := h.sp.cell
    rw [e, hb] at hc
    cases hc) h.hc, h.c3.mono fun _ _ q => q.go h.sp.cell g⟩
theorem paired_get {α : Type} {R : V → α → Prop} : ∀ {as : List V} {bs : List α} {i : Nat} {a : V}, Paired R as bs → as[i]? = some a → ∃ b ∈ bs, R a b
  | _, _, _, _, .nil, h => by simp at h
  | _, _, 0, _, .cons r _, h => by
    cases h
    exact ⟨_, List.mem_cons_self .., r⟩
  | _, _, i + 1, _, .cons _ t, h => by
    obtain ⟨b, hb, r⟩ := paired_get (i := i) t h
    exact ⟨b, List.mem_cons_of_mem _ hb, r⟩
theorem printed_of {K : PySem.W.Frag} {C : Addr} {H : Hp} {v : V} {L : List Str} {R : Res} (g : Good3 L R) (h : ResAt C H v R) :
    (∃ (a : Addr) (fs : Fs), v = .ref a ∧ TreeAt C H a fs ∧ (∀ q ∈ fs, q.2.length ≤ 1000) ∧ L = treeL fs) ∨ ∃ d, Dp K H v d ∧ YOk d ∧ ((smallE d = true ∧ L = editL d) ∨ (smallE d = false ∧ pkgY d = true ∧ L = pkgL d)) := by
  have d := g.data
  cases R with
  | tree fs =>
    obtain ⟨a, e, t⟩ := h
    exact .inl ⟨a, fs, e, t, fun q hq => (d.1.ct q hq).len, d.2.2⟩
  | edit es => exact .inr ⟨_, Rep.dp (show Rep H (editD es) v from h), d.2.2.1, .inl ⟨d.2.1, d.2.2.2⟩⟩
  | pkg p => exact .inr ⟨_, Rep.dp (show Rep H (pkgD p) v from h), d.2.2.1, .inr ⟨d.1, d.2.1, d.2.2.2⟩⟩
  | bad => exact d.elim
theorem good_nb {L : List Str} {R : Res} (g : Good3 L R) : NotBad R := by
  have d := g.data
  cases R with
  | bad => exact d
  | tree _ => trivial
  | edit _ => trivial
  | pkg _ => trivial
theorem same_of {K : PySem.W.Frag} {mg : Str → Option Value} {C : Addr} {H : Hp} {Q : VK} {x y : V} {L : List Str} {R : Res} (F : TreeF K mg C) (g : Good3 L R) (h1 : ResAt C H x R) (h2 : ResAt C H y R) (q : Q (.bl true) H) : Ks.rOwnI K C (spTEq K C) C8.E0 x y H Q ∨ rEqD K x y H Q := by
  have d := g.data
  cases R with
  | tree fs =>
    obtain ⟨a, rfl, t⟩ := h1
    obtain ⟨b, rfl, u⟩ := h2
    have pok := (d.1.good d.2.1).ok
    exact .inl (eq_tree F t pok u pok (by rw [decide_eq_true rfl]; exact q))
  | edit es => exact .inr (eq_self (YOk.shaped d.2.2.1) h1 h2 q)
  | pkg p => exact .inr (eq_self (YOk.shaped d.2.2.1) h1 h2 q)
  | bad => exact d.elim
theorem dep_editY (es : Es) : Kd.D.dep (editD es) ≤ 2 := by
  have h : Kd.D.deps (es.map changeD) ≤ 1 := by
    induction es with
    | nil => exact Nat.zero_le _
    | cons q r ih =>
      obtain ⟨p, o⟩ := q
      cases o with
      | none =>
        have e : Kd.D.deps (((p, none) :: r : Es).map changeD) = max (max 0 (max 0 0) + 1) (Kd.D.deps (r.map changeD)) := rfl
        omega
      | some c =>
        have e : Kd.D.deps (((p, some c) :: r : Es).map changeD) = max (max 0 (max 0 (max 0 0)) + 1) (Kd.D.deps (r.map changeD)) := rfl
        omega
  show Kd.D.deps (es.map changeD) + 1 ≤ 2
  omega
theorem paired3 {α : Type} {R : V → α → Prop} {a b c : V} {x y z : α} (h : Paired R [a, b, c] [x, y, z]) : R a x ∧ R b y ∧ R c z := by
  cases h with
  | cons r1 t =>
    cases t with
    | cons r2 t =>
      cases t with
      | cons r3 t => exact ⟨r1, r2, r3⟩
theorem dep_pkg (p : Pkg) : Kd.D.dep (pkgD p) ≤ 3 := by
  have h : ∀ ns : List Need3, Kd.D.deps (ns.map needD) ≤ 1 := fun ns => by
    induction ns with
    | nil => exact Nat.zero_le _
    | cons q r ih =>
      have e : Kd.D.deps ((q :: r).map needD) = max (max 0 (max 0 (max 0 0)) + 1) (Kd.D.deps (r.map needD)) := rfl
      omega
  have e : Kd.D.dep (pkgD p) = max 0 (max 0 (max (Kd.D.deps (p.2.2.1.map needD) + 1) (max 0 0))) + 1 := rfl
  have := h p.2.2.1
  omega
/-! displays of (text, fault) -/
def FixAt (H : Hp) (v : V) (c : Str × Str × Int) : Prop := ∃ t q : Addr, v = .ref t ∧ H t = some (.tup [.str c.1, .ref q]) ∧ H q = some (.tup [.str c.2.1, .int c.2.2])
theorem FixAt.same {H H' : Hp} {v : V} {c : Str × Str × Int} (s : Same H H') (h : FixAt H v c) : FixAt H' v c := by
  obtain ⟨t, q, e, h1, h2⟩ := h
  exact ⟨t, q, e, s _ _ h1, s _ _ h2⟩
theorem ta_fix {te : TE} {x tag : Str} {n : Int} {ts : TA} {σ : L2.St} {H : Hp} {Q : List V → Hp → Prop} (hx : ∀ (H : Hp) (Q : VK), Q (.str x) H → te σ H Q) (k : ∀ (v : V) (H' : Hp), Same H H' → FixAt H' v (x, tag, n) → ts σ H' fun vs H2 => Q (v :: vs) H2) :
    tCons (tTup (tCons te (tCons (tTup (tCons (tC (.str tag)) (tCons (tC (.int n)) tNil))) tNil))) ts σ H Q := by
  refine ta_cons <| te_tup <| ta_cons <| hx _ _ <| ta_cons <| te_tup <| ta_cons <| te_c <| ta_cons <| te_c <| ta_nil ⟨(by show 2 ≤ sizeLine; decide), fun q hq => ta_nil ⟨(by show 2 ≤ sizeLine; decide), fun t ht => ?_⟩⟩
  refine k (.ref t) _ (fun b o z => Same.new ht _ _ (Same.new hq _ _ z)) ⟨t, q, rfl, upd_same, Same.new ht _ _ upd_same⟩
structure CaseOk (c : Str × Str × Int) : Prop where
  ok : okS c.1
  len : c.1.length ≤ 90000
  chk : (∃ m : Nat, parseP c.1 = .syn m ∧ c.2.1 = "syntax" ∧ c.2.2 = (m : Int)) ∨ (parseP c.1 = .res .bad ∧ c.2.1 = "value" ∧ c.2.2 = 1)
theorem case_fixed {c : Str × Str × Int} (h : c ∈ fixedT) : CaseOk c := ⟨okS_of (fixed_ok c h).2.1, (fixed_ok c h).2.2, chk_of (fixed_ok c h).1⟩
theorem case_long : CaseOk (longT, "value", 1) := ⟨long_ok, long_len, .inr ⟨long_bad, rfl, rfl⟩⟩
theorem case_all {cs : List (Str × Str × Int)} (h : ∀ c ∈ cs, c ∈ fixedT) : ∀ c ∈ cs, CaseOk c := fun c hc => case_fixed (h c hc)
/-- a list of such cases, one after the other made -/
structure FixL (b : Addr) (H0 H : Hp) (v : V) (L : List (Str × Str × Int)) : Prop where
  same : Same H0 H
  few : 2 ≤ L.length ∧ L.length ≤ 100
  all : ∀ c ∈ L, CaseOk c
  ex : ∃ (p : Addr) (vs : List V), v = .ref p ∧ H p = some (.lst vs) ∧ Paired (FixAt H) vs L
theorem FixL.go {b : Addr} {H0 H H' : Hp} {v : V} {L : List (Str × Str × Int)} (s : Same H H') (h : FixL b H0 H v L) : FixL b H0 H' v L := by
  obtain ⟨p, vs, e, h1, h2⟩ := h.ex
  exact ⟨fun b o z => s b o (h.same b o z), h.few, h.all, p, vs, e, s _ _ h1, h2.mono fun _ _ z => z.same s⟩
theorem fix_lst {b : Addr} {H0 G : Hp} {vs : List V} {L : List (Str × Str × Int)} {Q : VK} (s : Same H0 G) (h : Paired (FixAt G) vs L) (few : 1 ≤ L.length ∧ L.length ≤ 100) (k : ∀ (p : Addr) (H' : Hp), Same G H' → H' p = some (.lst vs) → Paired (FixAt H') vs L → Q (.ref p) H') :
    vs.length ≤ sizeLine ∧ ∀ p, G p = none → Q (.ref p) (upd G p (.lst vs)) := by
  have l := h.length
  refine ⟨small_of (by omega), fun p hp => k p _ (Same.new hp) upd_same (h.mono fun _ _ z => z.same (Same.new hp))⟩
theorem paired_app {α : Type} {R : V → α → Prop} : ∀ {as cs : List V} {bs ds : List α}, Paired R as bs → Paired R cs ds → Paired R (as ++ cs) (bs ++ ds)
  | _, _, _, _, .nil, h => h
  | _, _, _, _, .cons r t, h => .cons r (paired_app t h)
theorem fix_cat {b : Addr} {H0 H : Hp} {l0 : V} {p : Addr} {vs : List V} {L0 L1 : List (Str × Str × Int)} {Q : VK} (h0 : FixL b H0 H l0 L0) (h1 : H p = some (.lst vs)) (h2 : Paired (FixAt H) vs L1) (few : L0.length + L1.length ≤ 100) (all : ∀ c ∈ L1, CaseOk c)
    (k : ∀ (v : V) (H' : Hp), FixL b H0 H' v (L0 ++ L1) → Q v H') : rCat l0 (.ref p) H Q := by
  obtain ⟨q, ws, rfl, e1, e2⟩ := h0.ex
  have l0 := e2.length
  have l1 := h2.length
  refine ⟨q, p, ws, vs, rfl, rfl, e1, h1, small_of (by omega), fun r hr => k _ _ ⟨fun b o z => Same.new hr _ _ (h0.same _ _ z), ⟨by rw [List.length_append]; have := h0.few.1; omega, by rw [List.length_append]; exact few⟩, fun c hc => (List.mem_append.mp hc).elim (h0.all c) (all c), r, _, rfl, upd_same, (paired_app e2 h2).mono fun _ _ z => z.same (Same.new hr)⟩⟩
end Kl

namespace Kl
open PySem L2 Kd Kx
section
variable {P : Program} {w : World} {K : PySem.W.Frag} {mg : Str → Option Value} {base : Heap} {C CV CS : Addr}
theorem ok_law {f fV fp fS : Addr} {fd fdp fdS : FuncData} (F : Fun K "law" "law" s_law f fd) (T : Glo mg) (L : LawC P w K mg base C) (eV : Err K mg "BadValue" CV fV) (nV : PySem.W.findIn K (.ref CV) "at" = some none) (xh : PySem.W.exmOne K (.ref CV) (.ref CV) = some true)
    (PA : At K mg "printed" s_printed ["value"] fp fdp) (GP : FnOk P w K mg base (L2N.CX P w) 6 fp fdp ["value"] (spPrinted K C CV)) (SO : At K mg "_law_so" sSo ["found", "meant"] fS fdS) (GH : L2H.FnH P w K mg base CX0 3 fS fdS ["found", "meant"] (spSo 3)) :
    FnOk P w K mg base CX0 10 f fd ["script"] (spLaw K) := by
  obtain ⟨tq, c_l_numbers, c_l_take, c_l_text, c_l_tree, c_l_edit, c_l_loose, c_l_so, c_l_trows, c_l_erows, c_l_prows, c_l_ltext, c_l_fault, c_printed, c_parse, mk_Tree⟩ := L
  refine F.ok sc_law (fun vs H Q E h => ?_) (fun cdv A outer s H vs Q E hr h => ?_)
  · obtain ⟨a, ns, rfl, _⟩ := h
    rfl
  · obtain ⟨a, ns, rfl, hS, hn, kend⟩ := h
    have hr3 : Room 3 _ := hr.mono (by decide)
    have hr6 : Room 6 _ := hr.mono (by decide)
    refine ⟨_, (pss_cons (ps_set (i := 1) sc_law.nd rfl (.inl rfl) (C8.pe_c c_l_numbers hr (by omega) (by rfl) (pa_cons (pv 0) pa_nil)))
      (pss_cons (ps_set (i := 2) sc_law.nd rfl (.inl rfl) (pe_lst (pa_cons pe_int pa_nil)))
      (pss_cons (ps_set (i := 3) sc_law.nd rfl (.inl rfl) (C8.pe_c c_l_tree hr (by omega) (by rfl) (pa_cons (pv 1) (pa_cons (pv 2) pa_nil))))
      (pss_cons (ps_set (i := 4) sc_law.nd rfl (.inl rfl) (C8.pe_c c_l_edit hr (by omega) (by rfl) (pa_cons (pv 1) (pa_cons (pv 2) (pa_cons (pv 3) pa_nil)))))
      (pss_cons (ps_set (i := 5) sc_law.nd rfl (.inl rfl) (pe_tup (pa_cons (pe_ix (r := rIxL K) ix_list (pe_lst (pa_strs (xs := ["core", "zip"]) rfl)) (C8.pe_c c_l_take hr (by omega) (by rfl) (pa_cons (pv 1) (pa_cons (pv 2) (pa_cons pe_int pa_nil)))) (fun _ _ => rfl)) (pa_cons (pe_op op_add pe_int (C8.pe_c c_l_take hr (by omega) (by rfl) (pa_cons (pv 1) (pa_cons (pv 2) (pa_cons pe_int pa_nil))))) (pa_cons (pe_slice sl_tupA (pe_tup (pa_cons (pe_tup (pa_cons pe_str (pa_cons pe_int (pa_cons pe_int pa_nil)))) (pa_cons (pe_tup (pa_cons pe_str (pa_cons pe_int (pa_cons pe_int pa_nil)))) pa_nil))) po_none (po_some (C8.pe_c c_l_take hr (by omega) (by rfl) (pa_cons (pv 1) (pa_cons (pv 2) (pa_cons pe_int pa_nil)))))) (pa_cons (C8.pe_c c_l_text hr (by omega) (by rfl) (pa_cons (pv 1) (pa_cons (pv 2) pa_nil))) pa_nil))))))
      (pss_cons (ps_set (i := 6) sc_law.nd rfl (.inl rfl) (pe_lst (pa_cons (pe_tup (pa_cons (C8.pe_c c_l_trows hr (by omega) (by rfl) (pa_cons (pv 3) pa_nil)) (pa_cons (C8.pe_mk mk_Tree hr (by omega) (by rfl) (pa_cons (pv 3) pa_nil)) pa_nil))) (pa_cons (pe_tup (pa_cons (C8.pe_c c_l_erows hr (by omega) (by rfl) (pa_cons (pv 4) pa_nil)) (pa_cons (pv 4) pa_nil))) (pa_cons (pe_tup (pa_cons (C8.pe_c c_l_prows hr (by omega) (by rfl) (pa_cons (pv 5) pa_nil)) (pa_cons (pv 5) pa_nil))) pa_nil)))))
      (pss_cons (ps_for PassesOwn.never rfl (pi_list (pv 6)) (pg_name (i := 7) sc_law.nd rfl (.inl rfl))
      (pss_cons (ps_set (i := 8) sc_law.nd rfl (.inl rfl) (C8.pe_c c_l_ltext hr (by omega) (by rfl) (pa_cons (pe_ix (r := rIxT K) ix_tup (pv 7) pe_int (fun _ _ => rfl)) pa_nil)))
        (pss_cons (ps_set (i := 9) sc_law.nd rfl (.inl rfl) (pe_ix (r := rIxT K) ix_tup (pv 7) pe_int (fun _ _ => rfl)))
        (C8.pss_cut (ps_if (PW.pt (pw_or (pt_not (pt_val (C8.pe_c c_l_so hr (by omega) (by rfl) (pa_cons (C8.pe_c c_printed hr (by omega) (by rfl) (pa_cons (pv 9) pa_nil)) (pa_cons (pv 8) pa_nil))))) (pw_or1 (pt_not (pt_cmpR (Ks.op_either (op_teq tq hr (by omega)) (op_eqD hr.units)) (C8.pe_c c_parse hr (by omega) (by rfl) (pa_cons (pv 8) pa_nil)) (pv 9) (nomark _))))))
        (pss_one ps_never)
        pss_nil)
        (pss_one (ps_if (PW.pt (pw_or (pt_cmpR (r := rNeD K) (op_neD hr.units) (C8.pe_c c_l_fault hr (by omega) (by rfl) (pa_cons (pe_slice C8.sl_txt (pv 8) po_none (po_some (pe_un un_neg pe_int))) pa_nil)) (pe_tup (pa_cons pe_str (pa_cons (pe_op op_sub (pe_callB call_len_seq (by rfl) T.len PySem.boot_len (pa_cons (pe_ix (r := rIxT K) ix_tup (pv 7) pe_int (fun _ _ => rfl)) pa_nil)) pe_int) pa_nil))) (nomark _)) (pw_or1 (pt_cmpR (r := rNeD K) (op_neD hr.units) (C8.pe_c c_l_fault hr (by omega) (by rfl) (pa_cons (pe_op op_add_str (pv 8) pe_str) pa_nil)) (pe_tup (pa_cons pe_str (pa_cons (pe_callB call_len_seq (by rfl) T.len PySem.boot_len (pa_cons (pe_ix (r := rIxT K) ix_tup (pv 7) pe_int (fun _ _ => rfl)) pa_nil)) pa_nil))) (nomark _)))))
        (pss_one ps_never)
        pss_nil))))))
      (C8.pss_cut (ps_if (PW.pt (pw_or (pt_not (pt_val (C8.pe_c c_l_so hr (by omega) (by rfl) (pa_cons (C8.pe_c c_printed hr (by omega) (by rfl) (pa_cons (C8.pe_c c_l_loose hr (by omega) (by rfl) (pa_cons (pv 4) (pa_cons pe_int pa_nil))) pa_nil)) (pa_cons (C8.pe_c c_l_ltext hr (by omega) (by rfl) (pa_cons (pe_ix (r := rIxT K) ix_tup (pe_ix (r := rIxL K) ix_list (pv 6) pe_int (fun _ _ => rfl)) pe_int (fun _ _ => rfl)) pa_nil)) pa_nil))))) (pw_or1 (pt_not (pt_val (C8.pe_c c_l_so hr (by omega) (by rfl) (pa_cons (C8.pe_c c_parse hr (by omega) (by rfl) (pa_cons (C8.pe_c c_l_ltext hr (by omega) (by rfl) (pa_cons (pe_ix (r := rIxT K) ix_tup (pe_ix (r := rIxL K) ix_list (pv 6) pe_int (fun _ _ => rfl)) pe_int (fun _ _ => rfl)) pa_nil)) pa_nil)) (pa_cons (pv 5) pa_nil))))))))
      (pss_one ps_never)
      pss_nil)
      (pss_cons (L2N.ps_try_as (i := 10) rfl rfl sc_law.nd rfl rfl ⟨rfl, by decide, .inl eV.mc⟩ takes_no (fun W pn xe tk _ => pss_cons (ps_expr (pe_callS GP hr6 (by rfl) PA.mf PA.fn.kp PA.bd (fun σ => L2N.passAt tk σ) (pa_cons (pe_ix (r := rIxL K) ix_list (pe_lst (pa_cons pe_non (pa_cons pe_int (pa_cons (pv 3) (pa_cons pe_str (pa_cons (pe_tup (pa_cons (pe_tup (pa_strs (xs := ["put", "A", ""]) rfl)) pa_nil)) (pa_cons (pe_tup (pa_cons pe_str (pa_cons pe_int (pa_cons (pe_tup pa_nil) (pa_cons pe_str pa_nil))))) pa_nil))))))) (C8.pe_c c_l_take hr (by omega) (by rfl) (pa_cons (pv 1) (pa_cons (pv 2) (pa_cons pe_int pa_nil)))) (fun _ _ => rfl)) pa_nil))) (pss_one (ps_ret pe_bl)))
        (fun a oe cls d pn hz hf => have hot := hot_suite hz hf
          pss_one (ps_if (pt_not (pt_val (L2H.pe_callH GH (L2H.roomH_mark hr3 _) hot (by rfl) SO.mf SO.fn.kp SO.bd (pass_at (E := fun _ => E0)) (pa_cons (pe_get hz.zc hf (pv 10)) (pa_cons pe_int pa_nil))))) (pss_one (ps_ret pe_bl)) pss_nil)))
      (C8.pss_cut (ps_if (PW.pt (pw_or (pt_cmpR (r := rNeD K) (op_neD hr.units) (C8.pe_c c_l_fault hr (by omega) (by rfl) (pa_cons (pe_ix (r := rIxL K) ix_list (pe_lst (pa_cons pe_non (pa_cons pe_int (pa_cons (pe_tup (pa_strs (xs := ["a"]) rfl)) pa_nil)))) (C8.pe_c c_l_take hr (by omega) (by rfl) (pa_cons (pv 1) (pa_cons (pv 2) (pa_cons pe_int pa_nil)))) (fun _ _ => rfl)) pa_nil)) (pe_tup (pa_cons pe_str (pa_cons pe_int pa_nil))) (nomark _)) (pw_or1 (pt_cmpR (r := rNeD K) (op_neD hr.units) (C8.pe_c c_l_fault hr (by omega) (by rfl) (pa_cons pe_str pa_nil)) (pe_tup (pa_cons pe_str (pa_cons pe_int pa_nil))) (nomark _)))))
      (pss_one ps_never)
      pss_nil)
      (pss_cons (ps_set (i := 11) sc_law.nd rfl (.inl rfl) (pe_lst (pa_cons (pe_tup (pa_cons pe_str (pa_cons (pe_tup (pa_cons pe_str (pa_cons pe_int pa_nil))) pa_nil))) (pa_cons (pe_tup (pa_cons pe_str (pa_cons (pe_tup (pa_cons pe_str (pa_cons pe_int pa_nil))) pa_nil))) (pa_cons (pe_tup (pa_cons pe_str (pa_cons (pe_tup (pa_cons pe_str (pa_cons pe_int pa_nil))) pa_nil))) (pa_cons (pe_tup (pa_cons pe_str (pa_cons (pe_tup (pa_cons pe_str (pa_cons pe_int pa_nil))) pa_nil))) pa_nil))))))
      (pss_cons (ps_set (i := 11) sc_law.nd rfl (.inl rfl) (pe_op op_cat (pv 11) (pe_lst (pa_cons (pe_tup (pa_cons pe_str (pa_cons (pe_tup (pa_cons pe_str (pa_cons pe_int pa_nil))) pa_nil))) (pa_cons (pe_tup (pa_cons pe_str (pa_cons (pe_tup (pa_cons pe_str (pa_cons pe_int pa_nil))) pa_nil))) pa_nil)))))
      (pss_cons (ps_set (i := 11) sc_law.nd rfl (.inl rfl) (pe_op op_cat (pv 11) (pe_lst (pa_cons (pe_tup (pa_cons pe_str (pa_cons (pe_tup (pa_cons pe_str (pa_cons pe_int pa_nil))) pa_nil))) (pa_cons (pe_tup (pa_cons pe_str (pa_cons (pe_tup (pa_cons pe_str (pa_cons pe_int pa_nil))) pa_nil))) (pa_cons (pe_tup (pa_cons pe_str (pa_cons (pe_tup (pa_cons pe_str (pa_cons pe_int pa_nil))) pa_nil))) pa_nil))))))
      (pss_cons (ps_set (i := 11) sc_law.nd rfl (.inl rfl) (pe_op op_cat (pv 11) (pe_lst (pa_cons (pe_tup (pa_cons pe_str (pa_cons (pe_tup (pa_cons pe_str (pa_cons pe_int pa_nil))) pa_nil))) (pa_cons (pe_tup (pa_cons pe_str (pa_cons (pe_tup (pa_cons pe_str (pa_cons pe_int pa_nil))) pa_nil))) pa_nil)))))
      (pss_cons (ps_set (i := 11) sc_law.nd rfl (.inl rfl) (pe_op op_cat (pv 11) (pe_lst (pa_cons (pe_tup (pa_cons pe_str (pa_cons (pe_tup (pa_cons pe_str (pa_cons pe_int pa_nil))) pa_nil))) (pa_cons (pe_tup (pa_cons (pe_op op_add_str (pe_op op_add_str pe_str (pe_op Ks.op_mulS pe_str pe_int)) pe_str) (pa_cons (pe_tup (pa_cons pe_str (pa_cons pe_int pa_nil))) pa_nil))) (pa_cons (pe_tup (pa_cons pe_str (pa_cons (pe_tup (pa_cons pe_str (pa_cons pe_int pa_nil))) pa_nil))) pa_nil))))))
      (pss_cons (ps_set (i := 11) sc_law.nd rfl (.inl rfl) (pe_op op_cat (pv 11) (pe_lst (pa_cons (pe_tup (pa_cons pe_str (pa_cons (pe_tup (pa_cons pe_str (pa_cons pe_int pa_nil))) pa_nil))) (pa_cons (pe_tup (pa_cons pe_str (pa_cons (pe_tup (pa_cons pe_str (pa_cons pe_int pa_nil))) pa_nil))) pa_nil)))))
      (pss_cons (ps_set (i := 11) sc_law.nd rfl (.inl rfl) (pe_op op_cat (pv 11) (pe_lst (pa_cons (pe_tup (pa_cons pe_str (pa_cons (pe_tup (pa_cons pe_str (pa_cons pe_int pa_nil))) pa_nil))) (pa_cons (pe_tup (pa_cons pe_str (pa_cons (pe_tup (pa_cons pe_str (pa_cons pe_int pa_nil))) pa_nil))) (pa_cons (pe_tup (pa_cons pe_str (pa_cons (pe_tup (pa_cons pe_str (pa_cons pe_int pa_nil))) pa_nil))) pa_nil))))))
      (pss_cons (ps_set (i := 11) sc_law.nd rfl (.inl rfl) (pe_op op_cat (pv 11) (pe_lst (pa_cons (pe_tup (pa_cons pe_str (pa_cons (pe_tup (pa_cons pe_str (pa_cons pe_int pa_nil))) pa_nil))) pa_nil))))
      (pss_cons (ps_set (i := 11) sc_law.nd rfl (.inl rfl) (pe_op op_cat (pv 11) (pe_lst (pa_cons (pe_tup (pa_cons pe_str (pa_cons (pe_tup (pa_cons pe_str (pa_cons pe_int pa_nil))) pa_nil))) (pa_cons (pe_tup (pa_cons pe_str (pa_cons (pe_tup (pa_cons pe_str (pa_cons pe_int pa_nil))) pa_nil))) pa_nil)))))
      (pss_cons (ps_set (i := 7) sc_law.nd rfl (.inl rfl) (pe_ix (r := rIxL K) ix_list (pv 11) (C8.pe_c c_l_take hr (by omega) (by rfl) (pa_cons (pv 1) (pa_cons (pv 2) (pa_cons (pe_callB call_len_seq (by rfl) T.len PySem.boot_len (pa_cons (pv 11) pa_nil)) pa_nil)))) (fun _ _ => rfl)))
      (pss_one (ps_ret (pe_cmpR (r := rEqD K) (op_eqD hr.units) (C8.pe_c c_l_fault hr (by omega) (by rfl) (pa_cons (pe_ix (r := rIxT K) ix_tup (pv 7) pe_int (fun _ _ => rfl)) pa_nil)) (pe_ix (r := rIxT K) ix_tup (pv 7) pe_int (fun _ _ => rfl)) (nomark _)))))))))))))))))))))))), ?_⟩
    have TF := tq.tp.tf
    refine st_seq (st_asg (te_call (ta_cons (te_v rfl (ta_nil ⟨a, ns, rfl, hS, hn, fun p row H1 s1 hp hrow hpos => st_g ?_⟩)))))
    dsimp only
    clear hS
    refine st_seq (st_asg ?_)
    refine ⟨(by show 1 ≤ sizeLine; decide), fun b hb => st_g ?_⟩
    dsimp only
    have npb : p ≠ b := ne_of_none hrow hb
    have sp : Sp0 K p b row (upd H1 b (.lst [.int 0])) := ⟨SqL.of (by rw [upd_ne npb]; exact hrow), hpos, npb, 0, Int.le_refl _, upd_same⟩
    generalize upd H1 b (.lst [.int 0]) = H2 at sp ⊢
    clear hrow hb hp s1
    refine st_seq (st_asg (te_call (ta_cons (te_v rfl (ta_cons (te_v rfl (ta_nil ⟨p, b, row, rfl, sp, fun fv fs H3 g3 hf fok fasc fne => st_g ?_⟩)))))))
    dsimp only
    replace sp := sp.go g3
    clear g3
    refine st_seq <| st_asg <| te_call <| ta_cons <| te_v rfl <| ta_cons <| te_v rfl <| ta_cons <| te_v rfl <| ta_nil ⟨p, b, row, fv, fs, rfl, sp, hf, fok, fne, fun ev es H4 g4 he eok easc => st_g ?_⟩
    dsimp only
    replace hf := Rep.go sp.cell g4 hf
    replace sp := sp.go g4
    clear g4
    clear H3 H2 H1
    refine st_seq <| st_asg <| te_tup <| ta_cons ?_
    refine ⟨(by show 2 ≤ sizeLine; decide), fun l hl => ⟨_, rfl, _, rfl, p, b, row, 2, rfl, sp.go (sp.refl.new hl), by decide, fun d H5 g5 d0 d2 => ?_⟩⟩
    have g15 := sp.refl.new (o := .lst ([("core" : Str), "zip"].map V.str)) hl
    have hs5 : Strs H5 l [("core" : Str), "zip"] := Strs.go (H := upd H4 l (.lst ([("core" : Str), "zip"].map V.str))) upd_same g15.cell g5
    obtain ⟨nm, hnm, en⟩ := strs_at (xs := [("core" : Str), "zip"]) d0 d2
    refine ⟨l, _, d, _, rfl, rfl, SqL.of hs5, en, ?_⟩
    have g05 := g15.trans g5
    replace hf := Rep.go sp.cell g05 hf
    replace he := Rep.go sp.cell g05 he
    replace sp := sp.go g05
    clear g05 g15 hs5 en d0 d2 g5 hl
    refine ta_cons <| te_op <| te_c <| te_call <| ta_cons <| te_v rfl <| ta_cons <| te_v rfl <| ta_cons <| te_c <| ta_nil ⟨p, b, row, 9, rfl, sp, by decide, fun dv H6 g6 v0 v9 => ?_⟩
    replace hf := Rep.go sp.cell g6 hf
    replace he := Rep.go sp.cell g6 he
    replace sp := sp.go g6
    clear g6 H5 H4
    refine ⟨_, _, rfl, rfl, (by show 3 ≤ sizeLine; decide), fun q1 hq1 => ⟨(by show 3 ≤ sizeLine; decide), fun q2 hq2 => ⟨(by show 2 ≤ sizeLine; decide), fun u hu => ?_⟩⟩⟩
    have g1 := sp.refl.new (o := .tup [.str "a", .int 1, .int 9]) hq1
    have g2 := g1.new (o := .tup [.str "b", .int 2, .int 2]) hq2
    have g3 := g2.new (o := .tup [.ref q1, .ref q2]) hu
    have r1 : Rep (upd (upd (upd H6 q1 (.tup [.str "a", .int 1, .int 9])) q2 (.tup [.str "b", .int 2, .int 2])) u (.tup [.ref q1, .ref q2])) (.tup [needD ("a", 1, 9), needD ("b", 2, 2)]) (.ref u) :=
      ⟨u, _, rfl, .inl upd_same, (by show 2 ≤ sizeLine; decide), _, _, rfl, tup3 (Same.new hu _ _ (Same.new hq2 _ _ upd_same)), _, _, rfl, tup3 (Same.new hu _ _ upd_same), rfl⟩
    replace hf := Rep.go sp.cell g3 hf
    replace he := Rep.go sp.cell g3 he
    replace sp := sp.go g3
    clear g3 g2 g1
    generalize upd (upd (upd H6 q1 (.tup [.str "a", .int 1, .int 9])) q2 (.tup [.str "b", .int 2, .int 2])) u (.tup [.ref q1, .ref q2]) = H7 at r1 hf he sp ⊢
    refine ⟨_, rfl, _, rfl, p, b, row, 3, rfl, sp, by decide, fun j H8 g8 j0 j3 => ⟨j, rfl, ?_⟩⟩
    refine cut_two (Rep.go sp.cell g8 r1) j0 j3 fun vn H9 s9 rn => ?_
    have g9 := g8.trans (Go.same (sp.go g8).cell s9)
    replace hf := Rep.go sp.cell g9 hf
    replace he := Rep.go sp.cell g9 he
    replace sp := sp.go g9
    clear g9 s9 g8 r1
    refine ta_cons <| te_call <| ta_cons <| te_v rfl <| ta_cons <| te_v rfl <| ta_nil ⟨p, b, row, rfl, sp, fun tx HA gA htx => ta_nil ⟨(by show 4 ≤ sizeLine; decide), fun pk hpk => st_g ?_⟩⟩
    dsimp only
    replace hf := Rep.go sp.cell gA hf
    replace he := Rep.go sp.cell gA he
    replace rn := Rep.go sp.cell gA rn
    replace sp := sp.go gA
    have sA : Same HA (upd HA pk (.tup [.str nm, .int (1 + dv), vn, .str tx])) := Same.new hpk
    obtain ⟨ns', ens, mns⟩ : ∃ ns' : List Need3, [needD ("a", 1, 9), needD ("b", 2, 2)].take j.toNat = ns'.map needD ∧ ns' ∈ pkNeeds := by
      have c3 : j = 0 ∨ j = 1 ∨ j = 2 := by omega
      rcases c3 with rfl | rfl | rfl
      · exact ⟨[], rfl, by decide⟩
      · exact ⟨[("a", 1, 9)], rfl, by decide⟩
      · exact ⟨[("a", 1, 9), ("b", 2, 2)], rfl, by decide⟩
    rw [ens] at rn
    have rp : Rep (upd HA pk (.tup [.str nm, .int (1 + dv), vn, .str tx])) (pkgD (nm, 1 + dv, ns', tx)) (.ref pk) := ⟨pk, _, rfl, .inl upd_same, (by show 4 ≤ sizeLine; decide), _, _, rfl, rfl, _, _, rfl, rfl, _, _, rfl, rn.keep (Same.tk sA), _, _, rfl, rfl, rfl⟩
    have pok : PkOk (nm, 1 + dv, ns', tx) := ⟨hnm, by
      show (1 + dv) ∈ pkVers
      simp only [pkVers, List.mem_cons, List.not_mem_nil, or_false]
      omega, mns, ct_mem htx (by decide +kernel)⟩
    generalize hpp : ((nm, 1 + dv, ns', tx) : Pkg) = pkg at rp pok
    replace hf := hf.keep (Same.tk sA)
    replace he := he.keep (Same.tk sA)
    replace sp := sp.go (Go.same sp.cell sA)
    generalize upd HA pk (.tup [.str nm, .int (1 + dv), vn, .str tx]) = HB at sA rp hf he sp ⊢
    have tt := told_tree fok fasc
    have tE := told_edit eok easc
    have tP := told_pkg pok
    have pk9 := pk_facts3 pkg.2.2.1 pok.nd
    refine st_seq <| st_asg <| te_lst <| ta_cons <| te_tup <| ta_cons <| te_call <| ta_cons <| te_v rfl <| ta_nil ⟨fv, fs, rfl, hf, fun q hq => (fok.ct q hq).len, Nat.le_trans tt.len (by decide), fun r1 HC sC c1 => ?_⟩
    refine ta_cons <| te_make <| ta_cons <| te_v rfl <| ta_nil <| mk_leafF (hf.keep (Same.tk sC)) fok fasc fun tr HD sD dT => ta_nil ⟨(by show 2 ≤ sizeLine; decide), fun x1 hx1 => ?_⟩
    have sE : Same HB (upd HD x1 (.tup [.ref r1, .ref tr])) := fun b o z => Same.new hx1 _ _ (sD _ _ (sC _ _ z))
    have cv1 : CaseV C (upd HD x1 (.tup [.ref r1, .ref tr])) (.ref x1) (treeL fs) (.tree fs) := ⟨x1, r1, .ref tr, rfl, upd_same, Same.new hx1 _ _ (sD _ _ c1), tr, rfl, dT.same (Same.new hx1)⟩
    generalize upd HD x1 (.tup [.ref r1, .ref tr]) = HE at sE cv1 ⊢
    refine ta_cons <| te_tup <| ta_cons <| te_call <| ta_cons <| te_v rfl <| ta_nil ⟨ev, es, rfl, he.keep (Same.tk sE), fun q hq c hc => (eok.ct q hq c hc).len, Nat.le_trans tE.len (by decide), fun r2 HF sF c2 => ?_⟩
    refine ta_cons <| te_v rfl <| ta_nil ⟨(by show 2 ≤ sizeLine; decide), fun x2 hx2 => ?_⟩
    have sG : Same HE (upd HF x2 (.tup [.ref r2, ev])) := fun b o z => Same.new hx2 _ _ (sF _ _ z)
    have sBG : Same HB (upd HF x2 (.tup [.ref r2, ev])) := fun b o z => sG _ _ (sE _ _ z)
    have cv2 : CaseV C (upd HF x2 (.tup [.ref r2, ev])) (.ref x2) (editLw es) (.edit es) := ⟨x2, r2, ev, rfl, upd_same, Same.new hx2 _ _ c2, he.keep (Same.tk sBG)⟩
    replace cv1 := cv1.same sG
    generalize upd HF x2 (.tup [.ref r2, ev]) = HG at sBG cv1 cv2 ⊢
    refine ta_cons <| te_tup <| ta_cons <| te_call <| ta_cons <| te_v rfl <| ta_nil ⟨.ref pk, pkg, rfl, rp.keep (Same.tk sBG), by have := pok.vr; simp only [pkVers, List.mem_cons, List.not_mem_nil, or_false] at this; omega, fun m hm => ⟨(pk9.2 m hm).1, (pk9.2 m hm).2.1⟩, pok.ct.len, Nat.le_trans tP.len (by decide), fun r3 HH sH c3 => ?_⟩
    refine ta_cons <| te_v rfl <| ta_nil ⟨(by show 2 ≤ sizeLine; decide), fun x3 hx3 => ta_nil ⟨(by show 3 ≤ sizeLine; decide), fun cl hcl => st_g ?_⟩⟩
    dsimp only
    have sI : Same HG (upd (upd HH x3 (.tup [.ref r3, .ref pk])) cl (.lst [.ref x1, .ref x2, .ref x3])) := fun b o z => Same.new hcl _ _ (Same.new hx3 _ _ (sH _ _ z))
    have sBI : Same HB (upd (upd HH x3 (.tup [.ref r3, .ref pk])) cl (.lst [.ref x1, .ref x2, .ref x3])) := fun b o z => sI _ _ (sBG _ _ z)
    have cv3 : CaseV C (upd (upd HH x3 (.tup [.ref r3, .ref pk])) cl (.lst [.ref x1, .ref x2, .ref x3])) (.ref x3) (pkgLw pkg) (.pkg pkg) := ⟨x3, r3, .ref pk, rfl, Same.new hcl _ _ upd_same, Same.new hcl _ _ (Same.new hx3 _ _ c3), rp.keep (Same.tk sBI)⟩
    have fa : Fa K C p b row fv fs ev es (.ref pk) pkg cl [.ref x1, .ref x2, .ref x3] (upd (upd HH x3 (.tup [.ref r3, .ref pk])) cl (.lst [.ref x1, .ref x2, .ref x3])) :=
      ⟨sp.go (Go.same sp.cell sBI), hf.keep (Same.tk sBI), he.keep (Same.tk sBI), rp.keep (Same.tk sBI), upd_same, .cons (cv1.same sI) (.cons (cv2.same sI) (.cons cv3 .nil))⟩
    generalize upd (upd HH x3 (.tup [.ref r3, .ref pk])) cl (.lst [.ref x1, .ref x2, .ref x3]) = HI at fa ⊢
    clear sI sBI cv3 cv2 cv1 sBG sG sE hf he rp sp
    have pyE := yok_edit (es := es) (by have := eok.few; omega) fun q hq => by
      have pr := rowB_of (path_rows q.1 (eok.path q hq)).2.1
      have l := pr.2.2.2
      rw [len_cat] at l
      exact ⟨⟨by omega, fun c hc => pr.2.2.1 c (by rw [cps_cat]; exact List.mem_append_right _ hc)⟩, fun c hc => ⟨Nat.le_trans (eok.ct q hq c hc).len (by decide), (eok.ct q hq c hc).okS⟩⟩
    have pyP := yok_pkg (p := pkg) (by
      have h := pok.nm
      have : ∀ n ∈ pkNames, n.length ≤ 100000 ∧ PyData.strOk n = true := by decide +kernel
      exact ⟨(this _ h).1, okS_of (this _ h).2⟩) (Nat.le_trans pk9.1 (by decide)) (fun m hm => ⟨(pk9.2 m hm).2.2.1, okS_of (pk9.2 m hm).2.2.2⟩) ⟨Nat.le_trans pok.ct.len (by decide), pok.ct.okS⟩
    have edy := (Ed.of es).yes eok easc
    have pke : smallE (py (pkgD pkg)) = false := by
      have : ∀ n ∈ pkNames, True := fun _ _ => trivial
      unfold smallE editY
      rfl
    have g1 : Good3 (treeL fs) (.tree fs) := ⟨tt, fok, fasc, rfl⟩
    have g2 : Good3 (editLw es) (.edit es) := ⟨tE, eok, edy.2.1, pyE, edy.2.2.symm⟩
    have g3 : Good3 (pkgLw pkg) (.pkg pkg) := ⟨tP, pke, pok.yes, pyP, PkOk.rows.symm⟩
    have gall : ∀ LR ∈ ([(treeL fs, .tree fs), (editLw es, .edit es), (pkgLw pkg, .pkg pkg)] : List (List Str × Res)), Good3 LR.1 LR.2 := fun LR h => by
      simp only [List.mem_cons, List.not_mem_nil, or_false] at h
      rcases h with rfl | rfl | rfl
      · exact g1
      · exact g2
      · exact g3
    refine st_seq ?_
    refine ⟨_, rfl, cl, rfl, ⟨_, SqL.of fa.hc⟩, ?_⟩
    refine for_list (K := K) (a := cl) (xs := [.ref x1, .ref x2, .ref x3]) (fun i σ H2 => ∃ (k7 k8 k9 : Option V), σ = [some (.ref a), some (.ref p), some (.ref b), some fv, some ev, some (.ref pk), some (.ref cl), k7, k8, k9, none, none] ∧ Fa K C p b row fv fs ev es (.ref pk) pkg cl [.ref x1, .ref x2, .ref x3] H2)
      ⟨_, _, _, rfl, fa⟩ (fun i σ H2 _ ⟨_, _, _, _, z⟩ => SqL.of z.hc) ?_ ?_
    · rintro i v σ H2 hv ⟨k7, k8, k9, rfl, fa⟩
      obtain ⟨⟨L, R⟩, hm, cv⟩ := paired_get fa.c3 hv
      have gd : Good3 L R := gall _ hm
      have tl := gd.told
      obtain ⟨t, q, xv, rfl, ht, hq, hx⟩ := cv.ex
      dsimp only at hq hx
      refine st_seq <| st_asg <| te_call <| ta_cons <| te_op <| te_v rfl <| te_c <| ixTd (.inl ht) rfl <| ta_nil ⟨q, L, rfl, hq, Nat.le_trans tl.len (by decide), fun H3 s3 => st_g ?_⟩
      dsimp only
      replace fa := fa.same s3
      replace ht := s3 _ _ ht
      replace hq := s3 _ _ hq
      replace hx := hx.same s3
      clear s3
      refine st_seq <| st_asg <| te_op <| te_v rfl <| te_c <| ixTd (.inl ht) rfl <| st_g ?_
      dsimp only
      refine ⟨fun σ' H' => σ' = [some (.ref a), some (.ref p), some (.ref b), some fv, some ev, some (.ref pk), some (.ref cl), some (.ref t), some (.str (contentOf L)), some xv, none, none] ∧ Fa K C p b row fv fs ev es (.ref pk) pkg cl [.ref x1, .ref x2, .ref x3] H' ∧ H' t = some (.tup [.ref q, xv]) ∧ Strs H' q L, ?_, ?_⟩
      · refine tt_or <| tt_not <| tt_b <| te_call <| ta_cons <| te_call <| ta_cons <| te_v rfl <| ta_nil ⟨xv, L, rfl, Nat.le_trans tl.len (by decide), fun H4 s4 => ?_, printed_of gd hx⟩
        refine ta_cons <| te_v rfl <| ta_nil ⟨.str (contentOf L), .str (contentOf L), _, _, rfl, rfl, rfl, by show 0 < 5; decide, _, rfl, ?_⟩
        rw [Kd.D.eqb_refl]
        refine iteF ?_
        refine tt_not <| tt_b <| te_op <| te_call <| ta_cons <| te_v rfl <| ta_nil ⟨contentOf L, R, rfl, Nat.le_trans tl.len (by decide), tl.okS, tl.whole, good_nb gd, fun v5 H5 s5 r5 => te_v rfl ?_⟩
        have s35 : Same H3 H5 := fun b o z => s5 _ _ (s4 _ _ z)
        exact same_of TF gd r5 (hx.same s35) ⟨_, rfl, iteF ⟨rfl, fa.same s35, s35 _ _ ht, s35 _ _ hq⟩⟩
      · rintro σ' H4 ⟨rfl, fa, ht, hq⟩
        have pos : 1 ≤ L.length := List.length_pos_iff.mpr tl.filled
        have ns : (((L.map V.str).length : Int) - 1) = ((L.length - 1 : Nat) : Int) := by rw [List.length_map]; omega
        refine st_if <| tt_or <| tt_b <| te_op <| te_call <| ta_cons <| te_sl <| te_v rfl <| to_no <| to_part <| te_un <| te_c ⟨1, rfl, ?_⟩
        refine ⟨_, rfl, contentOf L, rfl, small_of (Nat.le_trans tl.len (by decide)), ta_nil ⟨_, "syntax", ((L.length - 1 : Nat) : Int), rfl, .inr ⟨_, rfl, Nat.le_trans tl.lenCut (by decide), tl.okCut, .inl ⟨_, tl.cut, rfl, rfl⟩⟩, fun f1 H5 s5 e5 => ?_⟩⟩
        refine te_tup <| ta_cons <| te_c <| ta_cons <| te_op <| te_cb <| ta_cons <| te_op <| te_v rfl <| te_c <| ixTd (.inl (s5 _ _ ht)) rfl <| ta_nil ⟨q, _, rfl, .inl (SqL.of (s5 _ _ hq)), te_c ⟨_, _, rfl, rfl, ?_⟩⟩
        refine ta_nil ⟨(by show 2 ≤ sizeLine; decide), fun f2 hf2 => ?_⟩
        dsimp only
        rw [ns]
        have r1 : Rep (upd H5 f2 (.tup [.str "syntax", .int ((L.length - 1 : Nat) : Int)])) (faultD "syntax" ((L.length - 1 : Nat) : Int)) (.ref f1) := fault_rep (Same.new hf2 _ _ e5)
        have r2 : Rep (upd H5 f2 (.tup [.str "syntax", .int ((L.length - 1 : Nat) : Int)])) (faultD "syntax" ((L.length - 1 : Nat) : Int)) (.ref f2) := fault_rep upd_same
        refine ne_fault (sh_syn _) r1 r2 ⟨_, rfl, iteF ?_⟩
        have s6 : Same H4 (upd H5 f2 (.tup [.str "syntax", .int ((L.length - 1 : Nat) : Int)])) := fun b o z => Same.new hf2 _ _ (s5 _ _ z)
        replace fa := fa.same s6
        replace ht := s6 _ _ ht
        replace hq := s6 _ _ hq
        generalize upd H5 f2 (.tup [.str "syntax", .int ((L.length - 1 : Nat) : Int)]) = H6 at s6 fa ht hq ⊢
        have cl9 := tl.len
        refine tt_b <| te_op <| te_call <| ta_cons <| te_op <| te_v rfl <| te_c ⟨_, _, rfl, rfl, small_of (by have : ("odd\n" : Str).length = 4 := (by decide +kernel); omega), ta_nil ⟨_, "syntax", (L.length : Int), rfl, .inr ⟨_, rfl, tl.lenOdd, tl.okOdd, .inl ⟨_, tl.odd, rfl, rfl⟩⟩, fun f3 H7 s7 e7 => ?_⟩⟩
        refine te_tup <| ta_cons <| te_c <| ta_cons <| te_cb <| ta_cons <| te_op <| te_v rfl <| te_c <| ixTd (.inl (s7 _ _ ht)) rfl <| ta_nil ⟨q, _, rfl, .inl (SqL.of (s7 _ _ hq)), ta_nil ⟨(by show 2 ≤ sizeLine; decide), fun f4 hf4 => ?_⟩⟩
        rw [List.length_map]
        have r3 : Rep (upd H7 f4 (.tup [.str "syntax", .int (L.length : Int)])) (faultD "syntax" (L.length : Int)) (.ref f3) := fault_rep (Same.new hf4 _ _ e7)
        have r4 : Rep (upd H7 f4 (.tup [.str "syntax", .int (L.length : Int)])) (faultD "syntax" (L.length : Int)) (.ref f4) := fault_rep upd_same
        exact ne_fault (sh_syn _) r3 r4 ⟨_, rfl, iteF ⟨_, _, _, rfl, fa.same fun b o z => Same.new hf4 _ _ (s7 _ _ z)⟩⟩
    · rintro σ H2 ⟨k7, k8, k9, rfl, fa⟩
      have dE := dep_editY es
      have dP := dep_pkg pkg
      refine ⟨fun σ' H' => σ' = [some (.ref a), some (.ref p), some (.ref b), some fv, some ev, some (.ref pk), some (.ref cl), k7, k8, k9, none, none] ∧ Fa K C p b row fv fs ev es (.ref pk) pkg cl [.ref x1, .ref x2, .ref x3] H', ?_, ?_⟩
      · refine tt_or <| tt_not <| tt_b <| te_call <| ta_cons <| te_call <| ta_cons <| te_call <| ta_cons <| te_v rfl <| ta_cons <| te_c <| ta_nil ⟨editD es, ev, 1, rfl, fa.he, by omega, fun x H3 s3 rx => ?_⟩
        obtain ⟨d, hd, yo, ed⟩ := ed_loose (K := K) rx eok
        have dy := ed.yes eok easc
        refine ta_nil ⟨x, editLw es, rfl, Nat.le_trans tE.len (by decide), fun H4 s4 => ?_, .inr ⟨d, hd, yo, .inl ⟨dy.2.1, dy.2.2.symm⟩⟩⟩
        replace fa := (fa.same s3).same s4
        clear s3 s4 hd rx
        obtain ⟨t2, q2, y2, e2, ht2, hq2, _⟩ := (paired3 fa.c3).2.1.ex
        cases e2
        dsimp only at hq2
        refine ta_cons <| te_call <| ta_cons <| te_op <| te_op <| te_v rfl <| te_c ⟨cl, _, 1, _, rfl, rfl, SqL.of fa.hc, rfl, te_c <| ixTd (.inl ht2) rfl <| ta_nil ⟨q2, editLw es, rfl, hq2, Nat.le_trans tE.len (by decide), fun H5 s5 => ta_nil ⟨.str (contentOf (editLw es)), .str (contentOf (editLw es)), _, _, rfl, rfl, rfl, by show 0 < 5; decide, _, rfl, ?_⟩⟩⟩
        rw [Kd.D.eqb_refl]
        refine iteF ?_
        replace fa := fa.same s5
        clear s5 hq2 ht2
        obtain ⟨t3, q3, y3, e3, ht3, hq3, _⟩ := (paired3 fa.c3).2.2.ex
        cases e3
        dsimp only at hq3
        refine tt_not <| tt_b <| te_call <| ta_cons <| te_call <| ta_cons <| te_call <| ta_cons <| te_op <| te_op <| te_v rfl <| te_c ⟨cl, _, 2, _, rfl, rfl, SqL.of fa.hc, rfl, te_c <| ixTd (.inl ht3) rfl <| ta_nil ⟨q3, pkgLw pkg, rfl, hq3, Nat.le_trans tP.len (by decide), fun H6 s6 => ?_⟩⟩
        refine ta_nil ⟨contentOf (pkgLw pkg), .pkg pkg, rfl, Nat.le_trans tP.len (by decide), tP.okS, tP.whole, trivial, fun v7 H7 s7 r7 => ?_⟩
        replace fa := (fa.same s6).same s7
        refine ta_cons <| te_v rfl <| ta_nil ⟨pkgD pkg, pkgD pkg, v7, .ref pk, rfl, r7, fa.hp, by omega, _, rfl, ?_⟩
        rw [Kd.D.eqb_refl]
        exact iteF ⟨rfl, fa⟩
      · rintro σ' H3 ⟨rfl, fa⟩
        refine st_seq ?_
        refine st_seq ?_
        dsimp only
        refine st_expr <| te_callS <| ta_cons <| te_op <| te_lst <| ta_cons <| te_c <| ta_cons <| te_c <| ta_cons <| te_v rfl <| ta_cons <| te_c <| ta_cons <| te_tup <| ta_cons <| te_tup <| ta_strs ⟨(by show 3 ≤ sizeLine; decide), fun u1 hu1 => ta_nil ⟨(by show 1 ≤ sizeLine; decide), fun u2 hu2 => ?_⟩⟩
        refine ta_cons <| te_tup <| ta_cons <| te_c <| ta_cons <| te_c <| ta_cons <| te_tup <| ta_nil ⟨(by show 0 ≤ sizeLine; decide), fun u3 hu3 => ta_cons <| te_c <| ta_nil ⟨(by show 4 ≤ sizeLine; decide), fun u4 hu4 => ta_nil ⟨(by show 6 ≤ sizeLine; decide), fun l hl => ?_⟩⟩⟩
        have sL : Same H3 (upd (upd (upd (upd (upd H3 u1 (.tup (List.map V.str [("put" : Str), "A", ""]))) u2 (.tup [.ref u1])) u3 (.tup [])) u4 (.tup [.str "core", .int 0, .ref u3, .str ""])) l (.lst [.non, .int 5, fv, .str "tree", .ref u2, .ref u4])) :=
          fun b o z => Same.new hl _ _ (Same.new hu4 _ _ (Same.new hu3 _ _ (Same.new hu2 _ _ (Same.new hu1 _ _ z))))
        have eL : upd (upd (upd (upd (upd H3 u1 (.tup (List.map V.str [("put" : Str), "A", ""]))) u2 (.tup [.ref u1])) u3 (.tup [])) u4 (.tup [.str "core", .int 0, .ref u3, .str ""])) l (.lst [.non, .int 5, fv, .str "tree", .ref u2, .ref u4]) l = some (.lst [.non, .int 5, fv, .str "tree", .ref u2, .ref u4]) := upd_same
        have r2 : Rep (upd (upd (upd (upd (upd H3 u1 (.tup (List.map V.str [("put" : Str), "A", ""]))) u2 (.tup [.ref u1])) u3 (.tup [])) u4 (.tup [.str "core", .int 0, .ref u3, .str ""])) l (.lst [.non, .int 5, fv, .str "tree", .ref u2, .ref u4])) (.tup [.tup [.str "put", .str "A", .str ""]]) (.ref u2) :=
          ⟨u2, _, rfl, .inl (Same.new hl _ _ (Same.new hu4 _ _ (Same.new hu3 _ _ upd_same))), (by show 1 ≤ sizeLine; decide), _, _, rfl, ⟨u1, _, rfl, .inl (Same.new hl _ _ (Same.new hu4 _ _ (Same.new hu3 _ _ (Same.new hu2 _ _ upd_same)))), (by show 3 ≤ sizeLine; decide), _, _, rfl, rfl, _, _, rfl, rfl, _, _, rfl, rfl, rfl⟩, rfl⟩
        have r4 : Rep (upd (upd (upd (upd (upd H3 u1 (.tup (List.map V.str [("put" : Str), "A", ""]))) u2 (.tup [.ref u1])) u3 (.tup [])) u4 (.tup [.str "core", .int 0, .ref u3, .str ""])) l (.lst [.non, .int 5, fv, .str "tree", .ref u2, .ref u4])) (.tup [.str "core", .int 0, .tup [], .str ""]) (.ref u4) :=
          ⟨u4, _, rfl, .inl (Same.new hl _ _ upd_same), (by show 4 ≤ sizeLine; decide), _, _, rfl, rfl, _, _, rfl, rfl, _, _, rfl, ⟨u3, _, rfl, .inl (Same.new hl _ _ (Same.new hu4 _ _ upd_same)), (by show 0 ≤ sizeLine; decide), rfl⟩, _, _, rfl, rfl, rfl⟩
        replace fa := fa.same sL
        generalize upd (upd (upd (upd (upd H3 u1 (.tup (List.map V.str [("put" : Str), "A", ""]))) u2 (.tup [.ref u1])) u3 (.tup [])) u4 (.tup [.str "core", .int 0, .ref u3, .str ""])) l (.lst [.non, .int 5, fv, .str "tree", .ref u2, .ref u4]) = HL at fa eL r2 r4 ⊢
        clear sL hl hu4 hu3 hu2 hu1
        refine te_call <| ta_cons <| te_v rfl <| ta_cons <| te_v rfl <| ta_cons <| te_c <| ta_nil ⟨p, b, row, 6, rfl, fa.sp, by decide, fun d H5 g5 d0 d6 => ?_⟩
        have lne : l ≠ b := fun z => by
          obtain ⟨i, _, e⟩ := fa.sp.cell
          rw [z, e] at eL
          cases eL
        replace eL := g5.keep _ _ lne eL
        replace r2 := Rep.go fa.sp.cell g5 r2
        replace r4 := Rep.go fa.sp.cell g5 r4
        replace fa := fa.go g5
        have yo : ∀ i ∈ ([0, 1, 2, 3, 4] : List Nat), YOk (oddT i) := fun i hi => ⟨(odd_facts i hi).2.2, by
          have : ∀ i ∈ ([0, 1, 2, 3, 4] : List Nat), (oddT i).depth ≤ 60 := by decide +kernel
          exact this i hi⟩
        obtain ⟨v, dd, ev', hdp, yk, n1, n2⟩ : ∃ v dd, atI [.non, .int 5, fv, .str "tree", .ref u2, .ref u4] d = some v ∧ Dp K H5 v dd ∧ YOk dd ∧ smallE dd = false ∧ pkgY dd = false := by
          have c6 : d = 0 ∨ d = 1 ∨ d = 2 ∨ d = 3 ∨ d = 4 ∨ d = 5 := by omega
          rcases c6 with rfl | rfl | rfl | rfl | rfl | rfl
          · exact ⟨_, oddT 0, rfl, .non, yo 0 (by decide), (odd_facts 0 (by decide)).1, (odd_facts 0 (by decide)).2.1⟩
          · exact ⟨_, oddT 1, rfl, .int 5, yo 1 (by decide), (odd_facts 1 (by decide)).1, (odd_facts 1 (by decide)).2.1⟩
          · exact ⟨_, _, rfl, Rep.dp fa.hf, fs_yok fok, (odd_files fok fne).1, (odd_files fok fne).2⟩
          · exact ⟨_, oddT 2, rfl, .str "tree", yo 2 (by decide), (odd_facts 2 (by decide)).1, (odd_facts 2 (by decide)).2.1⟩
          · exact ⟨_, oddT 3, rfl, Rep.dp r2, yo 3 (by decide), (odd_facts 3 (by decide)).1, (odd_facts 3 (by decide)).2.1⟩
          · exact ⟨_, oddT 4, rfl, Rep.dp r4, yo 4 (by decide), (odd_facts 4 (by decide)).1, (odd_facts 4 (by decide)).2.1⟩
        refine ⟨l, _, d, v, rfl, rfl, SqL.of eL, ev', ta_nil ⟨v, rfl, .inr ⟨dd, hdp, yk, (fun z => by rw [n1] at z; cases z), (fun _ z => by rw [n2] at z; cases z), fun _ _ ddx H6 out => ?_⟩⟩⟩
        refine ⟨true, xh, fun _ ax hax => ?_, fun z => nomatch z⟩
        replace fa := fa.same out.sm
        clear eL r2 r4 lne ev' hdp yk n1 n2 yo g5
        refine st_if <| tt_not <| tt_b ?_
        refine te_callS <| ta_cons <| te_v rfl ⟨rfl, CV, ddx, _, _, rfl, eV.xf, nV, rfl, out.xd, rfl, ta_cons <| te_c <| ta_nil ⟨.int 1, .int 1, _, _, rfl, rfl, rfl, by show 0 < 3; decide, _, rfl, ?_⟩⟩
        rw [Kd.D.eqb_refl]
        refine iteF (st_next ?_)
        dsimp only
        clear out
        refine ⟨fun σ' H' => σ' = [some (.ref a), some (.ref p), some (.ref b), some fv, some ev, some (.ref pk), some (.ref cl), k7, k8, k9, none, none] ∧ Fa K C p b row fv fs ev es (.ref pk) pkg cl [.ref x1, .ref x2, .ref x3] H', ?_, ?_⟩
        · refine tt_or <| tt_b <| te_op <| te_call <| ta_cons <| te_op <| te_lst <| ta_cons <| te_c <| ta_cons <| te_c <| ta_cons <| te_tup <| ta_strs ⟨(by show 1 ≤ sizeLine; decide), fun u1 hu1 => ta_nil ⟨(by show 3 ≤ sizeLine; decide), fun l hl => ?_⟩⟩
          have sL : Same H6 (upd (upd H6 u1 (.tup (List.map V.str [("a" : Str)]))) l (.lst [.non, .int 5, .ref u1])) := fun b o z => Same.new hl _ _ (Same.new hu1 _ _ z)
          have eL : upd (upd H6 u1 (.tup (List.map V.str [("a" : Str)]))) l (.lst [.non, .int 5, .ref u1]) l = some (.lst [.non, .int 5, .ref u1]) := upd_same
          have r1 : Rep (upd (upd H6 u1 (.tup (List.map V.str [("a" : Str)]))) l (.lst [.non, .int 5, .ref u1])) (.tup [.str "a"]) (.ref u1) := ⟨u1, _, rfl, .inl (Same.new hl _ _ upd_same), (by show 1 ≤ sizeLine; decide), _, _, rfl, rfl, rfl⟩
          replace fa := fa.same sL
          generalize upd (upd H6 u1 (.tup (List.map V.str [("a" : Str)]))) l (.lst [.non, .int 5, .ref u1]) = HL at fa eL r1 ⊢
          clear sL hl hu1
          refine te_call <| ta_cons <| te_v rfl <| ta_cons <| te_v rfl <| ta_cons <| te_c <| ta_nil ⟨p, b, row, 3, rfl, fa.sp, by decide, fun d H7 g7 d0 d3 => ?_⟩
          have lne : l ≠ b := fun z => by
            obtain ⟨i, _, e⟩ := fa.sp.cell
            rw [z, e] at eL
            cases eL
          replace eL := g7.keep _ _ lne eL
          replace r1 := Rep.go fa.sp.cell g7 r1
          replace fa := fa.go g7
          obtain ⟨v, dd, ev', hdp, n1⟩ : ∃ v dd, atI [.non, .int 5, .ref u1] d = some v ∧ Dp K H7 v dd ∧ isStrY dd = false := by
            have c3 : d = 0 ∨ d = 1 ∨ d = 2 := by omega
            rcases c3 with rfl | rfl | rfl
            · exact ⟨_, _, rfl, .non, rfl⟩
            · exact ⟨_, _, rfl, .int 5, rfl⟩
            · exact ⟨_, _, rfl, Rep.dp r1, rfl⟩
          refine ⟨l, _, d, v, rfl, rfl, SqL.of eL, ev', ta_nil ⟨v, "value", 1, rfl, .inl ⟨rfl, rfl, dd, hdp, n1⟩, fun f1 H8 s8 e8 => ?_⟩⟩
          refine te_tup <| ta_cons <| te_c <| ta_cons <| te_c <| ta_nil ⟨(by show 2 ≤ sizeLine; decide), fun f2 hf2 => ?_⟩
          refine ne_fault (tag := "value") (n := 1) (sh_val _) (fault_rep (Same.new hf2 _ _ e8)) (fault_rep upd_same) ⟨_, rfl, iteF ?_⟩
          replace fa := (fa.same s8).same (Same.new hf2 (o := .tup [.str "value", .int 1]))
          generalize upd H8 f2 (.tup [.str "value", .int 1]) = H9 at fa ⊢
          refine tt_b <| te_op <| te_call <| ta_cons <| te_c <| ta_nil ⟨.str "", "syntax", 0, rfl, .inr ⟨"", rfl, by decide, okS_nil, chk_of empty_ok⟩, fun f3 HA sA eA => ?_⟩
          refine te_tup <| ta_cons <| te_c <| ta_cons <| te_c <| ta_nil ⟨(by show 2 ≤ sizeLine; decide), fun f4 hf4 => ?_⟩
          exact ne_fault (tag := "syntax") (n := 0) (sh_syn _) (fault_rep (Same.new hf4 _ _ eA)) (fault_rep upd_same) ⟨_, rfl, iteF ⟨rfl, (fa.same sA).same (Same.new hf4)⟩⟩
        · rintro σ' H7 ⟨rfl, fa⟩
          have sp := fa.sp
          clear fa
          refine st_seq <| st_asg <| te_lst <| ta_fix (fun _ _ q => te_c q) fun v0 G0 s0 f0 => ta_fix (fun _ _ q => te_c q) fun v1 G1 s1 f1 => ta_fix (fun _ _ q => te_c q) fun v2 G2 s2 f2 => ta_fix (fun _ _ q => te_c q) fun v3 G3 s3 f3 => ta_nil ⟨(by show 4 ≤ sizeLine; decide), fun l0 hl0 => st_g ?_⟩
          have F0 : FixL b H7 (upd G3 l0 (.lst [v0, v1, v2, v3])) (.ref l0) [("tree\nfile a\n", "syntax", 2), ("tree\nfile A\n|\n", "syntax", 1), ("tree\n|x\n", "syntax", 1), ("tree\nfile b\n|\nfile a\n|\n", "value", 1)] := ⟨fun b o z => Same.new hl0 _ _ (s3 _ _ (s2 _ _ (s1 _ _ (s0 _ _ z)))), by decide, case_all (by decide), l0, _, rfl, upd_same, (Paired.mono (fun _ _ z => z.same (Same.new hl0)) (.cons (f0.same fun b o z => s3 _ _ (s2 _ _ (s1 _ _ z))) (.cons (f1.same fun b o z => s3 _ _ (s2 _ _ z)) (.cons (f2.same fun b o z => s3 _ _ z) (.cons f3 .nil)))))⟩
          dsimp only
          generalize upd G3 l0 (.lst [v0, v1, v2, v3]) = HF0 at F0 ⊢
          refine st_seq <| st_asg <| te_op <| te_v rfl <| te_lst <| ta_fix (fun _ _ q => te_c q) fun v0 G0 s0 f0 => ta_fix (fun _ _ q => te_c q) fun v1 G1 s1 f1 => ta_nil ⟨(by show 2 ≤ sizeLine; decide), fun l1 hl1 => fix_cat (b := b) (H0 := H7) (L1 := [("edit\nput a\n", "syntax", 2), ("edit\ndrop a\n|x\n", "syntax", 2)]) (F0.go fun b o z => Same.new hl1 _ _ (s1 _ _ (s0 _ _ z))) upd_same (Paired.mono (fun _ _ z => z.same (Same.new hl1)) (.cons (f0.same fun b o z => s1 _ _ z) (.cons f1 .nil))) (by decide) (case_all (by decide)) fun w1 HF1 F1 => st_g ?_⟩
          dsimp only
          clear F0
          refine st_seq <| st_asg <| te_op <| te_v rfl <| te_lst <| ta_fix (fun _ _ q => te_c q) fun v0 G0 s0 f0 => ta_fix (fun _ _ q => te_c q) fun v1 G1 s1 f1 => ta_fix (fun _ _ q => te_c q) fun v2 G2 s2 f2 => ta_nil ⟨(by show 3 ≤ sizeLine; decide), fun l2 hl2 => fix_cat (b := b) (H0 := H7) (L1 := [("package core 0\ncontent\n|\n", "syntax", 0), ("package core 1\n", "syntax", 1), ("package core 1\ncontent\n", "syntax", 2)]) (F1.go fun b o z => Same.new hl2 _ _ (s2 _ _ (s1 _ _ (s0 _ _ z)))) upd_same (Paired.mono (fun _ _ z => z.same (Same.new hl2)) (.cons (f0.same fun b o z => s2 _ _ (s1 _ _ z)) (.cons (f1.same fun b o z => s2 _ _ z) (.cons f2 .nil)))) (by decide) (case_all (by decide)) fun w2 HF2 F2 => st_g ?_⟩
          dsimp only
          clear F1
          refine st_seq <| st_asg <| te_op <| te_v rfl <| te_lst <| ta_fix (fun _ _ q => te_c q) fun v0 G0 s0 f0 => ta_fix (fun _ _ q => te_c q) fun v1 G1 s1 f1 => ta_nil ⟨(by show 2 ≤ sizeLine; decide), fun l3 hl3 => fix_cat (b := b) (H0 := H7) (L1 := [("package core 1\nneed a 2 1\ncontent\n|\n", "syntax", 1), ("odd\n", "syntax", 0)]) (F2.go fun b o z => Same.new hl3 _ _ (s1 _ _ (s0 _ _ z))) upd_same (Paired.mono (fun _ _ z => z.same (Same.new hl3)) (.cons (f0.same fun b o z => s1 _ _ z) (.cons f1 .nil))) (by decide) (case_all (by decide)) fun w3 HF3 F3 => st_g ?_⟩
          dsimp only
          clear F2
          refine st_seq <| st_asg <| te_op <| te_v rfl <| te_lst <| ta_fix (fun _ _ q => te_c q) fun v0 G0 s0 f0 => ta_fix (x := longT) (fun _ _ q => te_op <| te_op <| te_c <| te_op <| te_c <| te_c ⟨_, _, rfl, rfl, xs_mul, ⟨_, _, rfl, rfl, small_of (by rw [xs_len]; decide +kernel), te_c ⟨_, _, rfl, rfl, small_of (by rw [len_cat, xs_len]; decide +kernel), q⟩⟩⟩) fun v1 G1 s1 f1 => ta_fix (fun _ _ q => te_c q) fun v2 G2 s2 f2 => ta_nil ⟨(by show 3 ≤ sizeLine; decide), fun l4 hl4 => fix_cat (b := b) (H0 := H7) (L1 := [("package core 1\nneed b 1 1\nneed a 1 1\ncontent\n|\n", "value", 1), (longT, "value", 1), ("edit \n", "syntax", 0)]) (F3.go fun b o z => Same.new hl4 _ _ (s2 _ _ (s1 _ _ (s0 _ _ z)))) upd_same (Paired.mono (fun _ _ z => z.same (Same.new hl4)) (.cons (f0.same fun b o z => s2 _ _ (s1 _ _ z)) (.cons (f1.same fun b o z => s2 _ _ z) (.cons f2 .nil)))) (by decide) (fun c hc => by
            simp only [List.mem_cons, List.not_mem_nil, or_false] at hc
            rcases hc with rfl | rfl | rfl
            · exact case_fixed (by decide)
            · exact case_long
            · exact case_fixed (by decide)) fun w4 HF4 F4 => st_g ?_⟩
          dsimp only
          clear F3
          refine st_seq <| st_asg <| te_op <| te_v rfl <| te_lst <| ta_fix (fun _ _ q => te_c q) fun v0 G0 s0 f0 => ta_fix (fun _ _ q => te_c q) fun v1 G1 s1 f1 => ta_nil ⟨(by show 2 ≤ sizeLine; decide), fun l5 hl5 => fix_cat (b := b) (H0 := H7) (L1 := [("tree\nfile a\n|x\n\n", "syntax", 3), ("package core 1\ncontent\nx\n", "syntax", 2)]) (F4.go fun b o z => Same.new hl5 _ _ (s1 _ _ (s0 _ _ z))) upd_same (Paired.mono (fun _ _ z => z.same (Same.new hl5)) (.cons (f0.same fun b o z => s1 _ _ z) (.cons f1 .nil))) (by decide) (case_all (by decide)) fun w5 HF5 F5 => st_g ?_⟩
          dsimp only
          clear F4
          refine st_seq <| st_asg <| te_op <| te_v rfl <| te_lst <| ta_fix (fun _ _ q => te_c q) fun v0 G0 s0 f0 => ta_fix (fun _ _ q => te_c q) fun v1 G1 s1 f1 => ta_fix (fun _ _ q => te_c q) fun v2 G2 s2 f2 => ta_nil ⟨(by show 3 ≤ sizeLine; decide), fun l6 hl6 => fix_cat (b := b) (H0 := H7) (L1 := [("tree\nfile b\n|x\nfile a\n|y\noops\n", "syntax", 5), ("edit\ndrop b\ndrop a\nput c\n", "syntax", 4), ("edit\ndrop b\ndrop a", "syntax", 2)]) (F5.go fun b o z => Same.new hl6 _ _ (s2 _ _ (s1 _ _ (s0 _ _ z)))) upd_same (Paired.mono (fun _ _ z => z.same (Same.new hl6)) (.cons (f0.same fun b o z => s2 _ _ (s1 _ _ z)) (.cons (f1.same fun b o z => s2 _ _ z) (.cons f2 .nil)))) (by decide) (case_all (by decide)) fun w6 HF6 F6 => st_g ?_⟩
          dsimp only
          clear F5
          refine st_seq <| st_asg <| te_op <| te_v rfl <| te_lst <| ta_fix (fun _ _ q => te_c q) fun v0 G0 s0 f0 => ta_nil ⟨(by show 1 ≤ sizeLine; decide), fun l7 hl7 => fix_cat (b := b) (H0 := H7) (L1 := [("edit\ndrop b\ndrop a\n", "value", 1)]) (F6.go fun b o z => Same.new hl7 _ _ (s0 _ _ z)) upd_same (Paired.mono (fun _ _ z => z.same (Same.new hl7)) (.cons f0 .nil)) (by decide) (case_all (by decide)) fun w7 HF7 F7 => st_g ?_⟩
          dsimp only
          clear F6
          refine st_seq <| st_asg <| te_op <| te_v rfl <| te_lst <| ta_fix (fun _ _ q => te_c q) fun v0 G0 s0 f0 => ta_fix (fun _ _ q => te_c q) fun v1 G1 s1 f1 => ta_nil ⟨(by show 2 ≤ sizeLine; decide), fun l8 hl8 => fix_cat (b := b) (H0 := H7) (L1 := [("package core 1\nneed b 1 1\nneed a 1 1\ncontent\n", "syntax", 4), ("tree\nfile b\n|x\nfile a\n", "syntax", 4)]) (F7.go fun b o z => Same.new hl8 _ _ (s1 _ _ (s0 _ _ z))) upd_same (Paired.mono (fun _ _ z => z.same (Same.new hl8)) (.cons (f0.same fun b o z => s1 _ _ z) (.cons f1 .nil))) (by decide) (case_all (by decide)) fun w8 HF8 F8 => st_g ?_⟩
          dsimp only
          clear F7
          have sp8 := sp.go (Go.same sp.cell F8.same)
          obtain ⟨pl, ws, rfl, hl8, pr8⟩ := F8.ex
          have wl := pr8.length
          have few := F8.few
          have all8 := F8.all
          clear F8
          refine st_seq <| st_asg <| te_op <| te_v rfl <| te_call <| ta_cons <| te_v rfl <| ta_cons <| te_v rfl <| ta_cons <| te_cb <| ta_cons <| te_v rfl <| ta_nil ⟨pl, ws, rfl, .inl (SqL.of hl8), ta_nil ⟨p, b, row, (ws.length : Int), rfl, sp8, by omega, fun d H9 g9 d0 d1 => ?_⟩⟩
          obtain ⟨j, rfl⟩ : ∃ j : Nat, d = (j : Int) := ⟨d.toNat, by omega⟩
          have hj : j < ws.length := by omega
          have hjj : ws[j]? = some ws[j] := List.getElem?_eq_getElem hj
          obtain ⟨c, hc, t, q, et, ht, hq⟩ := paired_get (i := j) pr8 hjj
          have ok := all8 c hc
          obtain ⟨i0, _, hb0⟩ := id sp8.cell
          have lne : pl ≠ b := fun z => by
            rw [z, hb0] at hl8
            have := congrArg List.length (HO.lst.inj (Option.some.inj hl8))
            rw [← this] at wl
            have e1 : [V.int i0].length = 1 := rfl
            omega
          have hl9 := g9.keep _ _ lne hl8
          have ht9 := g9.keep t _ (fun z => by rw [z, hb0] at ht; cases ht) ht
          have hq9 := g9.keep q _ (fun z => by rw [z, hb0] at hq; cases hq) hq
          refine ⟨pl, ws, (j : Int), ws[j], rfl, rfl, SqL.of hl9, atI_nat hjj, st_g ?_⟩
          dsimp only
          rw [et]
          refine st_ret <| te_op <| te_call <| ta_cons <| te_op <| te_v rfl <| te_c <| ixTd (.inl ht9) rfl <| ta_nil ⟨.str c.1, c.2.1, c.2.2, rfl, .inr ⟨c.1, rfl, ok.len, ok.ok, ok.chk⟩, fun f1 HA sA eA => te_op <| te_v rfl <| te_c <| ixTd (.inl (sA _ _ ht9)) rfl ?_⟩
          have sh : SeqAt.shaped (py (faultD c.2.1 c.2.2)) = true := by
            rcases ok.chk with ⟨_, _, e, _⟩ | ⟨_, e, _⟩
            · rw [e]
              exact sh_syn _
            · rw [e]
              exact sh_val _
          exact eq_self sh (fault_rep eA) (fault_rep (sA _ _ hq9)) (kend _)
end
end Kl

namespace Kl
open PySem L2 Kd PyProof.Rows
/-! the module's tables -/
def TupK (K : PySem.W.Frag) (a : Addr) (xs : List Str) : Prop := ∃ (od : Option Addr) (its : Array Value) (n : Nat) (sl : Array (Option Value)), K.lookup a = some ⟨.type "tuple", od, .seq its n, sl⟩ ∧ its.size ≤ sizeLine ∧ Vals (xs.map V.str) its.toList
theorem TupK.sq {K : PySem.W.Frag} {a : Addr} {xs : List Str} (h : TupK K a xs) : ∀ H : Hp, SqT K H a (xs.map V.str) := fun H => by
  obtain ⟨od, its, n, sl, hl, hs, hv⟩ := h
  exact .inr ⟨_, its, n, hl, rfl, rfl, hs, hv⟩
inductive BehK (K : PySem.W.Frag) (fB : Addr) : List (Str × List Str) → Prop
  | nil : BehK K fB []
  | cons {k : Str} {xs : List Str} {r : List (Str × List Str)} : (∃ t : Addr, PySem.W.nsIn K fB k = some (some (.ref t)) ∧ TupK K t xs) → BehK K fB r → BehK K fB ((k, xs) :: r)
theorem BehK.get {K : PySem.W.Frag} {fB : Addr} : ∀ {T : List (Str × List Str)} {q : Str × List Str}, BehK K fB T → q ∈ T → ∃ t : Addr, PySem.W.nsIn K fB q.1 = some (some (.ref t)) ∧ TupK K t q.2
  | _ :: _, q, .cons h r, m => by
    rcases List.mem_cons.mp m with rfl | m
    · exact h
    · exact BehK.get r m
theorem beh_at : ∀ k ∈ kinds, ∃ q ∈ behT, q.1 = k ∧ q.2 = behP k := by decide +kernel
theorem tabs_mk {K : PySem.W.Frag} {w : World} {mg : Str → Option Value} {fB fL : Addr} {es : Array DictEntry} {n : Nat} (mB : mg "BEHIND" = some (.ref fB)) (mL : mg "LAST" = some (.ref fL)) (l : K.lookup fB = some ⟨.type "dict", none, .dict es n, #[]⟩) (kl : PySem.W.KeysLit w.params es.toList)
    (h : BehK K fB behT) (hL : TupK K fL lastT) : Tabs K w mg fB fL :=
  ⟨mB, mL, fun k hk => by
    obtain ⟨q, hq, e1, e2⟩ := beh_at k hk
    obtain ⟨t, h1, h2⟩ := h.get hq
    rw [e1] at h1
    rw [e2] at h2
    exact ⟨t, ⟨es, n, _, l, kl, h1, rfl⟩, h2.sq⟩, hL.sq⟩
end Kl

namespace Kl
open PySem L2 Kd Kx
theorem cls_some {K : PySem.W.Frag} {C : Addr} (h : PySem.W.hasDictIn K C = true) : (PySem.W.clsIn K C).isSome = true := by
  obtain ⟨cd, hc, _⟩ := PySem.W.any_some h
  rw [hc]
  rfl
theorem all_mk {l : PySem.W.OpenLaw} {w : World} {K : PySem.W.Frag} {h : Heap} {mg : Str → Option Value} {fa fSq fRw fSh fWd fPt fSg fCt fAs fFi fIi fIv fIn fIs fIp fCh fIe fDi fNo fCl fIh fKb fCo fBl fVo fPa fPd fSo fNu fDr fTk fLo fTx fEx fRr fSr fCn fPr fOr fGr fTr fLe fPf fLc fLt fLd fLp fLx fM C fI fP fE pF TI eI CV fgV CS fgS : Addr} (X : K.In h) (G : h.Ns mainGlobals mg) (hfa : mg "law" = some (.ref fa))
    {odSq anSq odRw anRw odSh anSh odWd anWd odPt anPt odSg anSg odCt anCt odAs anAs odFi anFi odIi anIi odIv anIv odIn anIn odIs anIs odIp anIp odCh anCh odIe anIe odDi anDi odNo anNo odCl anCl odIh anIh odKb anKb odCo anCo odBl anBl odVo anVo odPa anPa odPd anPd odSo anSo odNu anNu odDr anDr odTk anTk odLo anLo odTx anTx odEx anEx odRr anRr odSr anSr odCn anCn odPr anPr odOr anOr odGr anGr odTr anTr odLe anLe odPf anPf odLc anLc odLt anLt odLd anLd odLp anLp odLx anLx odM anM odI anI odT odE anE odP anP odgV angV odgS angS : Option Addr} {slSq slRw slSh slWd slPt slSg slCt slAs slFi slIi slIv slIn slIs slIp slCh slIe slDi slNo slCl slIh slKb slCo slBl slVo slPa slPd slSo slNu slDr slTk slLo slTx slEx slRr slSr slCn slPr slOr slGr slTr slLe slPf slLc slLt slLd slLp slLx slM slI slT slE slP slgV slgS : Array (Option Value)} {ocSq kVSq dcSq pmSq cdSq ctSq ocRw kVRw dcRw pmRw cdRw ctRw ocSh kVSh dcSh pmSh cdSh ctSh ocWd kVWd dcWd pmWd cdWd ctWd ocPt kVPt dcPt pmPt cdPt ctPt ocSg kVSg dcSg pmSg cdSg ctSg ocCt kVCt dcCt pmCt cdCt ctCt ocAs kVAs dcAs pmAs cdAs ctAs ocFi kVFi dcFi pmFi cdFi ctFi ocIi kVIi dcIi pmIi cdIi ctIi ocIv kVIv dcIv pmIv cdIv ctIv ocIn kVIn dcIn pmIn cdIn ctIn ocIs kVIs dcIs pmIs cdIs ctIs ocIp kVIp dcIp pmIp cdIp ctIp ocCh kVCh dcCh pmCh cdCh ctCh ocIe kVIe dcIe pmIe cdIe ctIe ocDi kVDi dcDi pmDi cdDi ctDi ocNo kVNo dcNo pmNo cdNo ctNo ocCl kVCl dcCl pmCl cdCl ctCl ocIh kVIh dcIh pmIh cdIh ctIh ocKb kVKb dcKb pmKb cdKb ctKb ocCo kVCo dcCo pmCo cdCo ctCo ocBl kVBl dcBl pmBl cdBl ctBl ocVo kVVo dcVo pmVo cdVo ctVo ocPa kVPa dcPa pmPa cdPa ctPa ocPd kVPd dcPd pmPd cdPd ctPd ocSo kVSo dcSo pmSo cdSo ctSo ocNu kVNu dcNu pmNu cdNu ctNu ocDr kVDr dcDr pmDr cdDr ctDr ocTk kVTk dcTk pmTk cdTk ctTk ocLo kVLo dcLo pmLo cdLo ctLo ocTx kVTx dcTx pmTx cdTx ctTx ocEx kVEx dcEx pmEx cdEx ctEx ocRr kVRr dcRr pmRr cdRr ctRr ocSr kVSr dcSr pmSr cdSr ctSr ocCn kVCn dcCn pmCn cdCn ctCn ocPr kVPr dcPr pmPr cdPr ctPr ocOr kVOr dcOr pmOr cdOr ctOr ocGr kVGr dcGr pmGr cdGr ctGr ocTr kVTr dcTr pmTr cdTr ctTr ocLe kVLe dcLe pmLe cdLe ctLe ocPf kVPf dcPf pmPf cdPf ctPf ocLc kVLc dcLc pmLc cdLc ctLc ocLt kVLt dcLt pmLt cdLt ctLt ocLd kVLd dcLd pmLd cdLd ctLd ocLp kVLp dcLp pmLp cdLp ctLp ocLx kVLx dcLx pmLx cdLx ctLx ocM kVM dcM pmM cdM ctM ocI kVI dcI pmI cdI ctI ocT ocE kVE dcE pmE cdE ctE ocP kVP dcP pmP cdP ctP ocgV kVgV dcgV pmgV cdgV ctgV ocgS kVgS dcgS pmgS cdgS ctgS : Value} {tk_MOST_WORD_SIGNS tk_MOST_PATH_WORDS tk_MOST_CONTENT_SIGNS tk_PERCENT_NUMBER tk_MOST_FILES tk_MOST_VERSION tk_MOST_NEEDS tk_MOST_CHANGES : Tok} {nT : Nat} {rest : List Value}
    {fB fL b0 b1 b2 b3 b4 b5 b6 b7 b8 b9 b10 b11 : Addr} {esB : Array DictEntry} {nB bn0 bn1 bn2 bn3 bn4 bn5 bn6 bn7 bn8 bn9 bn10 bn11 bn12 : Nat} {bo0 bo1 bo2 bo3 bo4 bo5 bo6 bo7 bo8 bo9 bo10 bo11 bo12 : Option Addr} {bs0 bs1 bs2 bs3 bs4 bs5 bs6 bs7 bs8 bs9 bs10 bs11 bs12 : Array (Option Value)} {bt0_0 bt0_1 bt0_2 bt1_0 bt2_0 bt3_0 bt3_1 bt4_0 bt4_1 bt5_0 bt6_0 bt6_1 bt6_2 bt7_0 bt7_1 bt8_0 bt8_1 bt9_0 bt9_1 bt10_0 bt11_0 bt12_0 bt12_1 bt12_2 bt12_3 bt12_4 bt12_5 : Tok}
    (aSq : PySem.W.nsIn K mainGlobals "is_sequence" = some (some (.ref fSq)))
    (aRw : PySem.W.nsIn K mainGlobals "is_row" = some (some (.ref fRw)))
    (aSh : PySem.W.nsIn K mainGlobals "is_shown" = some (some (.ref fSh)))
    (aWd : PySem.W.nsIn K mainGlobals "is_word" = some (some (.ref fWd)))
    (aPt : PySem.W.nsIn K mainGlobals "is_path" = some (some (.ref fPt)))
    (aSg : PySem.W.nsIn K mainGlobals "is_signs" = some (some (.ref fSg)))
    (aCt : PySem.W.nsIn K mainGlobals "is_content" = some (some (.ref fCt)))
    (aAs : PySem.W.nsIn K mainGlobals "is_ascending" = some (some (.ref fAs)))
    (aFi : PySem.W.nsIn K mainGlobals "is_files" = some (some (.ref fFi)))
    (aIi : PySem.W.nsIn K mainGlobals "is_integer" = some (some (.ref fIi)))
    (aIv : PySem.W.nsIn K mainGlobals "is_version" = some (some (.ref fIv)))
    (aIn : PySem.W.nsIn K mainGlobals "is_need" = some (some (.ref fIn)))
    (aIs : PySem.W.nsIn K mainGlobals "is_needs" = some (some (.ref fIs)))
    (aIp : PySem.W.nsIn K mainGlobals "is_package" = some (some (.ref fIp)))
    (aCh : PySem.W.nsIn K mainGlobals "is_change" = some (some (.ref fCh)))
    (aIe : PySem.W.nsIn K mainGlobals "is_edit" = some (some (.ref fIe)))
    (aDi : PySem.W.nsIn K mainGlobals "digit_of" = some (some (.ref fDi)))
    (aNo : PySem.W.nsIn K mainGlobals "need_of" = some (some (.ref fNo)))
    (aCl : PySem.W.nsIn K mainGlobals "content_lines" = some (some (.ref fCl)))
    (aIh : PySem.W.nsIn K mainGlobals "is_head" = some (some (.ref fIh)))
    (aKb : PySem.W.nsIn K mainGlobals "kind_behind" = some (some (.ref fKb)))
    (aCo : PySem.W.nsIn K mainGlobals "change_of" = some (some (.ref fCo)))
    (aBl : PySem.W.nsIn K mainGlobals "blocks_of" = some (some (.ref fBl)))
    (aVo : PySem.W.nsIn K mainGlobals "value_of" = some (some (.ref fVo)))
    (aPa : PySem.W.nsIn K mainGlobals "parse" = some (some (.ref fPa)))
    (aPd : PySem.W.nsIn K mainGlobals "printed" = some (some (.ref fPd)))
    (aSo : PySem.W.nsIn K mainGlobals "_law_so" = some (some (.ref fSo)))
    (aNu : PySem.W.nsIn K mainGlobals "_law_numbers" = some (some (.ref fNu)))
    (aDr : PySem.W.nsIn K mainGlobals "_law_draw" = some (some (.ref fDr)))
    (aTk : PySem.W.nsIn K mainGlobals "_law_take" = some (some (.ref fTk)))
    (aLo : PySem.W.nsIn K mainGlobals "_law_loose" = some (some (.ref fLo)))
    (aTx : PySem.W.nsIn K mainGlobals "_law_text" = some (some (.ref fTx)))
    (aEx : PySem.W.nsIn K mainGlobals "_law_expression" = some (some (.ref fEx)))
    (aRr : PySem.W.nsIn K mainGlobals "_law_rule_rows" = some (some (.ref fRr)))
    (aSr : PySem.W.nsIn K mainGlobals "_law_setting_rows" = some (some (.ref fSr)))
    (aCn : PySem.W.nsIn K mainGlobals "_law_content" = some (some (.ref fCn)))
    (aPr : PySem.W.nsIn K mainGlobals "_law_place_rows" = some (some (.ref fPr)))
    (aOr : PySem.W.nsIn K mainGlobals "_law_own_rows" = some (some (.ref fOr)))
    (aGr : PySem.W.nsIn K mainGlobals "_law_goal_rows" = some (some (.ref fGr)))
    (aTr : PySem.W.nsIn K mainGlobals "_law_tree" = some (some (.ref fTr)))
    (aLe : PySem.W.nsIn K mainGlobals "_law_edit" = some (some (.ref fLe)))
    (aPf : PySem.W.nsIn K mainGlobals "_law_parse_fault" = some (some (.ref fPf)))
    (aLc : PySem.W.nsIn K mainGlobals "_law_content_rows" = some (some (.ref fLc)))
    (aLt : PySem.W.nsIn K mainGlobals "_law_tree_rows" = some (some (.ref fLt)))
    (aLd : PySem.W.nsIn K mainGlobals "_law_edit_rows" = some (some (.ref fLd)))
    (aLp : PySem.W.nsIn K mainGlobals "_law_package_rows" = some (some (.ref fLp)))
    (aLx : PySem.W.nsIn K mainGlobals "_law_text_of" = some (some (.ref fLx)))
    (aM : PySem.W.nsIn K mainGlobals "law" = some (some (.ref fM)))
    (m0_MOST_WORD_SIGNS : PySem.W.nsIn K mainGlobals "MOST_WORD_SIGNS" = some (some (.int 12 tk_MOST_WORD_SIGNS)))
    (m0_MOST_PATH_WORDS : PySem.W.nsIn K mainGlobals "MOST_PATH_WORDS" = some (some (.int 4 tk_MOST_PATH_WORDS)))
    (m0_MOST_CONTENT_SIGNS : PySem.W.nsIn K mainGlobals "MOST_CONTENT_SIGNS" = some (some (.int 1000 tk_MOST_CONTENT_SIGNS)))
    (m0_PERCENT_NUMBER : PySem.W.nsIn K mainGlobals "PERCENT_NUMBER" = some (some (.int 37 tk_PERCENT_NUMBER)))
    (m0_MOST_FILES : PySem.W.nsIn K mainGlobals "MOST_FILES" = some (some (.int 60 tk_MOST_FILES)))
    (m0_MOST_VERSION : PySem.W.nsIn K mainGlobals "MOST_VERSION" = some (some (.int 9 tk_MOST_VERSION)))
    (m0_MOST_NEEDS : PySem.W.nsIn K mainGlobals "MOST_NEEDS" = some (some (.int 4 tk_MOST_NEEDS)))
    (m0_MOST_CHANGES : PySem.W.nsIn K mainGlobals "MOST_CHANGES" = some (some (.int 120 tk_MOST_CHANGES)))
    (aC : PySem.W.nsIn K mainGlobals "Tree" = some (some (.ref C)))
    (z_len : PySem.W.nsIn K mainGlobals "len" = some none)
    (z_int : PySem.W.nsIn K mainGlobals "int" = some none)
    (z_range : PySem.W.nsIn K mainGlobals "range" = some none)
    (z_isinstance : PySem.W.nsIn K mainGlobals "isinstance" = some none)
    (z_tuple : PySem.W.nsIn K mainGlobals "tuple" = some none)
    (z_list : PySem.W.nsIn K mainGlobals "list" = some none)
    (z_bool : PySem.W.nsIn K mainGlobals "bool" = some none)
    (z_str : PySem.W.nsIn K mainGlobals "str" = some none)
    (z_dict : PySem.W.nsIn K mainGlobals "dict" = some none)
    (z_sorted : PySem.W.nsIn K mainGlobals "sorted" = some none)
    (z_all : PySem.W.nsIn K mainGlobals "all" = some none)
    (z_ord : PySem.W.nsIn K mainGlobals "ord" = some none)
    (z_zip : PySem.W.nsIn K mainGlobals "zip" = some none)
    (z_max : PySem.W.nsIn K mainGlobals "max" = some none)
    (z_min : PySem.W.nsIn K mainGlobals "min" = some none)
    (z_enumerate : PySem.W.nsIn K mainGlobals "enumerate" = some none)
    (agV : PySem.W.nsIn K mainGlobals "BadValue" = some (some (.ref CV)))
    (agS : PySem.W.nsIn K mainGlobals "BadSyntax" = some (some (.ref CS)))
    (aB : PySem.W.nsIn K mainGlobals "BEHIND" = some (some (.ref fB)))
    (aL : PySem.W.nsIn K mainGlobals "LAST" = some (some (.ref fL)))
    (lSq : K.lookup fSq = some ⟨ocSq, odSq, .func (PySem.W.fnOf "is_sequence" "is_sequence" (defArgs s_is_sequence) (defBody s_is_sequence) (defScope s_is_sequence) .none kVSq dcSq pmSq anSq cdSq ctSq), slSq⟩)
    (cSq : PySem.W.codeIn K cdSq "is_sequence" = true)
    (kSq : PySem.W.keepIn K (.ref fSq) = true)
    (lRw : K.lookup fRw = some ⟨ocRw, odRw, .func (PySem.W.fnOf "is_row" "is_row" (defArgs s_is_row) (defBody s_is_row) (defScope s_is_row) .none kVRw dcRw pmRw anRw cdRw ctRw), slRw⟩)
    (cRw : PySem.W.codeIn K cdRw "is_row" = true)
    (kRw : PySem.W.keepIn K (.ref fRw) = true)
    (lSh : K.lookup fSh = some ⟨ocSh, odSh, .func (PySem.W.fnOf "is_shown" "is_shown" (defArgs s_is_shown) (defBody s_is_shown) (defScope s_is_shown) .none kVSh dcSh pmSh anSh cdSh ctSh), slSh⟩)
    (cSh : PySem.W.codeIn K cdSh "is_shown" = true)
    (kSh : PySem.W.keepIn K (.ref fSh) = true)
    (lWd : K.lookup fWd = some ⟨ocWd, odWd, .func (PySem.W.fnOf "is_word" "is_word" (defArgs s_is_word) (defBody s_is_word) (defScope s_is_word) .none kVWd dcWd pmWd anWd cdWd ctWd), slWd⟩)
    (cWd : PySem.W.codeIn K cdWd "is_word" = true)
    (kWd : PySem.W.keepIn K (.ref fWd) = true)
    (lPt : K.lookup fPt = some ⟨ocPt, odPt, .func (PySem.W.fnOf "is_path" "is_path" (defArgs s_is_path) (defBody s_is_path) (defScope s_is_path) .none kVPt dcPt pmPt anPt cdPt ctPt), slPt⟩)
    (cPt : PySem.W.codeIn K cdPt "is_path" = true)
    (kPt : PySem.W.keepIn K (.ref fPt) = true)
    (lSg : K.lookup fSg = some ⟨ocSg, odSg, .func (PySem.W.fnOf "is_signs" "is_signs" (defArgs s_is_signs) (defBody s_is_signs) (defScope s_is_signs) .none kVSg dcSg pmSg anSg cdSg ctSg), slSg⟩)
    (cSg : PySem.W.codeIn K cdSg "is_signs" = true)
    (kSg : PySem.W.keepIn K (.ref fSg) = true)
    (lCt : K.lookup fCt = some ⟨ocCt, odCt, .func (PySem.W.fnOf "is_content" "is_content" (defArgs s_is_content) (defBody s_is_content) (defScope s_is_content) .none kVCt dcCt pmCt anCt cdCt ctCt), slCt⟩)
    (cCt : PySem.W.codeIn K cdCt "is_content" = true)
    (kCt : PySem.W.keepIn K (.ref fCt) = true)
    (lAs : K.lookup fAs = some ⟨ocAs, odAs, .func (PySem.W.fnOf "is_ascending" "is_ascending" (defArgs s_is_ascending) (defBody s_is_ascending) (defScope s_is_ascending) .none kVAs dcAs pmAs anAs cdAs ctAs), slAs⟩)
    (cAs : PySem.W.codeIn K cdAs "is_ascending" = true)
    (kAs : PySem.W.keepIn K (.ref fAs) = true)
    (lFi : K.lookup fFi = some ⟨ocFi, odFi, .func (PySem.W.fnOf "is_files" "is_files" (defArgs s_is_files) (defBody s_is_files) (defScope s_is_files) .none kVFi dcFi pmFi anFi cdFi ctFi), slFi⟩)
    (cFi : PySem.W.codeIn K cdFi "is_files" = true)
    (kFi : PySem.W.keepIn K (.ref fFi) = true)
    (lIi : K.lookup fIi = some ⟨ocIi, odIi, .func (PySem.W.fnOf "is_integer" "is_integer" (defArgs s_is_integer) (defBody s_is_integer) (defScope s_is_integer) .none kVIi dcIi pmIi anIi cdIi ctIi), slIi⟩)
    (cIi : PySem.W.codeIn K cdIi "is_integer" = true)
    (kIi : PySem.W.keepIn K (.ref fIi) = true)
    (lIv : K.lookup fIv = some ⟨ocIv, odIv, .func (PySem.W.fnOf "is_version" "is_version" (defArgs s_is_version) (defBody s_is_version) (defScope s_is_version) .none kVIv dcIv pmIv anIv cdIv ctIv), slIv⟩)
    (cIv : PySem.W.codeIn K cdIv "is_version" = true)
    (kIv : PySem.W.keepIn K (.ref fIv) = true)
    (lIn : K.lookup fIn = some ⟨ocIn, odIn, .func (PySem.W.fnOf "is_need" "is_need" (defArgs s_is_need) (defBody s_is_need) (defScope s_is_need) .none kVIn dcIn pmIn anIn cdIn ctIn), slIn⟩)
    (cIn : PySem.W.codeIn K cdIn "is_need" = true)
    (kIn : PySem.W.keepIn K (.ref fIn) = true)
    (lIs : K.lookup fIs = some ⟨ocIs, odIs, .func (PySem.W.fnOf "is_needs" "is_needs" (defArgs s_is_needs) (defBody s_is_needs) (defScope s_is_needs) .none kVIs dcIs pmIs anIs cdIs ctIs), slIs⟩)
    (cIs : PySem.W.codeIn K cdIs "is_needs" = true)
    (kIs : PySem.W.keepIn K (.ref fIs) = true)
    (lIp : K.lookup fIp = some ⟨ocIp, odIp, .func (PySem.W.fnOf "is_package" "is_package" (defArgs s_is_package) (defBody s_is_package) (defScope s_is_package) .none kVIp dcIp pmIp anIp cdIp ctIp), slIp⟩)
    (cIp : PySem.W.codeIn K cdIp "is_package" = true)
    (kIp : PySem.W.keepIn K (.ref fIp) = true)
    (lCh : K.lookup fCh = some ⟨ocCh, odCh, .func (PySem.W.fnOf "is_change" "is_change" (defArgs s_is_change) (defBody s_is_change) (defScope s_is_change) .none kVCh dcCh pmCh anCh cdCh ctCh), slCh⟩)
    (cCh : PySem.W.codeIn K cdCh "is_change" = true)
    (kCh : PySem.W.keepIn K (.ref fCh) = true)
    (lIe : K.lookup fIe = some ⟨ocIe, odIe, .func (PySem.W.fnOf "is_edit" "is_edit" (defArgs s_is_edit) (defBody s_is_edit) (defScope s_is_edit) .none kVIe dcIe pmIe anIe cdIe ctIe), slIe⟩)
    (cIe : PySem.W.codeIn K cdIe "is_edit" = true)
    (kIe : PySem.W.keepIn K (.ref fIe) = true)
    (lDi : K.lookup fDi = some ⟨ocDi, odDi, .func (PySem.W.fnOf "digit_of" "digit_of" (defArgs s_digit_of) (defBody s_digit_of) (defScope s_digit_of) .none kVDi dcDi pmDi anDi cdDi ctDi), slDi⟩)
    (cDi : PySem.W.codeIn K cdDi "digit_of" = true)
    (kDi : PySem.W.keepIn K (.ref fDi) = true)
    (lNo : K.lookup fNo = some ⟨ocNo, odNo, .func (PySem.W.fnOf "need_of" "need_of" (defArgs s_need_of) (defBody s_need_of) (defScope s_need_of) .none kVNo dcNo pmNo anNo cdNo ctNo), slNo⟩)
    (cNo : PySem.W.codeIn K cdNo "need_of" = true)
    (kNo : PySem.W.keepIn K (.ref fNo) = true)
    (lCl : K.lookup fCl = some ⟨ocCl, odCl, .func (PySem.W.fnOf "content_lines" "content_lines" (defArgs s_content_lines) (defBody s_content_lines) (defScope s_content_lines) .none kVCl dcCl pmCl anCl cdCl ctCl), slCl⟩)
    (cCl : PySem.W.codeIn K cdCl "content_lines" = true)
    (kCl : PySem.W.keepIn K (.ref fCl) = true)
    (lIh : K.lookup fIh = some ⟨ocIh, odIh, .func (PySem.W.fnOf "is_head" "is_head" (defArgs s_is_head) (defBody s_is_head) (defScope s_is_head) .none kVIh dcIh pmIh anIh cdIh ctIh), slIh⟩)
    (cIh : PySem.W.codeIn K cdIh "is_head" = true)
    (kIh : PySem.W.keepIn K (.ref fIh) = true)
    (lKb : K.lookup fKb = some ⟨ocKb, odKb, .func (PySem.W.fnOf "kind_behind" "kind_behind" (defArgs s_kind_behind) (defBody s_kind_behind) (defScope s_kind_behind) .none kVKb dcKb pmKb anKb cdKb ctKb), slKb⟩)
    (cKb : PySem.W.codeIn K cdKb "kind_behind" = true)
    (kKb : PySem.W.keepIn K (.ref fKb) = true)
    (lCo : K.lookup fCo = some ⟨ocCo, odCo, .func (PySem.W.fnOf "change_of" "change_of" (defArgs s_change_of) (defBody s_change_of) (defScope s_change_of) .none kVCo dcCo pmCo anCo cdCo ctCo), slCo⟩)
    (cCo : PySem.W.codeIn K cdCo "change_of" = true)
    (kCo : PySem.W.keepIn K (.ref fCo) = true)
    (lBl : K.lookup fBl = some ⟨ocBl, odBl, .func (PySem.W.fnOf "blocks_of" "blocks_of" (defArgs s_blocks_of) (defBody s_blocks_of) (defScope s_blocks_of) .none kVBl dcBl pmBl anBl cdBl ctBl), slBl⟩)
    (cBl : PySem.W.codeIn K cdBl "blocks_of" = true)
    (kBl : PySem.W.keepIn K (.ref fBl) = true)
    (lVo : K.lookup fVo = some ⟨ocVo, odVo, .func (PySem.W.fnOf "value_of" "value_of" (defArgs s_value_of) (defBody s_value_of) (defScope s_value_of) .none kVVo dcVo pmVo anVo cdVo ctVo), slVo⟩)
    (cVo : PySem.W.codeIn K cdVo "value_of" = true)
    (kVo : PySem.W.keepIn K (.ref fVo) = true)
    (lPa : K.lookup fPa = some ⟨ocPa, odPa, .func (PySem.W.fnOf "parse" "parse" (defArgs s_parse) (defBody s_parse) (defScope s_parse) .none kVPa dcPa pmPa anPa cdPa ctPa), slPa⟩)
    (cPa : PySem.W.codeIn K cdPa "parse" = true)
    (kPa : PySem.W.keepIn K (.ref fPa) = true)
    (lPd : K.lookup fPd = some ⟨ocPd, odPd, .func (PySem.W.fnOf "printed" "printed" (defArgs s_printed) (defBody s_printed) (defScope s_printed) .none kVPd dcPd pmPd anPd cdPd ctPd), slPd⟩)
    (cPd : PySem.W.codeIn K cdPd "printed" = true)
    (kPd : PySem.W.keepIn K (.ref fPd) = true)
    (lSo : K.lookup fSo = some ⟨ocSo, odSo, .func (PySem.W.fnOf "_law_so" "_law_so" (defArgs sSo) (defBody sSo) (defScope sSo) .none kVSo dcSo pmSo anSo cdSo ctSo), slSo⟩)
    (cSo : PySem.W.codeIn K cdSo "_law_so" = true)
    (kSo : PySem.W.keepIn K (.ref fSo) = true)
    (lNu : K.lookup fNu = some ⟨ocNu, odNu, .func (PySem.W.fnOf "_law_numbers" "_law_numbers" (defArgs sNum) (defBody sNum) (defScope sNum) .none kVNu dcNu pmNu anNu cdNu ctNu), slNu⟩)
    (cNu : PySem.W.codeIn K cdNu "_law_numbers" = true)
    (kNu : PySem.W.keepIn K (.ref fNu) = true)
    (lDr : K.lookup fDr = some ⟨ocDr, odDr, .func (PySem.W.fnOf "_law_draw" "_law_draw" (defArgs sDraw) (defBody sDraw) (defScope sDraw) .none kVDr dcDr pmDr anDr cdDr ctDr), slDr⟩)
    (cDr : PySem.W.codeIn K cdDr "_law_draw" = true)
    (kDr : PySem.W.keepIn K (.ref fDr) = true)
    (lTk : K.lookup fTk = some ⟨ocTk, odTk, .func (PySem.W.fnOf "_law_take" "_law_take" (defArgs sTake) (defBody sTake) (defScope sTake) .none kVTk dcTk pmTk anTk cdTk ctTk), slTk⟩)
    (cTk : PySem.W.codeIn K cdTk "_law_take" = true)
    (kTk : PySem.W.keepIn K (.ref fTk) = true)
    (lLo : K.lookup fLo = some ⟨ocLo, odLo, .func (PySem.W.fnOf "_law_loose" "_law_loose" (defArgs s_l_loose) (defBody s_l_loose) (defScope s_l_loose) .none kVLo dcLo pmLo anLo cdLo ctLo), slLo⟩)
    (cLo : PySem.W.codeIn K cdLo "_law_loose" = true)
    (kLo : PySem.W.keepIn K (.ref fLo) = true)
    (lTx : K.lookup fTx = some ⟨ocTx, odTx, .func (PySem.W.fnOf "_law_text" "_law_text" (defArgs s_l_text) (defBody s_l_text) (defScope s_l_text) .none kVTx dcTx pmTx anTx cdTx ctTx), slTx⟩)
    (cTx : PySem.W.codeIn K cdTx "_law_text" = true)
    (kTx : PySem.W.keepIn K (.ref fTx) = true)
    (lEx : K.lookup fEx = some ⟨ocEx, odEx, .func (PySem.W.fnOf "_law_expression" "_law_expression" (defArgs s_l_expression) (defBody s_l_expression) (defScope s_l_expression) .none kVEx dcEx pmEx anEx cdEx ctEx), slEx⟩)
    (cEx : PySem.W.codeIn K cdEx "_law_expression" = true)
    (kEx : PySem.W.keepIn K (.ref fEx) = true)
    (lRr : K.lookup fRr = some ⟨ocRr, odRr, .func (PySem.W.fnOf "_law_rule_rows" "_law_rule_rows" (defArgs s_l_rule_rows) (defBody s_l_rule_rows) (defScope s_l_rule_rows) .none kVRr dcRr pmRr anRr cdRr ctRr), slRr⟩)
    (cRr : PySem.W.codeIn K cdRr "_law_rule_rows" = true)
    (kRr : PySem.W.keepIn K (.ref fRr) = true)
    (lSr : K.lookup fSr = some ⟨ocSr, odSr, .func (PySem.W.fnOf "_law_setting_rows" "_law_setting_rows" (defArgs s_l_setting_rows) (defBody s_l_setting_rows) (defScope s_l_setting_rows) .none kVSr dcSr pmSr anSr cdSr ctSr), slSr⟩)
    (cSr : PySem.W.codeIn K cdSr "_law_setting_rows" = true)
    (kSr : PySem.W.keepIn K (.ref fSr) = true)
    (lCn : K.lookup fCn = some ⟨ocCn, odCn, .func (PySem.W.fnOf "_law_content" "_law_content" (defArgs s_l_content) (defBody s_l_content) (defScope s_l_content) .none kVCn dcCn pmCn anCn cdCn ctCn), slCn⟩)
    (cCn : PySem.W.codeIn K cdCn "_law_content" = true)
    (kCn : PySem.W.keepIn K (.ref fCn) = true)
    (lPr : K.lookup fPr = some ⟨ocPr, odPr, .func (PySem.W.fnOf "_law_place_rows" "_law_place_rows" (defArgs s_l_place_rows) (defBody s_l_place_rows) (defScope s_l_place_rows) .none kVPr dcPr pmPr anPr cdPr ctPr), slPr⟩)
    (cPr : PySem.W.codeIn K cdPr "_law_place_rows" = true)
    (kPr : PySem.W.keepIn K (.ref fPr) = true)
    (lOr : K.lookup fOr = some ⟨ocOr, odOr, .func (PySem.W.fnOf "_law_own_rows" "_law_own_rows" (defArgs s_l_own_rows) (defBody s_l_own_rows) (defScope s_l_own_rows) .none kVOr dcOr pmOr anOr cdOr ctOr), slOr⟩)
    (cOr : PySem.W.codeIn K cdOr "_law_own_rows" = true)
    (kOr : PySem.W.keepIn K (.ref fOr) = true)
    (lGr : K.lookup fGr = some ⟨ocGr, odGr, .func (PySem.W.fnOf "_law_goal_rows" "_law_goal_rows" (defArgs s_l_goal_rows) (defBody s_l_goal_rows) (defScope s_l_goal_rows) .none kVGr dcGr pmGr anGr cdGr ctGr), slGr⟩)
    (cGr : PySem.W.codeIn K cdGr "_law_goal_rows" = true)
    (kGr : PySem.W.keepIn K (.ref fGr) = true)
    (lTr : K.lookup fTr = some ⟨ocTr, odTr, .func (PySem.W.fnOf "_law_tree" "_law_tree" (defArgs s_l_tree) (defBody s_l_tree) (defScope s_l_tree) .none kVTr dcTr pmTr anTr cdTr ctTr), slTr⟩)
    (cTr : PySem.W.codeIn K cdTr "_law_tree" = true)
    (kTr : PySem.W.keepIn K (.ref fTr) = true)
    (lLe : K.lookup fLe = some ⟨ocLe, odLe, .func (PySem.W.fnOf "_law_edit" "_law_edit" (defArgs s_l_edit) (defBody s_l_edit) (defScope s_l_edit) .none kVLe dcLe pmLe anLe cdLe ctLe), slLe⟩)
    (cLe : PySem.W.codeIn K cdLe "_law_edit" = true)
    (kLe : PySem.W.keepIn K (.ref fLe) = true)
    (lPf : K.lookup fPf = some ⟨ocPf, odPf, .func (PySem.W.fnOf "_law_parse_fault" "_law_parse_fault" (defArgs s_l_parse_fault) (defBody s_l_parse_fault) (defScope s_l_parse_fault) .none kVPf dcPf pmPf anPf cdPf ctPf), slPf⟩)
    (cPf : PySem.W.codeIn K cdPf "_law_parse_fault" = true)
    (kPf : PySem.W.keepIn K (.ref fPf) = true)
    (lLc : K.lookup fLc = some ⟨ocLc, odLc, .func (PySem.W.fnOf "_law_content_rows" "_law_content_rows" (defArgs s_l_content_rows) (defBody s_l_content_rows) (defScope s_l_content_rows) .none kVLc dcLc pmLc anLc cdLc ctLc), slLc⟩)
    (cLc : PySem.W.codeIn K cdLc "_law_content_rows" = true)
    (kLc : PySem.W.keepIn K (.ref fLc) = true)
    (lLt : K.lookup fLt = some ⟨ocLt, odLt, .func (PySem.W.fnOf "_law_tree_rows" "_law_tree_rows" (defArgs s_l_tree_rows) (defBody s_l_tree_rows) (defScope s_l_tree_rows) .none kVLt dcLt pmLt anLt cdLt ctLt), slLt⟩)
    (cLt : PySem.W.codeIn K cdLt "_law_tree_rows" = true)
    (kLt : PySem.W.keepIn K (.ref fLt) = true)
    (lLd : K.lookup fLd = some ⟨ocLd, odLd, .func (PySem.W.fnOf "_law_edit_rows" "_law_edit_rows" (defArgs s_l_edit_rows) (defBody s_l_edit_rows) (defScope s_l_edit_rows) .none kVLd dcLd pmLd anLd cdLd ctLd), slLd⟩)
    (cLd : PySem.W.codeIn K cdLd "_law_edit_rows" = true)
    (kLd : PySem.W.keepIn K (.ref fLd) = true)
    (lLp : K.lookup fLp = some ⟨ocLp, odLp, .func (PySem.W.fnOf "_law_package_rows" "_law_package_rows" (defArgs s_l_package_rows) (defBody s_l_package_rows) (defScope s_l_package_rows) .none kVLp dcLp pmLp anLp cdLp ctLp), slLp⟩)
    (cLp : PySem.W.codeIn K cdLp "_law_package_rows" = true)
    (kLp : PySem.W.keepIn K (.ref fLp) = true)
    (lLx : K.lookup fLx = some ⟨ocLx, odLx, .func (PySem.W.fnOf "_law_text_of" "_law_text_of" (defArgs s_l_text_of) (defBody s_l_text_of) (defScope s_l_text_of) .none kVLx dcLx pmLx anLx cdLx ctLx), slLx⟩)
    (cLx : PySem.W.codeIn K cdLx "_law_text_of" = true)
    (kLx : PySem.W.keepIn K (.ref fLx) = true)
    (lM : K.lookup fM = some ⟨ocM, odM, .func (PySem.W.fnOf "law" "law" (defArgs s_law) (defBody s_law) (defScope s_law) .none kVM dcM pmM anM cdM ctM), slM⟩)
    (cM : PySem.W.codeIn K cdM "law" = true)
    (kM : PySem.W.keepIn K (.ref fM) = true)
    (iI : PySem.W.findIn K (.ref C) "__init__" = some (some (.ref fI)))
    (tI : PySem.W.isFn K (.ref fI) = true)
    (lI : K.lookup fI = some ⟨ocI, odI, .func (PySem.W.fnOf "__init__" "Tree.__init__" (defArgs s_Tree_init) (defBody s_Tree_init) (defScope s_Tree_init) (.ref TI) kVI dcI pmI anI cdI ctI), slI⟩)
    (cI : PySem.W.codeIn K cdI "Tree.__init__" = true)
    (kI : PySem.W.keepIn K (.ref fI) = true)
    (lT : K.lookup TI = some ⟨ocT, odT, .seq #[.ref eI] nT, slT⟩)
    (iE : PySem.W.findIn K (.ref C) "__eq__" = some (some (.ref fE)))
    (tE : PySem.W.isFn K (.ref fE) = true)
    (lE : K.lookup fE = some ⟨ocE, odE, .func (PySem.W.fnOf "__eq__" "Tree.__eq__" (defArgs s_Tree_eq) (defBody s_Tree_eq) (defScope s_Tree_eq) .none kVE dcE pmE anE cdE ctE), slE⟩)
    (cE : PySem.W.codeIn K cdE "Tree.__eq__" = true)
    (kE : PySem.W.keepIn K (.ref fE) = true)
    (iP : PySem.W.findIn K (.ref C) "files" = some (some (.ref pF)))
    (gP : PySem.W.specialIn K (.ref pF) "__get__" = some (some (.builtin "property.__get__")))
    (tP : PySem.W.takesIn K (.ref pF) = some true)
    (rP : PySem.W.recIn K pF "property" = some (.ref fP :: rest))
    (lP : K.lookup fP = some ⟨ocP, odP, .func (PySem.W.fnOf "files" "Tree.files" (defArgs s_Tree_files) (defBody s_Tree_files) (defScope s_Tree_files) .none kVP dcP pmP anP cdP ctP), slP⟩)
    (cP : PySem.W.codeIn K cdP "Tree.files" = true)
    (kP : PySem.W.keepIn K (.ref fP) = true)
    (x_pg : PySem.W.plainGet K C Str.empty = true)
    (x_hd : PySem.W.hasDictIn K C = true)
    (x_po : PySem.W.plainOver K C = true)
    (x_sa : PySem.W.findIn K (.ref C) "__setattr__" = some (some (.builtin "object.__setattr__")))
    (x_ca : PySem.W.findIn K (.ref C) "__class__" = some (some (.builtin "object.__class__")))
    (x_cg : PySem.W.specialIn K (.builtin "object.__class__") "__get__" = some (some (.builtin "getset_descriptor.__get__")))
    (x_ct : PySem.W.takesIn K (.builtin "object.__class__") = some true)
    (x_cm : PySem.W.mroIn K C (.type "object") = some true)
    (x_nf : PySem.W.findIn K (.ref C) "_files" = some none)
    (x_mk : PySem.W.makesIn K C = true)
    (x_kp : PySem.W.keepIn K (.ref C) = true)
    (x_kC : PySem.W.kitOne K (.ref C) (.ref C) = some true)
    (x_kT : PySem.W.kitOne K (.type "tuple") (.ref C) = some false)
    (x_kN : PySem.W.kitOne K (.type "NoneType") (.ref C) = some false)
    (x_fT : PySem.W.notFirst K C (.type "tuple") = true)
    (x_fN : PySem.W.notFirst K C (.type "NoneType") = true)
    (igV : PySem.W.findIn K (.ref CV) "__init__" = some (some (.ref fgV)))
    (tgV : PySem.W.typeIn K (.ref fgV) = some (.type "function"))
    (lgV : K.lookup fgV = some ⟨ocgV, odgV, .func (PySem.W.fnOf "__init__" "BadValue.__init__" (defArgs iBV) (defBody iBV) (defScope iBV) .none kVgV dcgV pmgV angV cdgV ctgV), slgV⟩)
    (cgV : PySem.W.codeIn K cdgV "BadValue.__init__" = true)
    (kgV : PySem.W.keepIn K (.ref fgV) = true)
    (x1gV : PySem.W.excInitIn K CV exMro "Exception.__new__" = true)
    (x2gV : PySem.W.excOver K CV exMro = true)
    (x3gV : PySem.W.hasDictIn K CV = true)
    (x4gV : PySem.W.findIn K (.ref CV) "__setattr__" = some (some (.builtin "object.__setattr__")))
    (x5gV : PySem.W.subIn K (.ref CV) (.type "BaseException") = some true)
    (x6gV : PySem.W.typeIn K (.ref CV) = some (.type "type"))
    (x7gV : PySem.W.keepIn K (.ref CV) = true)
    (x8gV : PySem.W.findIn K (.ref CV) "__getattribute__" = some (some (.builtin "BaseException.__getattribute__")))
    (x9gV : PySem.W.findIn K (.ref CV) "__getattr__" = some none)
    (y2gV : PySem.W.findIn K (.ref CV) "__class__" = some (some (.builtin "object.__class__")))
    (y3gV : PySem.W.mroIn K CV (.type "object") = some true)
    (hCVgV : PySem.W.exmOne K (.ref CV) (.ref CV) = some true)
    (natgV : PySem.W.findIn K (.ref CV) "at" = some none)
    (igS : PySem.W.findIn K (.ref CS) "__init__" = some (some (.ref fgS)))
    (tgS : PySem.W.typeIn K (.ref fgS) = some (.type "function"))
    (lgS : K.lookup fgS = some ⟨ocgS, odgS, .func (PySem.W.fnOf "__init__" "BadSyntax.__init__" (defArgs iBS) (defBody iBS) (defScope iBS) .none kVgS dcgS pmgS angS cdgS ctgS), slgS⟩)
    (cgS : PySem.W.codeIn K cdgS "BadSyntax.__init__" = true)
    (kgS : PySem.W.keepIn K (.ref fgS) = true)
    (x1gS : PySem.W.excInitIn K CS exMro "Exception.__new__" = true)
    (x2gS : PySem.W.excOver K CS exMro = true)
    (x3gS : PySem.W.hasDictIn K CS = true)
    (x4gS : PySem.W.findIn K (.ref CS) "__setattr__" = some (some (.builtin "object.__setattr__")))
    (x5gS : PySem.W.subIn K (.ref CS) (.type "BaseException") = some true)
    (x6gS : PySem.W.typeIn K (.ref CS) = some (.type "type"))
    (x7gS : PySem.W.keepIn K (.ref CS) = true)
    (x8gS : PySem.W.findIn K (.ref CS) "__getattribute__" = some (some (.builtin "BaseException.__getattribute__")))
    (x9gS : PySem.W.findIn K (.ref CS) "__getattr__" = some none)
    (y2gS : PySem.W.findIn K (.ref CS) "__class__" = some (some (.builtin "object.__class__")))
    (y3gS : PySem.W.mroIn K CS (.type "object") = some true)
    (hCSgS : PySem.W.exmOne K (.ref CS) (.ref CS) = some true)
    (natgS : PySem.W.findIn K (.ref CS) "at" = some none)
    (lB : K.lookup fB = some ⟨.type "dict", none, .dict esB nB, #[]⟩)
    (kB : PySem.W.KeysLit w.params esB.toList)
    (nB0 : PySem.W.nsIn K fB "" = some (some (.ref b0)))
    (lB0 : K.lookup b0 = some ⟨.type "tuple", bo0, .seq #[.str "tree" bt0_0, .str "edit" bt0_1, .str "package" bt0_2] bn0, bs0⟩)
    (nB1 : PySem.W.nsIn K fB "tree" = some (some (.ref b1)))
    (lB1 : K.lookup b1 = some ⟨.type "tuple", bo1, .seq #[.str "file" bt1_0] bn1, bs1⟩)
    (nB2 : PySem.W.nsIn K fB "file" = some (some (.ref b2)))
    (lB2 : K.lookup b2 = some ⟨.type "tuple", bo2, .seq #[.str "|" bt2_0] bn2, bs2⟩)
    (nB3 : PySem.W.nsIn K fB "file |" = some (some (.ref b3)))
    (lB3 : K.lookup b3 = some ⟨.type "tuple", bo3, .seq #[.str "|" bt3_0, .str "file" bt3_1] bn3, bs3⟩)
    (nB4 : PySem.W.nsIn K fB "edit" = some (some (.ref b4)))
    (lB4 : K.lookup b4 = some ⟨.type "tuple", bo4, .seq #[.str "put" bt4_0, .str "drop" bt4_1] bn4, bs4⟩)
    (nB5 : PySem.W.nsIn K fB "put" = some (some (.ref b5)))
    (lB5 : K.lookup b5 = some ⟨.type "tuple", bo5, .seq #[.str "|" bt5_0] bn5, bs5⟩)
    (nB6 : PySem.W.nsIn K fB "put |" = some (some (.ref b6)))
    (lB6 : K.lookup b6 = some ⟨.type "tuple", bo6, .seq #[.str "|" bt6_0, .str "put" bt6_1, .str "drop" bt6_2] bn6, bs6⟩)
    (nB7 : PySem.W.nsIn K fB "drop" = some (some (.ref b7)))
    (lB7 : K.lookup b7 = some ⟨.type "tuple", bo7, .seq #[.str "put" bt7_0, .str "drop" bt7_1] bn7, bs7⟩)
    (nB8 : PySem.W.nsIn K fB "package" = some (some (.ref b8)))
    (lB8 : K.lookup b8 = some ⟨.type "tuple", bo8, .seq #[.str "need" bt8_0, .str "content" bt8_1] bn8, bs8⟩)
    (nB9 : PySem.W.nsIn K fB "need" = some (some (.ref b9)))
    (lB9 : K.lookup b9 = some ⟨.type "tuple", bo9, .seq #[.str "need" bt9_0, .str "content" bt9_1] bn9, bs9⟩)
    (nB10 : PySem.W.nsIn K fB "content" = some (some (.ref b10)))
    (lB10 : K.lookup b10 = some ⟨.type "tuple", bo10, .seq #[.str "|" bt10_0] bn10, bs10⟩)
    (nB11 : PySem.W.nsIn K fB "content |" = some (some (.ref b11)))
    (lB11 : K.lookup b11 = some ⟨.type "tuple", bo11, .seq #[.str "|" bt11_0] bn11, bs11⟩)
    (lB12 : K.lookup fL = some ⟨.type "tuple", bo12, .seq #[.str "tree" bt12_0, .str "file |" bt12_1, .str "edit" bt12_2, .str "put |" bt12_3, .str "drop" bt12_4, .str "content |" bt12_5] bn12, bs12⟩)
    (ntNoneType : PySem.W.kitOne K (.type "NoneType") (.ref C) = some false)
    (ntbool : PySem.W.kitOne K (.type "bool") (.ref C) = some false)
    (ntint : PySem.W.kitOne K (.type "int") (.ref C) = some false)
    (ntstr : PySem.W.kitOne K (.type "str") (.ref C) = some false)
    (ntlist : PySem.W.kitOne K (.type "list") (.ref C) = some false)
    (nttuple : PySem.W.kitOne K (.type "tuple") (.ref C) = some false)
    (hsv : PySem.W.exmOne K (.ref CS) (.ref CV) = some false)
    : ∃ fd : FuncData, (∀ (s : Shared) (v : Value), BindsTo s fd ⟨[v], []⟩ [("script", v)]) ∧ ∀ base : Heap, K.In base → base.Ns mainGlobals mg → FnOk l.prog w K mg base CX0 10 fa fd ["script"] (spLaw K) := by
  have e := hfa.symm.trans (PySem.W.mg_of X G aM)
  cases e
  have T : Glo mg := ⟨PySem.W.mg_none_of X G z_len, PySem.W.mg_none_of X G z_int, PySem.W.mg_none_of X G z_range, PySem.W.mg_none_of X G z_isinstance, PySem.W.mg_none_of X G z_tuple, PySem.W.mg_none_of X G z_list, PySem.W.mg_none_of X G z_bool, PySem.W.mg_none_of X G z_str, PySem.W.mg_none_of X G z_dict, PySem.W.mg_none_of X G z_sorted, PySem.W.mg_none_of X G z_all, PySem.W.mg_none_of X G z_ord, PySem.W.mg_none_of X G z_zip, PySem.W.mg_none_of X G z_max, PySem.W.mg_none_of X G z_min⟩
  have FSq := fun_mk (st := s_is_sequence) lSq cSq kSq
  have ASq : At K mg "is_sequence" s_is_sequence ["value"] fSq _ := ⟨FSq, PySem.W.mg_of X G aSq, FSq.binds fun _ _ _ _ _ _ us hl => match us, hl with | [_], _ => rfl⟩
  have FRw := fun_mk (st := s_is_row) lRw cRw kRw
  have ARw : At K mg "is_row" s_is_row ["value", "length"] fRw _ := ⟨FRw, PySem.W.mg_of X G aRw, FRw.binds fun _ _ _ _ _ _ us hl => match us, hl with | [_, _], _ => rfl⟩
  have FSh := fun_mk (st := s_is_shown) lSh cSh kSh
  have ASh : At K mg "is_shown" s_is_shown ["value"] fSh _ := ⟨FSh, PySem.W.mg_of X G aSh, FSh.binds fun _ _ _ _ _ _ us hl => match us, hl with | [_], _ => rfl⟩
  have FWd := fun_mk (st := s_is_word) lWd cWd kWd
  have AWd : At K mg "is_word" s_is_word ["value"] fWd _ := ⟨FWd, PySem.W.mg_of X G aWd, FWd.binds fun _ _ _ _ _ _ us hl => match us, hl with | [_], _ => rfl⟩
  have FPt := fun_mk (st := s_is_path) lPt cPt kPt
  have APt : At K mg "is_path" s_is_path ["value"] fPt _ := ⟨FPt, PySem.W.mg_of X G aPt, FPt.binds fun _ _ _ _ _ _ us hl => match us, hl with | [_], _ => rfl⟩
  have FSg := fun_mk (st := s_is_signs) lSg cSg kSg
  have ASg : At K mg "is_signs" s_is_signs ["value", "most"] fSg _ := ⟨FSg, PySem.W.mg_of X G aSg, FSg.binds fun _ _ _ _ _ _ us hl => match us, hl with | [_, _], _ => rfl⟩
  have FCt := fun_mk (st := s_is_content) lCt cCt kCt
  have ACt : At K mg "is_content" s_is_content ["value"] fCt _ := ⟨FCt, PySem.W.mg_of X G aCt, FCt.binds fun _ _ _ _ _ _ us hl => match us, hl with | [_], _ => rfl⟩
  have FAs := fun_mk (st := s_is_ascending) lAs cAs kAs
  have AAs : At K mg "is_ascending" s_is_ascending ["keys"] fAs _ := ⟨FAs, PySem.W.mg_of X G aAs, FAs.binds fun _ _ _ _ _ _ us hl => match us, hl with | [_], _ => rfl⟩
  have FFi := fun_mk (st := s_is_files) lFi cFi kFi
  have AFi : At K mg "is_files" s_is_files ["value"] fFi _ := ⟨FFi, PySem.W.mg_of X G aFi, FFi.binds fun _ _ _ _ _ _ us hl => match us, hl with | [_], _ => rfl⟩
  have FIi := fun_mk (st := s_is_integer) lIi cIi kIi
  have AIi : At K mg "is_integer" s_is_integer ["value"] fIi _ := ⟨FIi, PySem.W.mg_of X G aIi, FIi.binds fun _ _ _ _ _ _ us hl => match us, hl with | [_], _ => rfl⟩
  have FIv := fun_mk (st := s_is_version) lIv cIv kIv
  have AIv : At K mg "is_version" s_is_version ["value"] fIv _ := ⟨FIv, PySem.W.mg_of X G aIv, FIv.binds fun _ _ _ _ _ _ us hl => match us, hl with | [_], _ => rfl⟩
  have FIn := fun_mk (st := s_is_need) lIn cIn kIn
  have AIn : At K mg "is_need" s_is_need ["value"] fIn _ := ⟨FIn, PySem.W.mg_of X G aIn, FIn.binds fun _ _ _ _ _ _ us hl => match us, hl with | [_], _ => rfl⟩
  have FIs := fun_mk (st := s_is_needs) lIs cIs kIs
  have AIs : At K mg "is_needs" s_is_needs ["value", "most"] fIs _ := ⟨FIs, PySem.W.mg_of X G aIs, FIs.binds fun _ _ _ _ _ _ us hl => match us, hl with | [_, _], _ => rfl⟩
  have FIp := fun_mk (st := s_is_package) lIp cIp kIp
  have AIp : At K mg "is_package" s_is_package ["value"] fIp _ := ⟨FIp, PySem.W.mg_of X G aIp, FIp.binds fun _ _ _ _ _ _ us hl => match us, hl with | [_], _ => rfl⟩
  have FCh := fun_mk (st := s_is_change) lCh cCh kCh
  have ACh : At K mg "is_change" s_is_change ["value"] fCh _ := ⟨FCh, PySem.W.mg_of X G aCh, FCh.binds fun _ _ _ _ _ _ us hl => match us, hl with | [_], _ => rfl⟩
  have FIe := fun_mk (st := s_is_edit) lIe cIe kIe
  have AIe : At K mg "is_edit" s_is_edit ["value"] fIe _ := ⟨FIe, PySem.W.mg_of X G aIe, FIe.binds fun _ _ _ _ _ _ us hl => match us, hl with | [_], _ => rfl⟩
  have FDi := fun_mk (st := s_digit_of) lDi cDi kDi
  have ADi : At K mg "digit_of" s_digit_of ["text"] fDi _ := ⟨FDi, PySem.W.mg_of X G aDi, FDi.binds fun _ _ _ _ _ _ us hl => match us, hl with | [_], _ => rfl⟩
  have FNo := fun_mk (st := s_need_of) lNo cNo kNo
  have ANo : At K mg "need_of" s_need_of ["parts"] fNo _ := ⟨FNo, PySem.W.mg_of X G aNo, FNo.binds fun _ _ _ _ _ _ us hl => match us, hl with | [_], _ => rfl⟩
  have FCl := fun_mk (st := s_content_lines) lCl cCl kCl
  have ACl : At K mg "content_lines" s_content_lines ["content"] fCl _ := ⟨FCl, PySem.W.mg_of X G aCl, FCl.binds fun _ _ _ _ _ _ us hl => match us, hl with | [_], _ => rfl⟩
  have FIh := fun_mk (st := s_is_head) lIh cIh kIh
  have AIh : At K mg "is_head" s_is_head ["parts"] fIh _ := ⟨FIh, PySem.W.mg_of X G aIh, FIh.binds fun _ _ _ _ _ _ us hl => match us, hl with | [_], _ => rfl⟩
  have FKb := fun_mk (st := s_kind_behind) lKb cKb kKb
  have AKb : At K mg "kind_behind" s_kind_behind ["kind", "line"] fKb _ := ⟨FKb, PySem.W.mg_of X G aKb, FKb.binds fun _ _ _ _ _ _ us hl => match us, hl with | [_, _], _ => rfl⟩
  have FCo := fun_mk (st := s_change_of) lCo cCo kCo
  have ACo : At K mg "change_of" s_change_of ["parts", "content"] fCo _ := ⟨FCo, PySem.W.mg_of X G aCo, FCo.binds fun _ _ _ _ _ _ us hl => match us, hl with | [_, _], _ => rfl⟩
  have FBl := fun_mk (st := s_blocks_of) lBl cBl kBl
  have ABl : At K mg "blocks_of" s_blocks_of ["lines"] fBl _ := ⟨FBl, PySem.W.mg_of X G aBl, FBl.binds fun _ _ _ _ _ _ us hl => match us, hl with | [_], _ => rfl⟩
  have FVo := fun_mk (st := s_value_of) lVo cVo kVo
  have AVo : At K mg "value_of" s_value_of ["blocks"] fVo _ := ⟨FVo, PySem.W.mg_of X G aVo, FVo.binds fun _ _ _ _ _ _ us hl => match us, hl with | [_], _ => rfl⟩
  have FPa := fun_mk (st := s_parse) lPa cPa kPa
  have APa : At K mg "parse" s_parse ["text"] fPa _ := ⟨FPa, PySem.W.mg_of X G aPa, FPa.binds fun _ _ _ _ _ _ us hl => match us, hl with | [_], _ => rfl⟩
  have FPd := fun_mk (st := s_printed) lPd cPd kPd
  have APd : At K mg "printed" s_printed ["value"] fPd _ := ⟨FPd, PySem.W.mg_of X G aPd, FPd.binds fun _ _ _ _ _ _ us hl => match us, hl with | [_], _ => rfl⟩
  have FSo := fun_mk (st := sSo) lSo cSo kSo
  have ASo : At K mg "_law_so" sSo ["found", "meant"] fSo _ := ⟨FSo, PySem.W.mg_of X G aSo, FSo.binds fun _ _ _ _ _ _ us hl => match us, hl with | [_, _], _ => rfl⟩
  have FNu := fun_mk (st := sNum) lNu cNu kNu
  have ANu : At K mg "_law_numbers" sNum ["script"] fNu _ := ⟨FNu, PySem.W.mg_of X G aNu, FNu.binds fun _ _ _ _ _ _ us hl => match us, hl with | [_], _ => rfl⟩
  have FDr := fun_mk (st := sDraw) lDr cDr kDr
  have ADr : At K mg "_law_draw" sDraw ["row", "at", "limit"] fDr _ := ⟨FDr, PySem.W.mg_of X G aDr, FDr.binds fun _ _ _ _ _ _ us hl => match us, hl with | [_, _, _], _ => rfl⟩
  have FTk := fun_mk (st := sTake) lTk cTk kTk
  have ATk : At K mg "_law_take" sTake ["row", "spot", "limit"] fTk _ := ⟨FTk, PySem.W.mg_of X G aTk, FTk.binds fun _ _ _ _ _ _ us hl => match us, hl with | [_, _, _], _ => rfl⟩
  have FLo := fun_mk (st := s_l_loose) lLo cLo kLo
  have ALo : At K mg "_law_loose" s_l_loose ["value", "turn"] fLo _ := ⟨FLo, PySem.W.mg_of X G aLo, FLo.binds fun _ _ _ _ _ _ us hl => match us, hl with | [_, _], _ => rfl⟩
  have FTx := fun_mk (st := s_l_text) lTx cTx kTx
  have ATx : At K mg "_law_text" s_l_text ["row", "spot"] fTx _ := ⟨FTx, PySem.W.mg_of X G aTx, FTx.binds fun _ _ _ _ _ _ us hl => match us, hl with | [_, _], _ => rfl⟩
  have FEx := fun_mk (st := s_l_expression) lEx cEx kEx
  have AEx : At K mg "_law_expression" s_l_expression ["row", "spot", "targets", "deep"] fEx _ := ⟨FEx, PySem.W.mg_of X G aEx, FEx.binds fun _ _ _ _ _ _ us hl => match us, hl with | [_, _, _, _], _ => rfl⟩
  have FRr := fun_mk (st := s_l_rule_rows) lRr cRr kRr
  have ARr : At K mg "_law_rule_rows" s_l_rule_rows ["row", "spot", "many"] fRr _ := ⟨FRr, PySem.W.mg_of X G aRr, FRr.binds fun _ _ _ _ _ _ us hl => match us, hl with | [_, _, _], _ => rfl⟩
  have FSr := fun_mk (st := s_l_setting_rows) lSr cSr kSr
  have ASr : At K mg "_law_setting_rows" s_l_setting_rows ["row", "spot"] fSr _ := ⟨FSr, PySem.W.mg_of X G aSr, FSr.binds fun _ _ _ _ _ _ us hl => match us, hl with | [_, _], _ => rfl⟩
  have FCn := fun_mk (st := s_l_content) lCn cCn kCn
  have ACn : At K mg "_law_content" s_l_content ["rows"] fCn _ := ⟨FCn, PySem.W.mg_of X G aCn, FCn.binds fun _ _ _ _ _ _ us hl => match us, hl with | [_], _ => rfl⟩
  have FPr := fun_mk (st := s_l_place_rows) lPr cPr kPr
  have APr : At K mg "_law_place_rows" s_l_place_rows ["row", "spot"] fPr _ := ⟨FPr, PySem.W.mg_of X G aPr, FPr.binds fun _ _ _ _ _ _ us hl => match us, hl with | [_, _], _ => rfl⟩
  have FOr := fun_mk (st := s_l_own_rows) lOr cOr kOr
  have AOr : At K mg "_law_own_rows" s_l_own_rows ["row", "spot"] fOr _ := ⟨FOr, PySem.W.mg_of X G aOr, FOr.binds fun _ _ _ _ _ _ us hl => match us, hl with | [_, _], _ => rfl⟩
  have FGr := fun_mk (st := s_l_goal_rows) lGr cGr kGr
  have AGr : At K mg "_law_goal_rows" s_l_goal_rows ["row", "spot"] fGr _ := ⟨FGr, PySem.W.mg_of X G aGr, FGr.binds fun _ _ _ _ _ _ us hl => match us, hl with | [_, _], _ => rfl⟩
  have FTr := fun_mk (st := s_l_tree) lTr cTr kTr
  have ATr : At K mg "_law_tree" s_l_tree ["row", "spot"] fTr _ := ⟨FTr, PySem.W.mg_of X G aTr, FTr.binds fun _ _ _ _ _ _ us hl => match us, hl with | [_, _], _ => rfl⟩
  have FLe := fun_mk (st := s_l_edit) lLe cLe kLe
  have ALe : At K mg "_law_edit" s_l_edit ["row", "spot", "files"] fLe _ := ⟨FLe, PySem.W.mg_of X G aLe, FLe.binds fun _ _ _ _ _ _ us hl => match us, hl with | [_, _, _], _ => rfl⟩
  have FPf := fun_mk (st := s_l_parse_fault) lPf cPf kPf
  have APf : At K mg "_law_parse_fault" s_l_parse_fault ["text"] fPf _ := ⟨FPf, PySem.W.mg_of X G aPf, FPf.binds fun _ _ _ _ _ _ us hl => match us, hl with | [_], _ => rfl⟩
  have FLc := fun_mk (st := s_l_content_rows) lLc cLc kLc
  have ALc : At K mg "_law_content_rows" s_l_content_rows ["content"] fLc _ := ⟨FLc, PySem.W.mg_of X G aLc, FLc.binds fun _ _ _ _ _ _ us hl => match us, hl with | [_], _ => rfl⟩
  have FLt := fun_mk (st := s_l_tree_rows) lLt cLt kLt
  have ALt : At K mg "_law_tree_rows" s_l_tree_rows ["files"] fLt _ := ⟨FLt, PySem.W.mg_of X G aLt, FLt.binds fun _ _ _ _ _ _ us hl => match us, hl with | [_], _ => rfl⟩
  have FLd := fun_mk (st := s_l_edit_rows) lLd cLd kLd
  have ALd : At K mg "_law_edit_rows" s_l_edit_rows ["edit"] fLd _ := ⟨FLd, PySem.W.mg_of X G aLd, FLd.binds fun _ _ _ _ _ _ us hl => match us, hl with | [_], _ => rfl⟩
  have FLp := fun_mk (st := s_l_package_rows) lLp cLp kLp
  have ALp : At K mg "_law_package_rows" s_l_package_rows ["package"] fLp _ := ⟨FLp, PySem.W.mg_of X G aLp, FLp.binds fun _ _ _ _ _ _ us hl => match us, hl with | [_], _ => rfl⟩
  have FLx := fun_mk (st := s_l_text_of) lLx cLx kLx
  have ALx : At K mg "_law_text_of" s_l_text_of ["rows"] fLx _ := ⟨FLx, PySem.W.mg_of X G aLx, FLx.binds fun _ _ _ _ _ _ us hl => match us, hl with | [_], _ => rfl⟩
  have FM := fun_mk (st := s_law) lM cM kM
  have AM : At K mg "law" s_law ["script"] fa _ := ⟨FM, PySem.W.mg_of X G aM, FM.binds fun _ _ _ _ _ _ us hl => match us, hl with | [_], _ => rfl⟩
  have m_MOST_WORD_SIGNS := PySem.W.mg_of X G m0_MOST_WORD_SIGNS
  have m_MOST_PATH_WORDS := PySem.W.mg_of X G m0_MOST_PATH_WORDS
  have m_MOST_CONTENT_SIGNS := PySem.W.mg_of X G m0_MOST_CONTENT_SIGNS
  have m_PERCENT_NUMBER := PySem.W.mg_of X G m0_PERCENT_NUMBER
  have m_MOST_FILES := PySem.W.mg_of X G m0_MOST_FILES
  have m_MOST_VERSION := PySem.W.mg_of X G m0_MOST_VERSION
  have m_MOST_NEEDS := PySem.W.mg_of X G m0_MOST_NEEDS
  have m_MOST_CHANGES := PySem.W.mg_of X G m0_MOST_CHANGES
  have TF : TreeF K mg C := ⟨⟨x_pg, x_hd, x_po, x_sa⟩, x_ca, x_cg, x_ct, x_cm, PySem.W.mg_of X G aC, x_nf, x_kC, x_kT, x_kN, x_fT, x_fN⟩
  have FI : FunD K "__init__" "Tree.__init__" (defArgs s_Tree_init) (defBody s_Tree_init) (defScope s_Tree_init) [V.ref eI] [] fI _ := ⟨⟨_, _, _, _, _, _, _, _, _, _, rfl, lI, cI, .inr ⟨(fun z => nomatch z), TI, _, [.ref eI], nT, rfl, lT, rfl, .cons rfl .nil⟩, .inl rfl⟩, kI⟩
  have BI0 := FI.binds1 (ps := ["self", "files"]) 2 1 (fun z => nomatch z) rfl (fun _ _ _ _ _ _ _ us its hl hi => match us, its, hl, hi with | [_, _], [_], _, _ => ⟨_, rfl, rfl⟩)
  obtain ⟨dsI, hdI, BI⟩ := BI0
  cases hdI
  have KI := FI.kbindsD (ps := ["self", "files"]) 1 ["files"] (fun us _ ws => us ++ ws) (fun z => nomatch z) (fun r1 _ r3 => r1.append r3) (fun _ _ _ _ _ _ _ us its ws hl hi hw => match us, its, ws, hl, hi, hw with | [_], [_], [_], _, _, _ => ⟨_, rfl, rfl⟩)
  have MI : Mk K C fI := ⟨x_mk, iI, tI, x_kp⟩
  have FE := fun_mk (st := s_Tree_eq) lE cE kE
  have BE : Binds K _ ["self", "other"] [] := FE.binds fun _ _ _ _ _ _ us hl => match us, hl with | [_, _], _ => rfl
  have FP := fun_mk (st := s_Tree_files) lP cP kP
  have BP : Binds K _ ["self"] [] := FP.binds fun _ _ _ _ _ _ us hl => match us, hl with | [_], _ => rfl
  have FgV := fun_mk (st := iBV) lgV cgV kgV
  have bgV := FgV.binds (ps := ["self", "at"]) fun _ _ _ _ _ _ us hl => match us, hl with | [_, _], _ => rfl
  have EgV : Err K mg "BadValue" CV fgV := ⟨⟨x1gV, x2gV, x3gV, x4gV, x5gV, x6gV, x7gV⟩, igV, tgV, PySem.W.mg_of X G agV, ⟨x8gV, x9gV, x5gV, x3gV⟩, ⟨cls_some x3gV, x8gV, x9gV, x5gV, y2gV, x_cg, x_ct, y3gV⟩⟩
  have FgS := fun_mk (st := iBS) lgS cgS kgS
  have bgS := FgS.binds (ps := ["self", "at"]) fun _ _ _ _ _ _ us hl => match us, hl with | [_, _], _ => rfl
  have EgS : Err K mg "BadSyntax" CS fgS := ⟨⟨x1gS, x2gS, x3gS, x4gS, x5gS, x6gS, x7gS⟩, igS, tgS, PySem.W.mg_of X G agS, ⟨x8gS, x9gS, x5gS, x3gS⟩, ⟨cls_some x3gS, x8gS, x9gS, x5gS, y2gS, x_cg, x_ct, y3gS⟩⟩
  refine ⟨PySem.W.fnOf "law" "law" (defArgs s_law) (defBody s_law) (defScope s_law) .none kVM dcM pmM anM cdM ctM, fun s v => .of_eq rfl, fun base _ _ => ?_⟩
  have Te := PySem.W.mg_none_of X G z_enumerate
  have tb : Tabs K w mg fB fL := tabs_mk (PySem.W.mg_of X G aB) (PySem.W.mg_of X G aL) lB kB 
    (.cons ⟨_, nB0, ⟨_, _, _, _, lB0, by show 3 ≤ sizeLine; decide, .cons ⟨_, rfl⟩ (.cons ⟨_, rfl⟩ (.cons ⟨_, rfl⟩ (.nil)))⟩⟩ (.cons ⟨_, nB1, ⟨_, _, _, _, lB1, by show 1 ≤ sizeLine; decide, .cons ⟨_, rfl⟩ (.nil)⟩⟩ (.cons ⟨_, nB2, ⟨_, _, _, _, lB2, by show 1 ≤ sizeLine; decide, .cons ⟨_, rfl⟩ (.nil)⟩⟩ (.cons ⟨_, nB3, ⟨_, _, _, _, lB3, by show 2 ≤ sizeLine; decide, .cons ⟨_, rfl⟩ (.cons ⟨_, rfl⟩ (.nil))⟩⟩ (.cons ⟨_, nB4, ⟨_, _, _, _, lB4, by show 2 ≤ sizeLine; decide, .cons ⟨_, rfl⟩ (.cons ⟨_, rfl⟩ (.nil))⟩⟩ (.cons ⟨_, nB5, ⟨_, _, _, _, lB5, by show 1 ≤ sizeLine; decide, .cons ⟨_, rfl⟩ (.nil)⟩⟩ (.cons ⟨_, nB6, ⟨_, _, _, _, lB6, by show 3 ≤ sizeLine; decide, .cons ⟨_, rfl⟩ (.cons ⟨_, rfl⟩ (.cons ⟨_, rfl⟩ (.nil)))⟩⟩ (.cons ⟨_, nB7, ⟨_, _, _, _, lB7, by show 2 ≤ sizeLine; decide, .cons ⟨_, rfl⟩ (.cons ⟨_, rfl⟩ (.nil))⟩⟩ (.cons ⟨_, nB8, ⟨_, _, _, _, lB8, by show 2 ≤ sizeLine; decide, .cons ⟨_, rfl⟩ (.cons ⟨_, rfl⟩ (.nil))⟩⟩ (.cons ⟨_, nB9, ⟨_, _, _, _, lB9, by show 2 ≤ sizeLine; decide, .cons ⟨_, rfl⟩ (.cons ⟨_, rfl⟩ (.nil))⟩⟩ (.cons ⟨_, nB10, ⟨_, _, _, _, lB10, by show 1 ≤ sizeLine; decide, .cons ⟨_, rfl⟩ (.nil)⟩⟩ (.cons ⟨_, nB11, ⟨_, _, _, _, lB11, by show 1 ≤ sizeLine; decide, .cons ⟨_, rfl⟩ (.nil)⟩⟩ .nil)))))))))))) ⟨_, _, _, _, lB12, by show 6 ≤ sizeLine; decide, .cons ⟨_, rfl⟩ (.cons ⟨_, rfl⟩ (.cons ⟨_, rfl⟩ (.cons ⟨_, rfl⟩ (.cons ⟨_, rfl⟩ (.cons ⟨_, rfl⟩ (.nil))))))⟩
  have nt : NoT K C := fun t ht => by
    simp only [List.mem_cons, List.not_mem_nil, or_false] at ht
    rcases ht with rfl | rfl | rfl | rfl | rfl | rfl
    · exact ntNoneType
    · exact ntbool
    · exact ntint
    · exact ntstr
    · exact ntlist
    · exact nttuple
  have c_sq := cal_of (P := l.prog) (w := w) (base := base) ASq (ok_sequenceY FSq T)
  have c_rw := cal_of ARw (ok_rowY FRw T c_sq)
  have c_sh := cal_of (P := l.prog) (w := w) (base := base) ASh (ok_shownY FSh T m_PERCENT_NUMBER)
  have c_wd := cal_of (P := l.prog) (w := w) (base := base) AWd (ok_wordY FWd T m_MOST_WORD_SIGNS)
  have c_pt := cal_of APt (ok_pathY FPt T m_MOST_PATH_WORDS c_wd)
  have c_sg := cal_of ASg (ok_signsY FSg T c_sh)
  have c_ct := cal_of ACt (ok_contY FCt m_MOST_CONTENT_SIGNS c_sg)
  have c_as := cal_of (P := l.prog) (w := w) (base := base) AAs (ok_ascY FAs T)
  have c_fi := cal_of AFi (ok_filesY FFi T m_MOST_FILES c_sq c_rw c_pt c_ct c_as)
  have c_ii := cal_of (P := l.prog) (w := w) (base := base) AIi (ok_integerY FIi T)
  have c_iv := cal_of AIv (ok_versionY FIv m_MOST_VERSION c_ii)
  have c_in := cal_of AIn (ok_needY FIn c_rw c_wd c_iv)
  have c_is := cal_of AIs (ok_needsY FIs T c_sq c_in c_as)
  have c_ip := cal_of AIp (ok_pkgY FIp m_MOST_NEEDS c_rw c_wd c_iv c_is c_ct)
  have c_ch := cal_of ACh (ok_changeY FCh c_rw c_pt c_ct)
  have c_ie := cal_of AIe (ok_editY FIe T c_sq c_ch c_as)
  have c_di := cal_of (P := l.prog) (w := w) (base := base) ADi (ok_digit FDi T)
  have c_no := cal_of ANo (ok_need_of FNo T c_wd c_di)
  have c_cl := cal_of (P := l.prog) (w := w) (base := base) ACl (ok_clines FCl)
  have c_ih := cal_of AIh (ok_head FIh T c_pt c_wd c_di c_no)
  have c_kb := cal_of AKb (ok_kind FKb tb c_ih)
  have c_co := cal_of (P := l.prog) (w := w) (base := base) ACo (ok_change_of FCo)
  have c_bl := cal_of (P := l.prog) (w := w) (base := base) ABl (ok_blocks FBl)
  have gV := ok_iBV (P := l.prog) (w := w) (mg := mg) (base := base) FgV EgV.ex natgV
  have gS := ok_iBS (P := l.prog) (w := w) (mg := mg) (base := base) FgS EgS.ex natgS
  have GI := ok_initY FI T TF c_fi EgV gV bgV
  have GVo := ok_value_of FVo T m_MOST_CHANGES MI GI (PySem.W.mg_of X G aC) BI EgV gV bgV c_co c_no c_ie c_ip
  have GPa := ok_parse FPa T Te tb EgV gV bgV EgS gS bgS c_kb c_bl AVo GVo
  have tp : TreeP l.prog w K mg base C := ⟨TF, pF, fP, _, ⟨iP, gP, tP, _, rP⟩, ok_files FP TF, BP⟩
  have tq : TreeQ l.prog w K mg base C := ⟨tp, fE, _, ok_teq FE T TF, iE, tE, BE⟩
  have GPd := ok_printed FPd T tp nt m_MOST_CHANGES EgV gV bgV c_cl c_ie c_ip
  have mk_Tree : C8.Mak l.prog w K mg base 5 "Tree" C (spInitF K C) [] := ⟨fI, _, _, [], MI, ok_initF GI, PySem.W.mg_of X G aC, BI, .nil⟩
  have c_tk := cal_of (P := l.prog) (w := w) (base := base) ATk (take_tk (ok_take FTk T ADr))
  have c_tx := cal_of ATx (ok_text FTx c_tk)
  have c_ex := cal_of AEx (ok_ex AEx T c_tk 3 (by decide))
  have c_rr := cal_of ARr (ok_rule_rows FRr T c_tk c_ex)
  have c_sr := cal_of ASr (ok_setting_rows FSr T c_tk)
  have c_cn := cal_of (P := l.prog) (w := w) (base := base) ACn (ok_content FCn)
  have c_pr := cal_of APr (ok_place_rows FPr T c_tk)
  have c_or := cal_of AOr (ok_own_rows FOr T c_tk)
  have c_gr := cal_of AGr (ok_goal_rows FGr T c_tk)
  have c_lc := cal_of (P := l.prog) (w := w) (base := base) ALc (ok_lcrows FLc)
  exact ok_law FM T {
    tq := tq
    c_l_numbers := cal_of ANu (ok_num FNu T)
    c_l_take := c_tk
    c_l_text := c_tx
    c_l_tree := cal_of ATr (ok_tree FTr T c_tk c_tx c_rr c_cn c_sr c_pr c_or c_gr)
    c_l_edit := cal_of ALe (ok_edit FLe T c_tk c_tx c_ex c_cn c_sr c_pr c_or c_gr)
    c_l_loose := cal_of ALo (ok_loose ALo T 5)
    c_l_so := cal_of ASo (ok_so ASo T 5)
    c_l_trows := cal_of ALt (ok_ltrows FLt c_lc)
    c_l_erows := cal_of ALd (ok_lerows FLd c_lc)
    c_l_prows := cal_of ALp (ok_lprows FLp T c_lc)
    c_l_ltext := cal_of (P := l.prog) (w := w) (base := base) ALx (ok_ltext FLx)
    c_l_fault := cal_of APf (ok_fault FPf EgV EgS ⟨hCVgV, hCSgS, hsv, natgV, natgS⟩ APa GPa)
    c_printed := cal_of APd (ok_printedG GPd)
    c_parse := cal_of APa (ok_parseG GPa)
    mk_Tree := mk_Tree } EgV natgV hCVgV APd GPd ASo (ok_soH ASo T 3)
theorem walk {l : PySem.W.OpenLaw} {q : Program} {loose : List Str} {XP : (Str → Option Value) → Heap → Prop} {YP : World → Heap → Prop} {d : DefRec} {K : Params → PySem.W.Frag} (hn : l.most = some 63) (hdf : d.params.defaults = [])
    (hY : ∀ (w : World) (h : Heap), YP w h → (K w.params).In h)
    (F : ∀ (w : World) (mg : Str → Option Value) (fa : Addr) (h : Heap), (K w.params).In h → h.Ns mainGlobals mg → mg d.name = some (.ref fa) →
      ∃ fd : FuncData, (∀ (s : Shared) (u : Value), BindsTo s fd ⟨[u], []⟩ [("script", u)]) ∧ ∀ base : Heap, (K w.params).In base → base.Ns mainGlobals mg → FnOk l.prog w (K w.params) mg base CX0 10 fa fd ["script"] (spLaw (K w.params))) :
    PySem.W.WalkO q loose XP YP l.row.toRowW d [] (fun f vs => PySem.call f vs) :=
  L2.walk_of (n := 63) (k := 10) (x := "script") (CX := fun _ => CX0) (sp := fun w => spLaw (K w.params)) hn (by decide) hdf ⟨rfl, by decide, by decide⟩ hY F (fun _ _ a ns hl _ hS => ⟨a, ns, rfl, hS, hl, fun _ => rfl⟩) fun _ _ _ _ _ z => z
end Kl

open PySem PySem.W PyProof.Rows
set_option maxRecDepth 100000 in
set_option maxHeartbeats 0 in
theorem PySem.Challenge.cw_releasehouse_k25_texts_of_trees_edits_an_holds : PySem.Challenge.rw_releasehouse_k25_texts_of_trees_edits_an.Holds := by
  w_on; o_law; k_head; (case hw => w_witness2)
  k_fill
  refine Kl.walk (l := PySem.Challenge.rw_releasehouse_k25_texts_of_trees_edits_an) rfl rfl (fun w h Y => PySem.W.kIn_of Y) ?F
  case F =>
    intro w mg fa h KX G hmg
    refine' Kl.all_mk KX G hmg ?aSq ?aRw ?aSh ?aWd ?aPt ?aSg ?aCt ?aAs ?aFi ?aIi ?aIv ?aIn ?aIs ?aIp ?aCh ?aIe ?aDi ?aNo ?aCl ?aIh ?aKb ?aCo ?aBl ?aVo ?aPa ?aPd ?aSo ?aNu ?aDr ?aTk ?aLo ?aTx ?aEx ?aRr ?aSr ?aCn ?aPr ?aOr ?aGr ?aTr ?aLe ?aPf ?aLc ?aLt ?aLd ?aLp ?aLx ?aM ?m0_MOST_WORD_SIGNS ?m0_MOST_PATH_WORDS ?m0_MOST_CONTENT_SIGNS ?m0_PERCENT_NUMBER ?m0_MOST_FILES ?m0_MOST_VERSION ?m0_MOST_NEEDS ?m0_MOST_CHANGES ?aC ?z_len ?z_int ?z_range ?z_isinstance ?z_tuple ?z_list ?z_bool ?z_str ?z_dict ?z_sorted ?z_all ?z_ord ?z_zip ?z_max ?z_min ?z_enumerate ?agV ?agS ?aB ?aL ?lSq ?cSq ?kSq ?lRw ?cRw ?kRw ?lSh ?cSh ?kSh ?lWd ?cWd ?kWd ?lPt ?cPt ?kPt ?lSg ?cSg ?kSg ?lCt ?cCt ?kCt ?lAs ?cAs ?kAs ?lFi ?cFi ?kFi ?lIi ?cIi ?kIi ?lIv ?cIv ?kIv ?lIn ?cIn ?kIn ?lIs ?cIs ?kIs ?lIp ?cIp ?kIp ?lCh ?cCh ?kCh ?lIe ?cIe ?kIe ?lDi ?cDi ?kDi ?lNo ?cNo ?kNo ?lCl ?cCl ?kCl ?lIh ?cIh ?kIh ?lKb ?cKb ?kKb ?lCo ?cCo ?kCo ?lBl ?cBl ?kBl ?lVo ?cVo ?kVo ?lPa ?cPa ?kPa ?lPd ?cPd ?kPd ?lSo ?cSo ?kSo ?lNu ?cNu ?kNu ?lDr ?cDr ?kDr ?lTk ?cTk ?kTk ?lLo ?cLo ?kLo ?lTx ?cTx ?kTx ?lEx ?cEx ?kEx ?lRr ?cRr ?kRr ?lSr ?cSr ?kSr ?lCn ?cCn ?kCn ?lPr ?cPr ?kPr ?lOr ?cOr ?kOr ?lGr ?cGr ?kGr ?lTr ?cTr ?kTr ?lLe ?cLe ?kLe ?lPf ?cPf ?kPf ?lLc ?cLc ?kLc ?lLt ?cLt ?kLt ?lLd ?cLd ?kLd ?lLp ?cLp ?kLp ?lLx ?cLx ?kLx ?lM ?cM ?kM ?iI ?tI ?lI ?cI ?kI ?lT ?iE ?tE ?lE ?cE ?kE ?iP ?gP ?tP ?rP ?lP ?cP ?kP ?x_pg ?x_hd ?x_po ?x_sa ?x_ca ?x_cg ?x_ct ?x_cm ?x_nf ?x_mk ?x_kp ?x_kC ?x_kT ?x_kN ?x_fT ?x_fN ?igV ?tgV ?lgV ?cgV ?kgV ?x1gV ?x2gV ?x3gV ?x4gV ?x5gV ?x6gV ?x7gV ?x8gV ?x9gV ?y2gV ?y3gV ?hCVgV ?natgV ?igS ?tgS ?lgS ?cgS ?kgS ?x1gS ?x2gS ?x3gS ?x4gS ?x5gS ?x6gS ?x7gS ?x8gS ?x9gS ?y2gS ?y3gS ?hCSgS ?natgS ?lB ?kB ?nB0 ?lB0 ?nB1 ?lB1 ?nB2 ?lB2 ?nB3 ?lB3 ?nB4 ?lB4 ?nB5 ?lB5 ?nB6 ?lB6 ?nB7 ?lB7 ?nB8 ?lB8 ?nB9 ?lB9 ?nB10 ?lB10 ?nB11 ?lB11 ?lB12 ?ntNoneType ?ntbool ?ntint ?ntstr ?ntlist ?nttuple ?hsv
    (case aSq => k_is)
    (case aRw => k_is)
    (case aSh => k_is)
    (case aWd => k_is)
    (case aPt => k_is)
    (case aSg => k_is)
    (case aCt => k_is)
    (case aAs => k_is)
    (case aFi => k_is)
    (case aIi => k_is)
    (case aIv => k_is)
    (case aIn => k_is)
    (case aIs => k_is)
    (case aIp => k_is)
    (case aCh => k_is)
    (case aIe => k_is)
    (case aDi => k_is)
    (case aNo => k_is)
    (case aCl => k_is)
    (case aIh => k_is)
    (case aKb => k_is)
    (case aCo => k_is)
    (case aBl => k_is)
    (case aVo => k_is)
    (case aPa => k_is)
    (case aPd => k_is)
    (case aSo => k_is)
    (case aNu => k_is)
    (case aDr => k_is)
    (case aTk => k_is)
    (case aLo => k_is)
    (case aTx => k_is)
    (case aEx => k_is)
    (case aRr => k_is)
    (case aSr => k_is)
    (case aCn => k_is)
    (case aPr => k_is)
    (case aOr => k_is)
    (case aGr => k_is)
    (case aTr => k_is)
    (case aLe => k_is)
    (case aPf => k_is)
    (case aLc => k_is)
    (case aLt => k_is)
    (case aLd => k_is)
    (case aLp => k_is)
    (case aLx => k_is)
    (case aM => k_is)
    (case m0_MOST_WORD_SIGNS => k_is)
    (case m0_MOST_PATH_WORDS => k_is)
    (case m0_MOST_CONTENT_SIGNS => k_is)
    (case m0_PERCENT_NUMBER => k_is)
    (case m0_MOST_FILES => k_is)
    (case m0_MOST_VERSION => k_is)
    (case m0_MOST_NEEDS => k_is)
    (case m0_MOST_CHANGES => k_is)
    (case aC => k_is)
    (case z_len => k_is)
    (case z_int => k_is)
    (case z_range => k_is)
    (case z_isinstance => k_is)
    (case z_tuple => k_is)
    (case z_list => k_is)
    (case z_bool => k_is)
    (case z_str => k_is)
    (case z_dict => k_is)
    (case z_sorted => k_is)
    (case z_all => k_is)
    (case z_ord => k_is)
    (case z_zip => k_is)
    (case z_max => k_is)
    (case z_min => k_is)
    (case z_enumerate => k_is)
    (case agV => k_is)
    (case agS => k_is)
    (case aB => k_is)
    (case aL => k_is)
    (case lSq => k_is)
    (case cSq => k_is)
    (case kSq => k_is)
    (case lRw => k_is)
    (case cRw => k_is)
    (case kRw => k_is)
    (case lSh => k_is)
    (case cSh => k_is)
    (case kSh => k_is)
    (case lWd => k_is)
    (case cWd => k_is)
    (case kWd => k_is)
    (case lPt => k_is)
    (case cPt => k_is)
    (case kPt => k_is)
    (case lSg => k_is)
    (case cSg => k_is)
    (case kSg => k_is)
    (case lCt => k_is)
    (case cCt => k_is)
    (case kCt => k_is)
    (case lAs => k_is)
    (case cAs => k_is)
    (case kAs => k_is)
    (case lFi => k_is)
    (case cFi => k_is)
    (case kFi => k_is)
    (case lIi => k_is)
    (case cIi => k_is)
    (case kIi => k_is)
    (case lIv => k_is)
    (case cIv => k_is)
    (case kIv => k_is)
    (case lIn => k_is)
    (case cIn => k_is)
    (case kIn => k_is)
    (case lIs => k_is)
    (case cIs => k_is)
    (case kIs => k_is)
    (case lIp => k_is)
    (case cIp => k_is)
    (case kIp => k_is)
    (case lCh => k_is)
    (case cCh => k_is)
    (case kCh => k_is)
    (case lIe => k_is)
    (case cIe => k_is)
    (case kIe => k_is)
    (case lDi => k_is)
    (case cDi => k_is)
    (case kDi => k_is)
    (case lNo => k_is)
    (case cNo => k_is)
    (case kNo => k_is)
    (case lCl => k_is)
    (case cCl => k_is)
    (case kCl => k_is)
    (case lIh => k_is)
    (case cIh => k_is)
    (case kIh => k_is)
    (case lKb => k_is)
    (case cKb => k_is)
    (case kKb => k_is)
    (case lCo => k_is)
    (case cCo => k_is)
    (case kCo => k_is)
    (case lBl => k_is)
    (case cBl => k_is)
    (case kBl => k_is)
    (case lVo => k_is)
    (case cVo => k_is)
    (case kVo => k_is)
    (case lPa => k_is)
    (case cPa => k_is)
    (case kPa => k_is)
    (case lPd => k_is)
    (case cPd => k_is)
    (case kPd => k_is)
    (case lSo => k_is)
    (case cSo => k_is)
    (case kSo => k_is)
    (case lNu => k_is)
    (case cNu => k_is)
    (case kNu => k_is)
    (case lDr => k_is)
    (case cDr => k_is)
    (case kDr => k_is)
    (case lTk => k_is)
    (case cTk => k_is)
    (case kTk => k_is)
    (case lLo => k_is)
    (case cLo => k_is)
    (case kLo => k_is)
    (case lTx => k_is)
    (case cTx => k_is)
    (case kTx => k_is)
    (case lEx => k_is)
    (case cEx => k_is)
    (case kEx => k_is)
    (case lRr => k_is)
    (case cRr => k_is)
    (case kRr => k_is)
    (case lSr => k_is)
    (case cSr => k_is)
    (case kSr => k_is)
    (case lCn => k_is)
    (case cCn => k_is)
    (case kCn => k_is)
    (case lPr => k_is)
    (case cPr => k_is)
    (case kPr => k_is)
    (case lOr => k_is)
    (case cOr => k_is)
    (case kOr => k_is)
    (case lGr => k_is)
    (case cGr => k_is)
    (case kGr => k_is)
    (case lTr => k_is)
    (case cTr => k_is)
    (case kTr => k_is)
    (case lLe => k_is)
    (case cLe => k_is)
    (case kLe => k_is)
    (case lPf => k_is)
    (case cPf => k_is)
    (case kPf => k_is)
    (case lLc => k_is)
    (case cLc => k_is)
    (case kLc => k_is)
    (case lLt => k_is)
    (case cLt => k_is)
    (case kLt => k_is)
    (case lLd => k_is)
    (case cLd => k_is)
    (case kLd => k_is)
    (case lLp => k_is)
    (case cLp => k_is)
    (case kLp => k_is)
    (case lLx => k_is)
    (case cLx => k_is)
    (case kLx => k_is)
    (case lM => k_is)
    (case cM => k_is)
    (case kM => k_is)
    (case iI => k_is)
    (case tI => k_is)
    (case lI => k_is)
    (case cI => k_is)
    (case kI => k_is)
    (case lT => k_is)
    (case iE => k_is)
    (case tE => k_is)
    (case lE => k_is)
    (case cE => k_is)
    (case kE => k_is)
    (case iP => k_is)
    (case gP => k_is)
    (case tP => k_is)
    (case rP => k_is)
    (case lP => k_is)
    (case cP => k_is)
    (case kP => k_is)
    (case x_pg => k_is)
    (case x_hd => k_is)
    (case x_po => k_is)
    (case x_sa => k_is)
    (case x_ca => k_is)
    (case x_cg => k_is)
    (case x_ct => k_is)
    (case x_cm => k_is)
    (case x_nf => k_is)
    (case x_mk => k_is)
    (case x_kp => k_is)
    (case x_kC => kit_is)
    (case x_kT => kit_is)
    (case x_kN => kit_is)
    (case x_fT => k_is)
    (case x_fN => k_is)
    (case igV => k_is)
    (case tgV => k_is)
    (case lgV => k_is)
    (case cgV => k_is)
    (case kgV => k_is)
    (case x1gV => kx_is)
    (case x2gV => kx_is)
    (case x3gV => k_is)
    (case x4gV => k_is)
    (case x5gV => k_is)
    (case x6gV => k_is)
    (case x7gV => k_is)
    (case x8gV => k_is)
    (case x9gV => k_is)
    (case y2gV => k_is)
    (case y3gV => k_is)
    (case hCVgV => kts_exm)
    (case natgV => k_is)
    (case igS => k_is)
    (case tgS => k_is)
    (case lgS => k_is)
    (case cgS => k_is)
    (case kgS => k_is)
    (case x1gS => kx_is)
    (case x2gS => kx_is)
    (case x3gS => k_is)
    (case x4gS => k_is)
    (case x5gS => k_is)
    (case x6gS => k_is)
    (case x7gS => k_is)
    (case x8gS => k_is)
    (case x9gS => k_is)
    (case y2gS => k_is)
    (case y3gS => k_is)
    (case hCSgS => kts_exm)
    (case natgS => k_is)
    (case lB => k_is)
    (case kB => exact ⟨⟨_, _, rfl, rfl⟩, ⟨_, _, rfl, rfl⟩, ⟨_, _, rfl, rfl⟩, ⟨_, _, rfl, rfl⟩, ⟨_, _, rfl, rfl⟩, ⟨_, _, rfl, rfl⟩, ⟨_, _, rfl, rfl⟩, ⟨_, _, rfl, rfl⟩, ⟨_, _, rfl, rfl⟩, ⟨_, _, rfl, rfl⟩, ⟨_, _, rfl, rfl⟩, ⟨_, _, rfl, rfl⟩, trivial⟩)
    (case nB0 => k_is)
    (case lB0 => k_is)
    (case nB1 => k_is)
    (case lB1 => k_is)
    (case nB2 => k_is)
    (case lB2 => k_is)
    (case nB3 => k_is)
    (case lB3 => k_is)
    (case nB4 => k_is)
    (case lB4 => k_is)
    (case nB5 => k_is)
    (case lB5 => k_is)
    (case nB6 => k_is)
    (case lB6 => k_is)
    (case nB7 => k_is)
    (case lB7 => k_is)
    (case nB8 => k_is)
    (case lB8 => k_is)
    (case nB9 => k_is)
    (case lB9 => k_is)
    (case nB10 => k_is)
    (case lB10 => k_is)
    (case nB11 => k_is)
    (case lB11 => k_is)
    (case lB12 => k_is)
    (case ntNoneType => kit_is)
    (case ntbool => kit_is)
    (case ntint => kit_is)
    (case ntstr => kit_is)
    (case ntlist => kit_is)
    (case nttuple => kit_is)
    (case hsv => kts_exm)
