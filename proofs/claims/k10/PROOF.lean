import PyProof.Rows.All
import Wide.All
import OpenK.AllK
import Wide.FinOn
import HandS.ForMost
import HandS.ForExc
import HandS.IsInst
import HandS.Codes
import HandS.TupAny
import HandS.More
import HandS.Walk
import HandS.Zip
import HandS.StrMore
import HandS.ReplaceLit
import HandS.ReplaceDef
import PyProof.Rows.StrStrike
import PyProof.Rows.StrAscii
import PyProof.DictUpdate
import KE.KDictPairs
import HandS.Property
import HandS.MakeKw
import HandS.MakeKwOnly
import HandS.NoneIn
import HandS.Style
import PySem.Challenge.RW_releasehouse_k10_trees_edited_and_merged
set_option Elab.async false
set_option linter.all false
set_option maxRecDepth 100000
set_option maxHeartbeats 4000000
namespace Kd
open PySem L2
inductive D where
  | non
  | bl (b : Bool)
  | int (i : Int)
  | str (x : Str)
  | tup (ds : List D)
mutual
def Rep (H : Hp) : D → V → Prop
  | .non, v => v = .non
  | .bl b, v => v = .bl b
  | .int i, v => v = .int i
  | .str x, v => v = .str x
  | .tup ds, v => ∃ (a : Addr) (vs : List V), v = .ref a ∧ Rd H a (.tup vs) ∧ vs.length ≤ sizeLine ∧ Reps H ds vs
def Reps (H : Hp) : List D → List V → Prop
  | [], vs => vs = []
  | d :: ds, vs => ∃ (v : V) (r : List V), vs = v :: r ∧ Rep H d v ∧ Reps H ds r
end
/-- tuples stand still -/
def Tk (H H' : Hp) : Prop := ∀ a xs, Rd H a (.tup xs) → Rd H' a (.tup xs)
theorem Tk.refl (H : Hp) : Tk H H := fun _ _ h => h
theorem Tk.trans {H H1 H2 : Hp} (a : Tk H H1) (b : Tk H1 H2) : Tk H H2 := fun x o h => b x o (a x o h)
theorem Rd.same {H H' : Hp} {a : Addr} {u : HO} (s : Same H H') (h : Rd H a u) : Rd H' a u := h.imp (s _ _) fun ⟨o, e⟩ => ⟨o, s _ _ e⟩
theorem Tk.same {H H' : Hp} (s : Same H H') : Tk H H' := fun a xs h => Rd.same s h
theorem Tk.lst {H : Hp} {p : Addr} {xs : List V} {o : HO} (h : H p = some (.lst xs)) : Tk H (upd H p o) := fun a ys e => e.imp
    (fun e => by rw [upd_ne (ne_of e h (fun z => nomatch z))]; exact e)
    (fun ⟨o, e⟩ => ⟨o, by rw [upd_ne (ne_of e h (fun z => nomatch z))]; exact e⟩)
theorem Tk.new {H : Hp} {p : Addr} {o : HO} (h : H p = none) : Tk H (upd H p o) := fun a ys e => e.imp
    (fun e => by rw [upd_ne (ne_of_none e h)]; exact e)
    (fun ⟨o, e⟩ => ⟨o, by rw [upd_ne (ne_of_none e h)]; exact e⟩)
mutual
theorem Rep.keep {H H' : Hp} (k : Tk H H') : ∀ {d : D} {v : V}, Rep H d v → Rep H' d v
  | .non, _, h => h
  | .bl _, _, h => h
  | .int _, _, h => h
  | .str _, _, h => h
  | .tup _, _, ⟨a, vs, e, h, l, r⟩ => ⟨a, vs, e, k a vs h, l, Reps.keep k r⟩
theorem Reps.keep {H H' : Hp} (k : Tk H H') : ∀ {ds : List D} {vs : List V}, Reps H ds vs → Reps H' ds vs
  | [], _, h => h
  | _ :: _, _, ⟨v, r, e, h, q⟩ => ⟨v, r, e, Rep.keep k h, Reps.keep k q⟩
end
theorem Reps.len {H : Hp} : ∀ {ds : List D} {vs : List V}, Reps H ds vs → vs.length = ds.length
  | [], _, h => by cases (show _ = [] from h); rfl
  | d :: ds, _, ⟨v, r, e, h, q⟩ => by subst e; exact congrArg (· + 1) (Reps.len q)
theorem Reps.get {H : Hp} : ∀ {ds : List D} {vs : List V} {i : Nat} {d : D}, Reps H ds vs → ds[i]? = some d → ∃ v, vs[i]? = some v ∧ Rep H d v
  | [], _, i, d, _, e => by simp at e
  | c :: ds, _, 0, d, ⟨v, r, e1, h, q⟩, e => by
    subst e1
    obtain rfl : c = d := Option.some.inj e
    exact ⟨v, rfl, h⟩
  | c :: ds, _, i + 1, d, ⟨v, r, e1, h, q⟩, e => by
    subst e1
    exact Reps.get (ds := ds) (i := i) q e
theorem Reps.snoc {H : Hp} : ∀ {ds : List D} {vs : List V} {d : D} {v : V}, Reps H ds vs → Rep H d v → Reps H (ds ++ [d]) (vs ++ [v])
  | [], _, d, v, h, r => by
    cases (show _ = [] from h)
    exact ⟨v, [], rfl, r, rfl⟩
  | c :: ds, _, d, v, ⟨u, r, e, h, q⟩, rv => by
    subst e
    exact ⟨u, r ++ [v], rfl, h, Reps.snoc q rv⟩
def D.ty : D → String
  | .non => "NoneType"
  | .bl _ => "bool"
  | .int _ => "int"
  | .str _ => "str"
  | .tup _ => "tuple"
theorem Rep.ty {K : PySem.W.Frag} {H : Hp} : ∀ {d : D} {v : V}, Rep H d v → TyX K H v (.type d.ty)
  | .non, _, h => by cases (show _ = V.non from h); exact .base .non
  | .bl b, _, h => by cases (show _ = V.bl b from h); exact .base (.bl _)
  | .int i, _, h => by cases (show _ = V.int i from h); exact .base (.int _)
  | .str x, _, h => by cases (show _ = V.str x from h); exact .base (.str _)
  | .tup ds, _, ⟨a, vs, e, h, l, r⟩ => by cases e; exact h.elim (fun h => .base (.tup h)) (fun ⟨_, h⟩ => .fTuple h)
mutual
def D.eqb : D → D → Bool
  | .non, .non => true
  | .bl a, .bl b => a == b
  | .int a, .int b => decide (a = b)
  | .str a, .str b => decide (a = b)
  | .tup a, .tup b => D.eqbs a b
  | _, _ => false
def D.eqbs : List D → List D → Bool
  | [], [] => true
  | a :: r, b :: q => D.eqb a b && D.eqbs r q
  | _, _ => false
end
mutual
theorem D.eqb_refl : ∀ d : D, D.eqb d d = true
  | .non => rfl
  | .bl b => by simp [D.eqb]
  | .int i => by simp [D.eqb]
  | .str x => by simp [D.eqb]
  | .tup ds => by simp only [D.eqb]; exact D.eqbs_refl ds
theorem D.eqbs_refl : ∀ ds : List D, D.eqbs ds ds = true
  | [] => rfl
  | d :: ds => by simp only [D.eqbs, Bool.and_eq_true]; exact ⟨D.eqb_refl d, D.eqbs_refl ds⟩
end
mutual
def D.dep : D → Nat
  | .tup ds => D.deps ds + 1
  | _ => 0
def D.deps : List D → Nat
  | [] => 0
  | d :: ds => max (D.dep d) (D.deps ds)
end
theorem D.dep_mem : ∀ {ds : List D} {i : Nat} {d : D}, ds[i]? = some d → D.dep d ≤ D.deps ds
  | [], i, d, e => by simp at e
  | c :: ds, 0, d, e => by
    obtain rfl : c = d := Option.some.inj e
    simp only [D.deps]
    omega
  | c :: ds, i + 1, d, e => by
    have := D.dep_mem (ds := ds) (i := i) (d := d) e
    simp only [D.deps]
    omega
theorem D.eqbs_len : ∀ {a b : List D}, D.eqbs a b = true → a.length = b.length
  | [], [], _ => rfl
  | [], _ :: _, h => by simp [D.eqbs] at h
  | _ :: _, [], h => by simp [D.eqbs] at h
  | x :: a, y :: b, h => by
    simp only [D.eqbs, Bool.and_eq_true] at h
    exact congrArg (· + 1) (D.eqbs_len h.2)
/-- part by part -/
theorem D.eqbs_take : ∀ {a b : List D} {i : Nat} {x y : D}, a[i]? = some x → b[i]? = some y → D.eqbs (a.take (i + 1)) (b.take (i + 1)) = (D.eqbs (a.take i) (b.take i) && D.eqb x y)
  | [], _, i, x, y, h, _ => by simp at h
  | _ :: _, [], i, x, y, _, h => by simp at h
  | c :: a, d :: b, 0, x, y, h, g => by
    obtain rfl : c = x := Option.some.inj h
    obtain rfl : d = y := Option.some.inj g
    simp [D.eqbs]
  | c :: a, d :: b, i + 1, x, y, h, g => by
    have ih := D.eqbs_take (a := a) (b := b) (i := i) (x := x) (y := y) h g
    simp only [List.take_succ_cons, D.eqbs] at ih ⊢
    rw [ih, Bool.and_assoc]
theorem D.eqbs_cut : ∀ {a b : List D} {i : Nat} {x y : D}, a[i]? = some x → b[i]? = some y → D.eqb x y = false → D.eqbs a b = false
  | [], _, i, x, y, h, _, _ => by simp at h
  | _ :: _, [], i, x, y, _, h, _ => by simp at h
  | c :: a, d :: b, 0, x, y, h, g, e => by
    obtain rfl : c = x := Option.some.inj h
    obtain rfl : d = y := Option.some.inj g
    simp [D.eqbs, e]
  | c :: a, d :: b, i + 1, x, y, h, g, e => by
    have ih := D.eqbs_cut (a := a) (b := b) (i := i) (x := x) (y := y) h g e
    simp [D.eqbs, ih]
theorem kOne {K : PySem.W.Frag} {a b : String} {r : Bool} (h : kitB a b = some r) : PySem.W.kitOne K (.type a) (.type b) = some r := kit_ty h
def D.isTup : D → Bool
  | .tup _ => true
  | _ => false
def D.isBl : D → Bool
  | .bl _ => true
  | _ => false
def D.isInt : D → Bool
  | .int _ => true
  | .bl _ => true
  | _ => false
def D.isStr : D → Bool
  | .str _ => true
  | _ => false
theorem D.kTup {K : PySem.W.Frag} : ∀ d : D, PySem.W.kitOne K (.type d.ty) (.type "tuple") = some d.isTup
  | .non => kit_ty (show kitB "NoneType" "tuple" = some false by decide +kernel)
  | .bl _ => kit_ty (show kitB "bool" "tuple" = some false by decide +kernel)
  | .int _ => kit_ty (show kitB "int" "tuple" = some false by decide +kernel)
  | .str _ => kit_ty (show kitB "str" "tuple" = some false by decide +kernel)
  | .tup _ => kit_ty (show kitB "tuple" "tuple" = some true by decide +kernel)
theorem D.kList {K : PySem.W.Frag} : ∀ d : D, PySem.W.kitOne K (.type d.ty) (.type "list") = some false
  | .non => kit_ty (show kitB "NoneType" "list" = some false by decide +kernel)
  | .bl _ => kit_ty (show kitB "bool" "list" = some false by decide +kernel)
  | .int _ => kit_ty (show kitB "int" "list" = some false by decide +kernel)
  | .str _ => kit_ty (show kitB "str" "list" = some false by decide +kernel)
  | .tup _ => kit_ty (show kitB "tuple" "list" = some false by decide +kernel)
theorem D.kBl {K : PySem.W.Frag} : ∀ d : D, PySem.W.kitOne K (.type d.ty) (.type "bool") = some d.isBl
  | .non => kit_ty (show kitB "NoneType" "bool" = some false by decide +kernel)
  | .bl _ => kit_ty (show kitB "bool" "bool" = some true by decide +kernel)
  | .int _ => kit_ty (show kitB "int" "bool" = some false by decide +kernel)
  | .str _ => kit_ty (show kitB "str" "bool" = some false by decide +kernel)
  | .tup _ => kit_ty (show kitB "tuple" "bool" = some false by decide +kernel)
theorem D.kInt {K : PySem.W.Frag} : ∀ d : D, PySem.W.kitOne K (.type d.ty) (.type "int") = some d.isInt
  | .non => kit_ty (show kitB "NoneType" "int" = some false by decide +kernel)
  | .bl _ => kit_ty (show kitB "bool" "int" = some true by decide +kernel)
  | .int _ => kit_ty (show kitB "int" "int" = some true by decide +kernel)
  | .str _ => kit_ty (show kitB "str" "int" = some false by decide +kernel)
  | .tup _ => kit_ty (show kitB "tuple" "int" = some false by decide +kernel)
theorem D.kStr {K : PySem.W.Frag} : ∀ d : D, PySem.W.kitOne K (.type d.ty) (.type "str") = some d.isStr
  | .non => kit_ty (show kitB "NoneType" "str" = some false by decide +kernel)
  | .bl _ => kit_ty (show kitB "bool" "str" = some false by decide +kernel)
  | .int _ => kit_ty (show kitB "int" "str" = some false by decide +kernel)
  | .str _ => kit_ty (show kitB "str" "str" = some true by decide +kernel)
  | .tup _ => kit_ty (show kitB "tuple" "str" = some false by decide +kernel)
end Kd

namespace Kl
open PySem L2 Kd
def topS (i : Nat) : Stmt := PySem.Challenge.pw_releasehouse_k10_trees_edited_and_merged.main.body.getD i (.Pass ⟨0, 0, 0, 0⟩)
/-- the built-in names that no text of ours hides -/
structure Glo (mg : Str → Option Value) : Prop where
  len : mg "len" = none
  int : mg "int" = none
  range : mg "range" = none
  isi : mg "isinstance" = none
  tuple : mg "tuple" = none
  list : mg "list" = none
  bool : mg "bool" = none
  str : mg "str" = none
  dict : mg "dict" = none
  sorted : mg "sorted" = none
  all : mg "all" = none
  ord : mg "ord" = none
  zip : mg "zip" = none
  max : mg "max" = none
  min : mg "min" = none
/-- a def at its name -/
structure At (K : PySem.W.Frag) (mg : Str → Option Value) (x : Str) (st : Stmt) (ps : List Str) (f : Addr) (fd : FuncData) : Prop where
  fn : Fun K x x st f fd
  mf : mg x = some (.ref f)
  bd : Binds K fd ps []
theorem Same.new {H : Hp} {p : Addr} {o : HO} (h : H p = none) : Same H (upd H p o) := fun b u e => by
  rw [upd_ne (ne_of_none e h)]
  exact e
/-- what is new may change -/
theorem Same.mut {H H' : Hp} {p : Addr} {o : HO} (s : Same H H') (h : H p = none) : Same H (upd H' p o) := fun b u e => by
  rw [upd_ne (ne_of_none e h)]
  exact s b u e
end Kl

namespace Kl
open PySem L2 Kd
/-- a list of ints at a -/
abbrev Ints (K : PySem.W.Frag) (H : Hp) (a : Addr) (ns : List Int) : Prop := SqL K H a (ns.map V.int)
theorem at_int {ns : List Int} {z : Int} (h0 : 0 ≤ z) (h1 : z < (ns.length : Int)) : ∃ y : Int, atI (ns.map V.int) z = some (V.int y) := by
  have hl : z.toNat < ns.length := by omega
  refine ⟨ns[z.toNat], at_of (j := z.toNat) (by omega) ?_⟩
  rw [List.getElem?_map, List.getElem?_eq_getElem hl]
  rfl
def spDraw (K : PySem.W.Frag) : Sp := fun vs H Q _ => ∃ (a : Addr) (ns : List Int) (i m : Int), vs = [.ref a, .int i, .int m] ∧ Ints K H a ns ∧ 0 < ns.length ∧ 0 ≤ i ∧ 0 < m ∧
  ∀ d : Int, 0 ≤ d → d < m → Q (.int d) H
def spTake (K : PySem.W.Frag) : Sp := fun vs H Q _ => ∃ (a b : Addr) (ns : List Int) (i m : Int), vs = [.ref a, .ref b, .int m] ∧ a ≠ b ∧ Ints K H a ns ∧ H b = some (.lst [.int i]) ∧ 0 < ns.length ∧ 0 ≤ i ∧ 0 < m ∧
  ∀ d : Int, 0 ≤ d → d < m → Q (.int d) (upd H b (.lst [.int (i + 1)]))
section
variable {P : Program} {w : World} {K : PySem.W.Frag} {mg : Str → Option Value} {base : Heap}
abbrev sDraw : Stmt := topS 31
abbrev sTake : Stmt := topS 32
theorem scDraw : FnScope ["row", "at", "limit", "mixed"] ["row", "at", "limit"] (defScope sDraw) := ⟨rfl, rfl, rfl, by decide +kernel, rfl, by decide +kernel, by decide +kernel⟩
theorem ok_draw {f : Addr} {fd : FuncData} (F : Fun K "_law_draw" "_law_draw" sDraw f fd) (T : Glo mg) : FnOk P w K mg base CX0 1 f fd ["row", "at", "limit"] (spDraw K) := by
  refine F.ok scDraw (fun vs H Q E h => ?_) (fun cdv A outer s H vs Q E hr h => ?_)
  · obtain ⟨a, ns, i, m, rfl, _⟩ := h
    rfl
  · obtain ⟨a, ns, i, m, rfl, hS, hn, hi, hm, k⟩ := h
    refine ⟨_, pss_cons (ps_if (pt_cmpR op_lt (pv 1) (pe_callB call_len_seq (by rfl) T.len PySem.boot_len (pa_cons (pv 0) pa_nil)) (nomark _))
        (pss_one (ps_ret (pe_op op_mod (pe_callTy call_int1 (by rfl) T.int PyProof.Rows.boot_int (pa_cons (pe_ix ix_list (pv 0) (pv 1) (fun _ _ => rfl)) pa_nil)) (pv 2)))) pss_nil)
      (pss_cons (ps_set (i := 3) scDraw.nd rfl (.inl rfl) (pe_op op_mod (pe_callTy call_int1 (by rfl) T.int PyProof.Rows.boot_int (pa_cons
          (pe_op op_add (pe_op op_add (pe_op op_mul (pe_ix ix_list (pv 0) (pe_op op_mod (pe_callTy call_int1 (by rfl) T.int PyProof.Rows.boot_int (pa_cons (pv 1) pa_nil)) (pe_callB call_len_seq (by rfl) T.len PySem.boot_len (pa_cons (pv 0) pa_nil))) (fun _ _ => rfl)) pe_int)
            (pe_op op_mul (pv 1) pe_int)) pe_int) pa_nil)) pe_int))
      (pss_one (ps_ret (pe_op op_mod (pe_callTy call_int1 (by rfl) T.int PyProof.Rows.boot_int (pa_cons
          (pe_op op_mod (pe_callTy call_int1 (by rfl) T.int PyProof.Rows.boot_int (pa_cons (pe_op op_add (pe_op op_mul (pv 3) pe_int) (pv 1)) pa_nil)) pe_int) pa_nil)) (pv 2))))), ?_⟩
    have hl : (ns.map V.int).length = ns.length := List.length_map _
    refine ⟨_, rfl, _, rfl, a, _, rfl, .inl hS, _, _, rfl, rfl, _, rfl, ?_⟩
    refine ite2 (fun c => ?_) (fun c => ?_)
    · have c' : i < ((ns.map V.int).length : Int) := of_decide_eq_true c
      rw [hl] at c'
      obtain ⟨y, hy⟩ := at_int (ns := ns) hi c'
      exact ⟨_, rfl, _, rfl, a, _, i, _, rfl, rfl, hS, hy, .inl ⟨_, rfl, _, rfl, _, _, rfl, rfl, hm, k _ (Int.emod_nonneg _ (by omega)) (Int.emod_lt_of_pos _ hm)⟩⟩
    · have hp : (0 : Int) < ((ns.map V.int).length : Int) := by rw [hl]; omega
      obtain ⟨y, hy⟩ := at_int (ns := ns) (z := i % ((ns.map V.int).length : Int)) (Int.emod_nonneg _ (by omega)) (by rw [← hl]; exact Int.emod_lt_of_pos _ hp)
      refine ⟨_, rfl, _, rfl, .inl ⟨_, rfl, _, rfl, a, _, rfl, .inl hS, _, _, rfl, rfl, hp, a, _, _, _, rfl, rfl, hS, hy, _, _, rfl, rfl, .inr ⟨by decide, by decide⟩, ?_⟩⟩
      refine ⟨_, rfl, _, _, rfl, rfl, .inr ⟨by decide, by decide⟩, _, _, rfl, rfl, _, _, rfl, rfl, .inl ⟨_, rfl, _, _, rfl, rfl, (by show (0 : Int) < 2147483399; decide), ?_⟩⟩
      exact ⟨_, rfl, _, _, rfl, rfl, .inr ⟨by decide, by decide⟩, _, rfl, _, _, rfl, rfl, .inl ⟨_, rfl, _, _, rfl, rfl, (by show (0 : Int) < 2147483647; decide), .inl ⟨_, rfl, _, rfl, _, _, rfl, rfl, hm, k _ (Int.emod_nonneg _ (by omega)) (Int.emod_lt_of_pos _ hm)⟩⟩⟩
theorem scTake : FnScope ["row", "spot", "limit"] ["row", "spot", "limit"] (defScope sTake) := ⟨rfl, rfl, rfl, by decide +kernel, rfl, by decide +kernel, by decide +kernel⟩
theorem ok_take {f fD : Addr} {fd fdD : FuncData} (F : Fun K "_law_take" "_law_take" sTake f fd) (T : Glo mg) (D : At K mg "_law_draw" sDraw ["row", "at", "limit"] fD fdD) : FnOk P w K mg base CX0 2 f fd ["row", "spot", "limit"] (spTake K) := by
  have GD : FnOk P w K mg base CX0 1 fD fdD _ _ := ok_draw D.fn T
  refine F.ok scTake (fun vs H Q E h => ?_) (fun cdv A outer s H vs Q E hr h => ?_)
  · obtain ⟨a, b, ns, i, m, rfl, _⟩ := h
    rfl
  · obtain ⟨a, b, ns, i, m, rfl, hab, hS, hb, hn, hi, hm, k⟩ := h
    refine ⟨_, pss_cons (ps_asg (pe_op op_add (pe_ix ix_list (pv 1) pe_int (fun _ _ => rfl)) pe_int) (pg_sub (pv 1) pe_int set_list))
      (pss_one (ps_ret (pe_call GD hr (by rfl) D.mf D.fn.kp D.bd .nil pass0 (pa_cons (pv 0) (pa_cons (pe_op op_sub (pe_ix ix_list (pv 1) pe_int (fun _ _ => rfl)) pe_int) (pa_cons (pv 2) pa_nil)))))), ?_⟩
    refine ⟨_, rfl, b, _, 0, _, rfl, rfl, SqL.of hb, atI_nat (j := 0) rfl, _, _, rfl, rfl, _, rfl, b, _, 0, 0, rfl, rfl, hb, rfl, ?_⟩
    refine ⟨_, rfl, _, rfl, b, _, 0, _, rfl, rfl, SqL.of upd_same, atI_nat (j := 0) rfl, _, _, rfl, rfl, _, rfl, ?_⟩
    refine ⟨a, ns, _, m, rfl, ?_, hn, ?_, hm, k⟩
    · rcases hS with (h | ⟨o, h⟩) | h
      · exact .inl (.inl (by rw [upd_ne hab]; exact h))
      · exact .inl (.inr ⟨o, by rw [upd_ne hab]; exact h⟩)
      · exact .inr h
    · omega

abbrev sNum : Stmt := topS 30
theorem scNum : FnScope ["script", "row", "cell", "left", "k", "mixed"] ["script"] (defScope sNum) := ⟨rfl, rfl, rfl, by decide +kernel, rfl, by decide +kernel, by decide +kernel⟩
def spNum (K : PySem.W.Frag) : Sp := fun vs H Q _ => ∃ (a : Addr) (ns : List Int), vs = [.ref a] ∧ Ints K H a ns ∧ ns.length ≤ 63 ∧
  ∀ (p : Addr) (row : List Int) (H' : Hp), Same H H' → H p = none → H' p = some (.lst (row.map V.int)) → 0 < row.length → Q (.ref p) H'
theorem cut_ints (ns : List Int) (lo hi : Option Int) : ∃ ms : List Int, cutV (ns.map V.int) lo hi = ms.map V.int ∧ ms.length ≤ ns.length := by
  have e := cutV_length (ns.map V.int) lo hi
  unfold cutV at e ⊢
  rw [← List.map_drop, ← List.map_take] at e ⊢
  exact ⟨_, rfl, by simpa using e⟩
/-- the frame within _law_numbers -/
structure NumSt (a p q : Addr) (H0 : Hp) (ms : List Int) (n : Nat) (row : List Int) (H : Hp) : Prop where
  rw : H p = some (.lst (row.map V.int))
  q : H q = some (.lst (ms.map V.int))
  sm : Same H0 H
  ln : row.length ≤ n
theorem NumSt.app {a p q : Addr} {H0 H : Hp} {ms row : List Int} {n : Nat} (h : NumSt a p q H0 ms n row H) (hp : H0 p = none) (hqp : q ≠ p) (z : Int) : NumSt a p q H0 ms (n + 1) (row ++ [z]) (upd H p (.lst (row.map V.int ++ [V.int z]))) :=
  ⟨by rw [upd_same, List.map_append]; rfl, by rw [upd_ne hqp]; exact h.q, fun b o e => by rw [upd_ne (ne_of_none e hp)]; exact h.sm b o e, by rw [List.length_append]; exact Nat.succ_le_succ h.ln⟩
theorem NumSt.mono {a p q : Addr} {H0 H : Hp} {ms row : List Int} {n m : Nat} (h : NumSt a p q H0 ms n row H) (hm : n ≤ m) : NumSt a p q H0 ms m row H := ⟨h.rw, h.q, h.sm, Nat.le_trans h.ln hm⟩
theorem ok_num {f : Addr} {fd : FuncData} (F : Fun K "_law_numbers" "_law_numbers" sNum f fd) (T : Glo mg) : FnOk P w K mg base CX0 1 f fd ["script"] (spNum K) := by
  refine F.ok scNum (fun vs H Q E h => ?_) (fun cdv A outer s H vs Q E hr h => ?_)
  · obtain ⟨a, ns, rfl, _⟩ := h
    rfl
  · obtain ⟨a, ns, rfl, hS, hn, k⟩ := h
    refine ⟨_, pss_cons (ps_set (i := 1) scNum.nd rfl (.inl rfl) (pe_lst pa_nil))
      (pss_cons (ps_for PassesOwn.never rfl (pi_list (pe_slice sl_list (pv 0) po_none (po_some pe_int))) (pg_name (i := 2) scNum.nd rfl (.inl rfl))
        (pss_one (ps_if (pt_cmpR op_ge (pv 2) (pe_op op_pow pe_int pe_int) (nomark _))
          (pss_cons (ps_set (i := 3) scNum.nd rfl (.inl rfl) (pv 2))
          (pss_one (ps_for PassesOwn.never rfl (pi_range1 (by rfl) T.range (pa_cons pe_int pa_nil)) (pg_name (i := 4) scNum.nd rfl (.inl rfl))
            (pss_cons (ps_if (pt_cmpR op_eq (pv 3) pe_int (nomark _)) (pss_one ps_break) pss_nil)
            (pss_cons (ps_expr (pe_bm PySem.F.plainAttrs_list PySem.F.slot_list_append PySem.F.type_list_append mt_append (pv 1) (pa_cons (pe_op op_mod (pe_callTy call_int1 (by rfl) T.int PyProof.Rows.boot_int (pa_cons (pv 3) pa_nil)) pe_int) pa_nil)))
            (pss_one (ps_set (i := 3) scNum.nd rfl (.inl rfl) (pe_op op_fdiv (pv 3) pe_int))))))))
          (pss_one (ps_for PassesOwn.never rfl (pi_range1 (by rfl) T.range (pa_cons pe_int pa_nil)) (pg_name (i := 4) scNum.nd rfl (.inl rfl))
            (pss_cons (ps_set (i := 5) scNum.nd rfl (.inl rfl) (pe_op op_mod (pe_callTy call_int1 (by rfl) T.int PyProof.Rows.boot_int (pa_cons (pe_op op_add (pe_op op_add (pe_op op_mul (pv 2) pe_int) (pe_op op_mul (pv 4) pe_int)) pe_int) pa_nil)) pe_int))
            (pss_one (ps_expr (pe_bm PySem.F.plainAttrs_list PySem.F.slot_list_append PySem.F.type_list_append mt_append (pv 1) (pa_cons (pe_op op_mod (pe_callTy call_int1 (by rfl) T.int PyProof.Rows.boot_int (pa_cons (pe_op op_add (pe_op op_mul (pv 5) pe_int) (pv 4)) pa_nil)) pe_int) pa_nil))))))))))
      (pss_cons (ps_if (pt_cmpR op_eq (pe_callB call_len_seq (by rfl) T.len PySem.boot_len (pa_cons (pv 1) pa_nil)) pe_int (nomark _))
        (pss_one (ps_expr (pe_bm PySem.F.plainAttrs_list PySem.F.slot_list_append PySem.F.type_list_append mt_append (pv 1) (pa_cons pe_int pa_nil)))) pss_nil)
      (pss_one (ps_ret (pv 1))))), ?_⟩
    refine ⟨(by decide), fun p hp => ?_⟩
    have s1 : Same H (upd H p (.lst [])) := fun b o e => by rw [upd_ne (ne_of_none e hp)]; exact e
    refine ⟨_, rfl, _, rfl, a, _, rfl, s1.seq hS, fun q hq => ?_⟩
    obtain ⟨ms, em, hms⟩ := cut_ints ns none (some 63)
    rw [em]
    have hqp : q ≠ p := fun z => by
      rw [z, upd_same] at hq
      cases hq
    have hq0 : H q = none := by rw [upd_ne hqp] at hq; exact hq
    have S0 : NumSt a p q H ms 0 [] (upd (upd H p (.lst [])) q (.lst (ms.map V.int))) := ⟨by rw [upd_ne (Ne.symm hqp), upd_same]; rfl, upd_same, fun b o e => by rw [upd_ne (ne_of_none e hq0), upd_ne (ne_of_none e hp)]; exact e, Nat.le_refl _⟩
    refine ⟨q, rfl, ⟨_, SqL.of S0.q⟩, for_list (K := K) (a := q) (xs := ms.map V.int) (fun i σ H2 => ∃ (row : List Int) (c l k m : Option V), σ = [some (.ref a), some (.ref p), c, l, k, m] ∧ NumSt a p q H ms (60 * i) row H2)
      ⟨[], none, none, none, none, rfl, S0⟩ (fun i σ H2 _ ⟨_, _, _, _, _, _, h2⟩ => SqL.of h2.q) ?_ ?_⟩
    · rintro i y σ H2 hi ⟨row, c, l, kk, m, rfl, h2⟩
      have hil : i < ms.length := by
        have := (List.getElem?_eq_some_iff.mp hi).1
        simpa using this
      obtain ⟨z, rfl⟩ : ∃ z, y = V.int z := by
        rw [List.getElem?_map] at hi
        cases e : ms[i]? with
        | none => rw [e] at hi; cases hi
        | some z => rw [e] at hi; exact ⟨z, (Option.some.inj hi).symm⟩
      refine ⟨_, rfl, _, _, rfl, rfl, ⟨by decide, by decide, by decide⟩, _, _, rfl, rfl, _, rfl, ?_⟩
      refine ite2 (fun _ => ?_) (fun _ => ?_)
      · refine ⟨_, rfl, 60, rfl, by decide, by decide, for_range (n := 60) (fun j σ H3 => ∃ (row : List Int) (c k m : Option V) (l : Int), σ = [some (.ref a), some (.ref p), c, some (.int l), k, m] ∧ NumSt a p q H ms (60 * i + j) row H3)
          ⟨row, _, _, _, z, rfl, h2⟩ ?_ ?_⟩
        · rintro j σ H3 hj ⟨row, c, k3, m3, l3, rfl, h3⟩
          refine ⟨_, rfl, rfl, _, rfl, ?_⟩
          refine ite2 (fun _ => ?_) (fun _ => ?_)
          · exact ⟨row, _, _, _, _, rfl, h3.mono (by omega)⟩
          · refine ⟨_, rfl, .inl ⟨rfl, _, SqL.of h3.rw⟩, _, rfl, .inl ⟨_, rfl, _, _, rfl, rfl, (by show (0 : Int) < 997; decide), p, _, _, rfl, rfl, h3.rw, ?_, ?_⟩⟩
            · have := h3.ln
              rw [List.length_map]
              exact Nat.lt_of_le_of_lt (by omega : _ ≤ 4000) (by decide)
            · exact ⟨_, rfl, _, _, rfl, rfl, ⟨by decide, by decide⟩, row ++ [_], _, _, _, _, rfl, h3.app hp hqp _⟩
        · rintro σ H3 ⟨row, c, k3, m3, l3, rfl, h3⟩
          exact ⟨row, _, _, _, _, rfl, h3.mono (by omega)⟩
      · refine ⟨4, rfl, by decide, by decide, for_range (n := 4) (fun j σ H3 => ∃ (row : List Int) (l k m : Option V), σ = [some (.ref a), some (.ref p), some (.int z), l, k, m] ∧ NumSt a p q H ms (60 * i + j) row H3)
          ⟨row, _, _, _, rfl, h2⟩ ?_ ?_⟩
        · rintro j σ H3 hj ⟨row, l3, k3, m3, rfl, h3⟩
          refine ⟨_, rfl, _, _, rfl, rfl, .inr ⟨by decide, by decide⟩, _, rfl, _, _, rfl, rfl, .inr ⟨by decide, by decide⟩, _, _, rfl, rfl, _, _, rfl, rfl, .inl ⟨_, rfl, _, _, rfl, rfl, (by show (0 : Int) < 2147483647; decide), ?_⟩⟩
          refine ⟨_, rfl, .inl ⟨rfl, _, SqL.of h3.rw⟩, _, rfl, _, _, rfl, rfl, .inr ⟨by decide, by decide⟩, _, rfl, _, _, rfl, rfl, .inl ⟨_, rfl, _, _, rfl, rfl, (by show (0 : Int) < 2147483629; decide), p, _, _, rfl, rfl, h3.rw, ?_, ?_⟩⟩
          · have := h3.ln
            rw [List.length_map]
            exact Nat.lt_of_le_of_lt (by omega : _ ≤ 4000) (by decide)
          · exact ⟨row ++ [_], _, _, _, rfl, h3.app hp hqp _⟩
        · rintro σ H3 ⟨row, l3, k3, m3, rfl, h3⟩
          exact ⟨row, _, _, _, _, rfl, h3.mono (by omega)⟩
    · rintro σ H2 ⟨row, c, l, kk, m, rfl, h2⟩
      refine ⟨_, rfl, p, _, rfl, .inl (SqL.of h2.rw), rfl, _, rfl, ?_⟩
      refine ite2 (fun c0 => ?_) (fun c0 => ?_)
      · refine ⟨_, rfl, .inl ⟨rfl, _, SqL.of h2.rw⟩, p, _, _, rfl, rfl, h2.rw, ?_, ?_⟩
        · have := h2.ln
          rw [List.length_map]
          exact Nat.lt_of_le_of_lt (Nat.le_trans this (by omega : 60 * (ms.map V.int).length ≤ 60 * (ms.map V.int).length)) (by
            rw [List.length_map]
            exact Nat.lt_of_le_of_lt (by omega : 60 * ms.length ≤ 4000) (by decide))
        · exact ⟨_, rfl, k p (row ++ [0]) _ (h2.app hp hqp 0).sm hp (h2.app hp hqp 0).rw (by rw [List.length_append]; exact Nat.succ_pos _)⟩
      · have hr0 : 0 < row.length := by
          rcases Nat.eq_zero_or_pos row.length with e | e
          · exfalso
            apply c0
            rw [List.length_map, e]
            decide
          · exact e
        exact ⟨_, rfl, k p row _ h2.sm hp h2.rw hr0⟩
end
end Kl

namespace Kl
open PySem L2 Kd
/-! the draws' frame: the row of numbers at a, the place at b; all else stands -/
structure Sp0 (K : PySem.W.Frag) (a b : Addr) (ns : List Int) (H : Hp) : Prop where
  nums : Ints K H a ns
  pos : 0 < ns.length
  ne : a ≠ b
  cell : ∃ i : Int, 0 ≤ i ∧ H b = some (.lst [.int i])
structure Go (b : Addr) (H H' : Hp) : Prop where
  keep : ∀ c o, c ≠ b → H c = some o → H' c = some o
  cell : ∃ i : Int, 0 ≤ i ∧ H' b = some (.lst [.int i])
theorem Go.refl {b : Addr} {H : Hp} (h : ∃ i : Int, 0 ≤ i ∧ H b = some (.lst [.int i])) : Go b H H := ⟨fun _ _ _ e => e, h⟩
theorem Sp0.refl {K : PySem.W.Frag} {a b : Addr} {ns : List Int} {H : Hp} (s : Sp0 K a b ns H) : Go b H H := Go.refl s.cell
theorem Go.trans {b : Addr} {H H1 H2 : Hp} (g : Go b H H1) (k : Go b H1 H2) : Go b H H2 := ⟨fun c o n e => k.keep c o n (g.keep c o n e), k.cell⟩
theorem Go.free {b : Addr} {H H1 : Hp} {p : Addr} (g : Go b H H1) (h : H1 p = none) : H p = none := by
  cases e : H p with
  | none => rfl
  | some o =>
    by_cases n : p = b
    · obtain ⟨i, _, q⟩ := g.cell
      rw [n, q] at h
      cases h
    · rw [g.keep p o n e] at h
      cases h
theorem Go.new {b : Addr} {H H1 : Hp} {p : Addr} {o : HO} (g : Go b H H1) (h : H1 p = none) : Go b H (upd H1 p o) := by
  obtain ⟨i, hi, q⟩ := g.cell
  exact ⟨fun c u n e => by rw [upd_ne (ne_of_none (g.keep c u n e) h)]; exact g.keep c u n e, i, hi, by rw [upd_ne (ne_of_none q h)]; exact q⟩
/-- what is new may change -/
theorem Go.mut {b : Addr} {H H1 : Hp} {p : Addr} {o : HO} (g : Go b H H1) (h : H p = none) (n : b ≠ p) : Go b H (upd H1 p o) := by
  obtain ⟨i, hi, q⟩ := g.cell
  exact ⟨fun c u m e => by rw [upd_ne (ne_of_none e h)]; exact g.keep c u m e, i, hi, by rw [upd_ne n]; exact q⟩
theorem Go.tk {b : Addr} {H H1 : Hp} (g : Go b H H1) (h : ∃ i : Int, 0 ≤ i ∧ H b = some (.lst [.int i])) : Tk H H1 := fun c xs e => by
  obtain ⟨i, _, q⟩ := h
  exact e.imp (fun e => g.keep c _ (fun z => by rw [z, q] at e; cases e) e) fun ⟨o, e⟩ => ⟨o, g.keep c _ (fun z => by rw [z, q] at e; cases e) e⟩
theorem Sp0.go {K : PySem.W.Frag} {a b : Addr} {ns : List Int} {H H' : Hp} (s : Sp0 K a b ns H) (g : Go b H H') : Sp0 K a b ns H' := by
  refine ⟨?_, s.pos, s.ne, g.cell⟩
  rcases s.nums with (h | ⟨o, h⟩) | h
  · exact .inl (.inl (g.keep _ _ s.ne h))
  · exact .inl (.inr ⟨o, g.keep _ _ s.ne h⟩)
  · exact .inr h
theorem none_of {H H' : Hp} {a : Addr} (s : Same H H') (h : H' a = none) : H a = none := by
  cases e : H a with
  | none => rfl
  | some o =>
    rw [s _ _ e] at h
    cases h
/-- a list of texts at p -/
abbrev Strs (H : Hp) (p : Addr) (xs : List Str) : Prop := H p = some (.lst (xs.map V.str))
theorem Strs.ne {H : Hp} {p b : Addr} {xs : List Str} (h : Strs H p xs) (c : ∃ i : Int, 0 ≤ i ∧ H b = some (.lst [.int i])) : p ≠ b := fun z => by
  obtain ⟨i, _, q⟩ := c
  unfold Strs at h
  rw [z, q] at h
  cases xs with
  | nil => simp at h
  | cons x r => simp at h
theorem Strs.go {H H' : Hp} {p b : Addr} {xs : List Str} (h : Strs H p xs) (c : ∃ i : Int, 0 ≤ i ∧ H b = some (.lst [.int i])) (g : Go b H H') : Strs H' p xs := g.keep _ _ (h.ne c) h
theorem strs_at {xs : List Str} {d : Int} (h0 : 0 ≤ d) (h1 : d < (xs.length : Int)) : ∃ x ∈ xs, atI (xs.map V.str) d = some (V.str x) := by
  have hl : d.toNat < xs.length := by omega
  refine ⟨xs[d.toNat], List.getElem_mem hl, at_of (j := d.toNat) (by omega) ?_⟩
  rw [List.getElem?_map, List.getElem?_eq_getElem hl]
  rfl
theorem small_of {n : Nat} (h : n ≤ 100000) : n ≤ sizeLine := Nat.le_trans h (by decide)
theorem small_lt {n : Nat} (h : n < 100000) : n < sizeLine := Nat.lt_of_lt_of_le h (by decide)
/-- a display of written texts -/
def strsOf : List Expr → Option (List Str)
  | [] => some []
  | .Constant (.str x) _ _ :: r => (strsOf r).map (x :: ·)
  | _ => none
def tStrs (xs : List Str) : TA := fun _ H Q => Q (xs.map V.str) H
theorem pa_strs {X : Cx} : ∀ {es : List Expr} {xs : List Str}, strsOf es = some xs → PA X es (tStrs xs)
  | [], xs, h => by
    obtain rfl : [] = xs := Option.some.inj h
    exact pa_nil
  | .Constant (.str x) j p :: r, xs, h => by
    simp only [strsOf, Option.map_eq_some_iff] at h
    obtain ⟨ys, hy, rfl⟩ := h
    exact pa_cons pe_str (pa_strs hy)
/-- take, once more -/
def spTk (K : PySem.W.Frag) : Sp := fun vs H Q _ => ∃ (a b : Addr) (ns : List Int) (m : Int), vs = [.ref a, .ref b, .int m] ∧ Sp0 K a b ns H ∧ 0 < m ∧ ∀ (d : Int) (H' : Hp), Go b H H' → 0 ≤ d → d < m → Q (.int d) H'
section
variable {P : Program} {w : World} {K : PySem.W.Frag} {mg : Str → Option Value} {base : Heap}
theorem cal_of {k : Nat} {x : Str} {st : Stmt} {ps : List Str} {f : Addr} {fd : FuncData} {sp : Sp} (A : At K mg x st ps f fd) (G : FnOk P w K mg base CX0 k f fd ps sp) : C8.Cal P w K mg base k x sp [] :=
  ⟨f, fd, ps, [], G, A.mf, A.fn.kp, A.bd, .nil⟩
theorem take_tk {k : Nat} {f : Addr} {fd : FuncData} {ps : List Str} (G : FnOk P w K mg base CX0 k f fd ps (spTake K)) : FnOk P w K mg base CX0 k f fd ps (spTk K) := G.imp fun vs H Q E h => by
  obtain ⟨a, b, ns, m, rfl, s, hm, k⟩ := h
  obtain ⟨i, hi, hb⟩ := s.cell
  exact ⟨a, b, ns, i, m, rfl, s.ne, s.nums, hb, s.pos, hi, hm, fun d h0 h1 => k d _ ⟨fun c o n e => by rw [upd_ne n]; exact e, i + 1, by omega, upd_same⟩ h0 h1⟩
end
end Kl

namespace Kl
open PySem L2 Kd
abbrev lawTexts : List Str := ["a", "bb", "run", "zzz", "Mix", "x y", "", "one\ntwo", "end\n"]
def spText (K : PySem.W.Frag) : Sp := fun vs H Q _ => ∃ (a b : Addr) (ns : List Int), vs = [.ref a, .ref b] ∧ Sp0 K a b ns H ∧ ∀ (x : Str) (H' : Hp), Go b H H' → x ∈ lawTexts → Q (.str x) H'
abbrev lawPaths : List Str := ["app/main", "app/side", "app/sub/deep", "doc/note", "app/none", "app", "doc", "app/sub"]
/-- the expressions that the law draws -/
inductive LawEx (ts : List Str) : Nat → List Str → Prop
  | path {n : Nat} {w x : Str} (h : w ∈ (["file", "each", "names"] : List Str)) (k : x ∈ lawPaths) : LawEx ts n [w, x]
  | pack {n : Nat} {w x : Str} (h : w ∈ (["pack", "version"] : List Str)) (k : x ∈ (["util", "core", "net"] : List Str)) : LawEx ts n [w, x]
  | set {n : Nat} {x : Str} (k : x ∈ (["color", "mode", "sizes"] : List Str)) : LawEx ts n ["set", x]
  | lit {n : Nat} {x : Str} (k : x ∈ (["a", "run", "zz", "7", "=+=", "k"] : List Str)) : LawEx ts n ["lit", x]
  | dep {n : Nat} {x : Str} (k : x ∈ ts) : LawEx ts n ["dep", x]
  | line {n : Nat} : LawEx ts n ["line"]
  | un {n : Nat} {w : Str} {e : List Str} (h : w ∈ (["up", "size", "not"] : List Str)) (k : LawEx ts n e) : LawEx ts (n + 1) (w :: e)
  | bin {n : Nat} {w : Str} {e f : List Str} (h : w ∈ (["cat", "has", "same"] : List Str)) (k : LawEx ts n e) (l : LawEx ts n f) : LawEx ts (n + 1) (w :: (e ++ f))
  | tri {n : Nat} {e f g : List Str} (k : LawEx ts n e) (l : LawEx ts n f) (m : LawEx ts n g) : LawEx ts (n + 1) ("if" :: (e ++ f ++ g))
/-- expressions of depth up to n - 1 -/
def spEx (K : PySem.W.Frag) (n : Nat) : Sp := fun vs H Q _ => ∃ (a b t : Addr) (ns : List Int) (ts : List Str) (d : Nat), vs = [.ref a, .ref b, .ref t, .int (d : Int)] ∧ Sp0 K a b ns H ∧ Strs H t ts ∧ ts.length ≤ 1000 ∧ d < n ∧
  ∀ (p : Addr) (xs : List Str) (H' : Hp), Go b H H' → H p = none → Strs H' p xs → LawEx ts d xs → Q (.ref p) H'
def exB : Nat → Nat
  | 0 => 2
  | n + 1 => 1 + 3 * exB n
theorem exB_two : ∀ n : Nat, 2 ≤ exB n
  | 0 => Nat.le_refl _
  | n + 1 => by
    have := exB_two n
    simp only [exB]
    omega
theorem exB_mono {m : Nat} : ∀ {n : Nat}, m ≤ n → exB m ≤ exB n
  | 0, h => by
    obtain rfl : m = 0 := by omega
    exact Nat.le_refl _
  | n + 1, h => by
    by_cases e : m = n + 1
    · subst e
      exact Nat.le_refl _
    · have := exB_mono (m := m) (n := n) (by omega)
      simp only [exB]
      omega
theorem LawEx.small {ts : List Str} {n : Nat} {e : List Str} (h : LawEx ts n e) : e.length ≤ exB n := by
  induction h with
  | path => exact exB_two _
  | pack => exact exB_two _
  | set => exact exB_two _
  | lit => exact exB_two _
  | dep => exact exB_two _
  | line => exact Nat.le_trans (by decide) (exB_two _)
  | un h k ih =>
    simp only [exB, List.length_cons]
    omega
  | bin h k l i1 i2 =>
    simp only [exB, List.length_cons, List.length_append]
    omega
  | tri k l m i1 i2 i3 =>
    simp only [exB, List.length_cons, List.length_append]
    omega
section
variable {P : Program} {w : World} {K : PySem.W.Frag} {mg : Str → Option Value} {base : Heap}
abbrev s_l_text : Stmt := topS 35
theorem sc_l_text : FnScope ["row", "spot"] ["row", "spot"] (defScope s_l_text) := ⟨rfl, rfl, rfl, by decide +kernel, rfl, by decide +kernel, by decide +kernel⟩
theorem ok_text {f : Addr} {fd : FuncData} (F : Fun K "_law_text" "_law_text" s_l_text f fd) (c_l_take : C8.Cal P w K mg base 2 "_law_take" (spTk K) []) : FnOk P w K mg base CX0 3 f fd ["row", "spot"] (spText K) := by
  refine F.ok sc_l_text (fun vs H Q E h => ?_) (fun cdv A outer s H vs Q E hr h => ?_)
  · obtain ⟨a, b, ns, rfl, _⟩ := h
    rfl
  · obtain ⟨a, b, ns, rfl, S, k⟩ := h
    refine ⟨_, (pss_one (ps_ret (pe_ix ix_list (pe_lst (pa_strs rfl)) (C8.pe_c c_l_take hr (by omega) (by rfl) (pa_cons (pv 0) (pa_cons (pv 1) (pa_cons pe_int pa_nil)))) (fun _ _ => rfl)))), ?_⟩
    refine ⟨(by show 9 ≤ sizeLine; decide), fun l hl => ?_⟩
    have S1 := S.go (S.refl.new (o := .lst (lawTexts.map V.str)) hl)
    refine ⟨_, rfl, _, rfl, a, b, ns, 9, rfl, S1, by decide, fun d H' g h0 h1 => ?_⟩
    have hs : Strs H' l lawTexts := Strs.go (H := upd H l (.lst (lawTexts.map V.str))) upd_same S1.cell g
    obtain ⟨x, hx, e⟩ := strs_at (xs := lawTexts) h0 h1
    exact ⟨l, _, d, _, rfl, rfl, SqL.of hs, e, k x H' ((S.refl.new hl).trans g) hx⟩
abbrev s_l_expression : Stmt := topS 36
theorem sc_l_expression : FnScope ["row", "spot", "targets", "deep", "style", "word", "made"] ["row", "spot", "targets", "deep"] (defScope s_l_expression) := ⟨rfl, rfl, rfl, by decide +kernel, rfl, by decide +kernel, by decide +kernel⟩
/-- an item of a written list of texts, drawn -/
theorem pick_ok {K : PySem.W.Frag} {a b : Addr} {ns : List Int} {m : List Str} {σ : L2.St} {H : Hp} {Q : VK} {n : Int} (h0 : σ[0]? = some (some (.ref a))) (h1 : σ[1]? = some (some (.ref b))) (S : Sp0 K a b ns H) (hn : n = (m.length : Int)) (hm : 0 < m.length ∧ m.length ≤ 1000)
    (q : ∀ (x : Str) (H2 : Hp), Go b H H2 → x ∈ m → Q (.str x) H2) : tOp (rIxL K) (tLst (tStrs m)) (tCall (spTk K) [] E0 (tCons (tVar 0) (tCons (tVar 1) (tCons (tC (.int n)) tNil)))) σ H Q := by
  subst hn
  refine ⟨by rw [List.length_map]; exact small_of (by omega), fun l hl => ⟨_, h0, _, h1, a, b, ns, m.length, rfl, S.go (S.refl.new hl), by omega, fun d H' g2 l0 l1 => ?_⟩⟩
  have g1 := S.refl.new (o := .lst (m.map V.str)) hl
  have hs : Strs H' l m := Strs.go (H := upd H l (.lst (m.map V.str))) upd_same g1.cell g2
  obtain ⟨x, hx, e⟩ := strs_at (xs := m) l0 l1
  exact ⟨l, _, d, _, rfl, rfl, SqL.of hs, e, q x H' (g1.trans g2) hx⟩
/-- .. of a list that stands -/
theorem pick_of {K : PySem.W.Frag} {a b t : Addr} {ns : List Int} {m : List Str} {σ : L2.St} {H : Hp} {Q : VK} {ta tn : TE} (h0 : σ[0]? = some (some (.ref a))) (h1 : σ[1]? = some (some (.ref b))) (S : Sp0 K a b ns H) (ht : Strs H t m) (hm : 0 < m.length)
    (et : ∀ Q1 : VK, Q1 (.ref t) H → ta σ H Q1) (en : ∀ Q1 : VK, Q1 (.int (m.length : Int)) H → tn σ H Q1)
    (q : ∀ (x : Str) (H2 : Hp), Go b H H2 → x ∈ m → Q (.str x) H2) : tOp (rIxL K) ta (tCall (spTk K) [] E0 (tCons (tVar 0) (tCons (tVar 1) (tCons tn tNil)))) σ H Q := by
  refine et _ ⟨_, h0, _, h1, en _ ⟨a, b, ns, m.length, rfl, S, by omega, fun d H' g2 l0 l1 => ?_⟩⟩
  obtain ⟨x, hx, e⟩ := strs_at (xs := m) l0 l1
  exact ⟨t, _, d, _, rfl, rfl, SqL.of (ht.go S.cell g2), e, q x H' g2 hx⟩
/-- a call of itself, one lower -/
theorem again_ok {K : PySem.W.Frag} {n : Nat} {a b t : Addr} {ns : List Int} {ts : List Str} {d : Nat} {σ : L2.St} {H : Hp} {Q : VK} (h0 : σ[0]? = some (some (.ref a))) (h1 : σ[1]? = some (some (.ref b))) (h2 : σ[2]? = some (some (.ref t))) (h3 : σ[3]? = some (some (.int ((d + 1 : Nat) : Int))))
    (S : Sp0 K a b ns H) (ht : Strs H t ts) (hz : ts.length ≤ 1000) (hd : d < n)
    (q : ∀ (p : Addr) (xs : List Str) (H' : Hp), Go b H H' → H p = none → Strs H' p xs → LawEx ts d xs → Q (.ref p) H') :
    tCall (spEx K n) [] C8.E0 (tCons (tVar 0) (tCons (tVar 1) (tCons (tVar 2) (tCons (tOp (rI0 fun i j => V.int (i - j)) (tVar 3) (tC (V.int 1))) tNil)))) σ H Q := by
  refine ⟨_, h0, _, h1, _, h2, _, h3, _, _, rfl, rfl, a, b, t, ns, ts, d, ?_, S, ht, hz, hd, q⟩
  show [V.ref a, V.ref b, V.ref t, V.int (((d + 1 : Nat) : Int) - 1)] = _
  rw [show ((d + 1 : Nat) : Int) - 1 = (d : Int) by omega]
theorem cat_ok {b p q : Addr} {xs ys : List Str} {H : Hp} {Q : VK} (c : ∃ i : Int, 0 ≤ i ∧ H b = some (.lst [.int i])) (hp : Strs H p xs) (hq : Strs H q ys) (hz : xs.length + ys.length ≤ 100000)
    (k : ∀ (r : Addr) (H' : Hp), Go b H H' → H r = none → Strs H' r (xs ++ ys) → Q (.ref r) H') : rCat (.ref p) (.ref q) H Q :=
  ⟨p, q, _, _, rfl, rfl, hp, hq, by rw [List.length_map, List.length_map]; exact small_of hz, fun r hr => k r _ ((Go.refl c).new hr) hr (by unfold Strs; rw [upd_same, List.map_append])⟩
theorem mem_sub {m m' : List Str} (h : ∀ y ∈ m, y ∈ m') {x : Str} (hx : x ∈ m) : x ∈ m' := h x hx
theorem lt_cases {d : Int} {n : Nat} (h0 : 0 ≤ d) (h1 : d < (n : Int)) : ∃ i : Nat, i < n ∧ d = (i : Int) := ⟨d.toNat, by omega, by omega⟩
theorem ok_ex {f : Addr} {fd : FuncData} (A : At K mg "_law_expression" s_l_expression ["row", "spot", "targets", "deep"] f fd) (T : Glo mg) (c_l_take : C8.Cal P w K mg base 2 "_law_take" (spTk K) []) :
    ∀ n : Nat, n ≤ 10 → FnOk P w K mg base CX0 (n + 3) f fd ["row", "spot", "targets", "deep"] (spEx K n)
  | 0, _ => ⟨fun vs H Q E ⟨a, b, t, ns, ts, d, e, _⟩ => by subst e; rfl, fun A outer s H args us vs Q E hr he hb hv ⟨a, b, t, ns, ts, d, e, _, _, _, z, _⟩ => absurd z (Nat.not_lt_zero _)⟩
  | n + 1, hn => by
    have c_l_expression : C8.Cal P w K mg base (n + 3) "_law_expression" (spEx K n) [] := cal_of A (ok_ex A T c_l_take n (by omega))
    refine A.fn.ok sc_l_expression (fun vs H Q E h => ?_) (fun cdv A outer s H vs Q E hr h => ?_)
    · obtain ⟨a, b, t, ns, ts, d, rfl, _⟩ := h
      rfl
    · obtain ⟨a, b, t, ns, ts, d, rfl, S, ht, hz, hd, k⟩ := h
      refine ⟨_, (pss_cons (ps_set (i := 4) sc_l_expression.nd rfl (.inl rfl) (C8.pe_c c_l_take hr (by omega) (by rfl) (pa_cons (pv 0) (pa_cons (pv 1) (pa_cons (pe_ifExp (pt_cmpR op_gt (pv 3) pe_int (nomark _)) pe_int pe_int) pa_nil)))))
        (pss_cons (ps_if (pt_cmpR op_in_seq (pv 4) (pe_lst (pa_cons pe_int (pa_cons pe_int pa_nil))) (by rfl))
        (pss_one (ps_ret (pe_lst (pa_cons pe_str (pa_cons (pe_ix ix_list (pe_lst (pa_strs rfl)) (C8.pe_c c_l_take hr (by omega) (by rfl) (pa_cons (pv 0) (pa_cons (pv 1) (pa_cons pe_int pa_nil)))) (fun _ _ => rfl)) pa_nil)))))
        pss_nil)
        (pss_cons (ps_if (pt_cmpR op_eq (pv 4) pe_int (nomark _))
        (pss_one (ps_ret (pe_lst (pa_cons (pe_ix ix_list (pe_lst (pa_strs rfl)) (C8.pe_c c_l_take hr (by omega) (by rfl) (pa_cons (pv 0) (pa_cons (pv 1) (pa_cons pe_int pa_nil)))) (fun _ _ => rfl)) (pa_cons (pe_ix ix_list (pe_lst (pa_strs rfl)) (C8.pe_c c_l_take hr (by omega) (by rfl) (pa_cons (pv 0) (pa_cons (pv 1) (pa_cons pe_int pa_nil)))) (fun _ _ => rfl)) pa_nil)))))
        pss_nil)
        (pss_cons (ps_if (pt_cmpR op_eq (pv 4) pe_int (nomark _))
        (pss_one (ps_ret (pe_lst (pa_cons (pe_ix ix_list (pe_lst (pa_strs rfl)) (C8.pe_c c_l_take hr (by omega) (by rfl) (pa_cons (pv 0) (pa_cons (pv 1) (pa_cons pe_int pa_nil)))) (fun _ _ => rfl)) (pa_cons (pe_ix ix_list (pe_lst (pa_strs rfl)) (C8.pe_c c_l_take hr (by omega) (by rfl) (pa_cons (pv 0) (pa_cons (pv 1) (pa_cons pe_int pa_nil)))) (fun _ _ => rfl)) pa_nil)))))
        pss_nil)
        (pss_cons (ps_if (pt_cmpR op_eq (pv 4) pe_int (nomark _))
        (pss_one (ps_ret (pe_lst (pa_cons pe_str (pa_cons (pe_ix ix_list (pe_lst (pa_strs rfl)) (C8.pe_c c_l_take hr (by omega) (by rfl) (pa_cons (pv 0) (pa_cons (pv 1) (pa_cons pe_int pa_nil)))) (fun _ _ => rfl)) pa_nil)))))
        pss_nil)
        (pss_cons (ps_if (pt_cmpR op_eq (pv 4) pe_int (nomark _))
        (pss_one (ps_ret (pe_lst (pa_cons pe_str (pa_cons (pe_ix ix_list (pe_lst (pa_strs rfl)) (C8.pe_c c_l_take hr (by omega) (by rfl) (pa_cons (pv 0) (pa_cons (pv 1) (pa_cons pe_int pa_nil)))) (fun _ _ => rfl)) pa_nil)))))
        pss_nil)
        (C8.pss_cut (ps_if (PW.pt (pw_and (pt_cmpR op_in_seq (pv 4) (pe_lst (pa_cons pe_int (pa_cons pe_int pa_nil))) (by rfl)) (pw_and1 (pt_cmpR op_gt (pe_callB call_len_seq (by rfl) T.len PySem.boot_len (pa_cons (pv 2) pa_nil)) pe_int (nomark _)))))
        (pss_one (ps_ret (pe_lst (pa_cons pe_str (pa_cons (pe_ix ix_list (pv 2) (C8.pe_c c_l_take hr (by omega) (by rfl) (pa_cons (pv 0) (pa_cons (pv 1) (pa_cons (pe_callB call_len_seq (by rfl) T.len PySem.boot_len (pa_cons (pv 2) pa_nil)) pa_nil)))) (fun _ _ => rfl)) pa_nil)))))
        pss_nil)
        (pss_cons (ps_if (pt_cmpR op_le (pv 4) pe_int (nomark _))
        (pss_one (ps_ret (pe_ifExp (pt_cmpR op_eq (C8.pe_c c_l_take hr (by omega) (by rfl) (pa_cons (pv 0) (pa_cons (pv 1) (pa_cons pe_int pa_nil)))) pe_int (nomark _)) (pe_lst (pa_strs rfl)) (pe_lst (pa_strs rfl)))))
        pss_nil)
        (pss_cons (ps_if (pt_cmpR op_eq (pv 4) pe_int (nomark _))
        (pss_one (ps_ret (pe_op op_cat (pe_lst (pa_cons (pe_ix ix_list (pe_lst (pa_strs rfl)) (C8.pe_c c_l_take hr (by omega) (by rfl) (pa_cons (pv 0) (pa_cons (pv 1) (pa_cons pe_int pa_nil)))) (fun _ _ => rfl)) pa_nil)) (C8.pe_c c_l_expression hr (by omega) (by rfl) (pa_cons (pv 0) (pa_cons (pv 1) (pa_cons (pv 2) (pa_cons (pe_op op_sub (pv 3) pe_int) pa_nil))))))))
        pss_nil)
        (pss_cons (ps_set (i := 5) sc_l_expression.nd rfl (.inl rfl) (pe_ix ix_list (pe_lst (pa_strs rfl)) (pe_op op_sub (pv 4) pe_int) (fun _ _ => rfl)))
        (pss_cons (ps_set (i := 6) sc_l_expression.nd rfl (.inl rfl) (pe_op op_cat (pe_op op_cat (pe_lst (pa_cons (pv 5) pa_nil)) (C8.pe_c c_l_expression hr (by omega) (by rfl) (pa_cons (pv 0) (pa_cons (pv 1) (pa_cons (pv 2) (pa_cons (pe_op op_sub (pv 3) pe_int) pa_nil)))))) (C8.pe_c c_l_expression hr (by omega) (by rfl) (pa_cons (pv 0) (pa_cons (pv 1) (pa_cons (pv 2) (pa_cons (pe_op op_sub (pv 3) pe_int) pa_nil)))))))
        (pss_one (ps_ret (pe_ifExp (pt_cmpR op_eq (pv 5) pe_str (nomark _)) (pe_op op_cat (pv 6) (C8.pe_c c_l_expression hr (by omega) (by rfl) (pa_cons (pv 0) (pa_cons (pv 1) (pa_cons (pv 2) (pa_cons (pe_op op_sub (pv 3) pe_int) pa_nil)))))) (pv 6))))))))))))))), ?_⟩
      refine ⟨_, rfl, _, rfl, _, rfl, _, _, rfl, rfl, _, rfl, ?_⟩
      refine ite2 (fun c => ?_) (fun c => ?_)
      all_goals
        refine ⟨a, b, ns, _, rfl, S, by decide, fun st H1 g1 h0 h1 => ?_⟩
        have h16 : st < 16 := by omega
        have h9 : 9 ≤ st → 0 < d := by
          have c' := c
          simp at c'
          omega
        refine ⟨_, rfl, (by show 2 ≤ sizeLine; decide), fun l hl => ?_⟩
        have g2 := g1.new (o := .lst [.int 0, .int 1]) hl
        have S2 := S.go g2
        have t2 := ht.go S.cell g2
        refine ⟨l, _, rfl, .inl (SqL.of upd_same), rfl, rfl, _, rfl, ?_⟩
        refine ite2 (fun _ => ?_) (fun _ => ?_)
        · refine pick_ok (m := ["app/main", "app/side", "app/sub/deep", "doc/note", "app/none"]) rfl rfl S2 rfl (by decide) fun x H3 g3 hx => ?_
          have g4 := g2.trans g3
          exact ⟨(by show 2 ≤ sizeLine; decide), fun p hp => k p ["file", x] _ (g4.new hp) (g4.free hp) upd_same (.path (by decide) (mem_sub (by decide) hx))⟩
        refine ⟨_, rfl, rfl, _, rfl, ite2 (fun _ => ?_) (fun _ => ?_)⟩
        · refine pick_ok (m := ["each", "names"]) rfl rfl S2 rfl (by decide) fun w0 H3 g3 hw => ?_
          refine pick_ok (m := ["app", "doc", "app/sub"]) rfl rfl (S2.go g3) rfl (by decide) fun x H4 g4 hx => ?_
          have g5 := (g2.trans g3).trans g4
          exact ⟨(by show 2 ≤ sizeLine; decide), fun p hp => k p [w0, x] _ (g5.new hp) (g5.free hp) upd_same (.path (mem_sub (by decide) hw) (mem_sub (by decide) hx))⟩
        refine ⟨_, rfl, rfl, _, rfl, ite2 (fun _ => ?_) (fun _ => ?_)⟩
        · refine pick_ok (m := ["pack", "version"]) rfl rfl S2 rfl (by decide) fun w0 H3 g3 hw => ?_
          refine pick_ok (m := ["util", "core", "net"]) rfl rfl (S2.go g3) rfl (by decide) fun x H4 g4 hx => ?_
          have g5 := (g2.trans g3).trans g4
          exact ⟨(by show 2 ≤ sizeLine; decide), fun p hp => k p [w0, x] _ (g5.new hp) (g5.free hp) upd_same (.pack hw hx)⟩
        refine ⟨_, rfl, rfl, _, rfl, ite2 (fun _ => ?_) (fun _ => ?_)⟩
        · refine pick_ok (m := ["color", "mode", "sizes"]) rfl rfl S2 rfl (by decide) fun x H3 g3 hx => ?_
          have g4 := g2.trans g3
          exact ⟨(by show 2 ≤ sizeLine; decide), fun p hp => k p ["set", x] _ (g4.new hp) (g4.free hp) upd_same (.set hx)⟩
        refine ⟨_, rfl, rfl, _, rfl, ite2 (fun _ => ?_) (fun _ => ?_)⟩
        · refine pick_ok (m := ["a", "run", "zz", "7", "=+="]) rfl rfl S2 rfl (by decide) fun x H3 g3 hx => ?_
          have g4 := g2.trans g3
          exact ⟨(by show 2 ≤ sizeLine; decide), fun p hp => k p ["lit", x] _ (g4.new hp) (g4.free hp) upd_same (.lit (mem_sub (by decide) hx))⟩
        -- if style in [6, 7] and len(targets) > 0
        refine ⟨fun σ' H' => σ' = [some (.ref a), some (.ref b), some (.ref t), some (.int (d : Int)), some (.int st), none, none] ∧ Go b H H', ?_, ?_⟩
        · refine ⟨_, rfl, (by show 2 ≤ sizeLine; decide), fun l2 hl2 => ?_⟩
          have g3 := g2.new (o := .lst [.int 6, .int 7]) hl2
          have t3 := ht.go S.cell g3
          refine ⟨l2, _, rfl, .inl (SqL.of upd_same), rfl, rfl, _, rfl, ?_⟩
          refine ite2 (fun _ => ?_) (fun _ => iteF ⟨rfl, g3⟩)
          refine ⟨_, rfl, t, _, rfl, .inl (SqL.of t3), _, _, rfl, rfl, _, rfl, ?_⟩
          refine ite2 (fun c3 => ?_) (fun _ => ⟨rfl, g3⟩)
          have hp3 : 0 < ts.length := by
            simp at c3
            omega
          refine pick_of rfl rfl (S.go g3) t3 hp3 (fun Q1 q1 => ⟨_, rfl, q1⟩) (fun Q1 q1 => ⟨_, rfl, t, _, rfl, .inl (SqL.of t3), by rw [List.length_map]; exact q1⟩) fun x H4 g4 hx => ?_
          have g5 := g3.trans g4
          exact ⟨(by show 2 ≤ sizeLine; decide), fun p hp => k p ["dep", x] _ (g5.new hp) (g5.free hp) upd_same (.dep hx)⟩
        rintro σ' H3 ⟨rfl, g3⟩
        have S3 := S.go g3
        refine ⟨_, rfl, _, _, rfl, rfl, _, rfl, ite2 (fun _ => ?_) (fun c8 => ?_)⟩
        · refine ⟨_, rfl, _, rfl, a, b, ns, 3, rfl, S3, by decide, fun e H4 g4 _ _ => ?_⟩
          have g5 := g3.trans g4
          refine ⟨rfl, _, rfl, ite2 (fun _ => ?_) (fun _ => ?_)⟩
          · exact ⟨(by show 1 ≤ sizeLine; decide), fun p hp => k p ["line"] _ (g5.new hp) (g5.free hp) upd_same .line⟩
          · exact ⟨(by show 2 ≤ sizeLine; decide), fun p hp => k p ["lit", "k"] _ (g5.new hp) (g5.free hp) upd_same (.lit (by decide))⟩
        have c8' : 9 ≤ st := by
          simp at c8
          omega
        obtain ⟨d', rfl⟩ : ∃ d', d = d' + 1 := ⟨d - 1, by have := h9 c8'; omega⟩
        have hd2 : d' < n := by omega
        refine ⟨_, rfl, rfl, _, rfl, ite2 (fun _ => ?_) (fun c9 => ?_)⟩
        · refine pick_ok (m := ["up", "size", "not"]) rfl rfl S3 rfl (by decide) fun w0 H4 g4 hw => ?_
          have g5 := g3.trans g4
          refine ⟨(by show 1 ≤ sizeLine; decide), fun p hp => ?_⟩
          have g6 := g5.new (o := .lst [.str w0]) hp
          have hP : Strs (upd H4 p (.lst [.str w0])) p [w0] := upd_same
          have S6 := S.go g6
          refine again_ok rfl rfl rfl rfl S6 (ht.go S.cell g6) hz hd2 fun q xs H5 g7 hq hs kx => ?_
          refine ⟨p, q, [.str w0], xs.map V.str, rfl, rfl, hP.go S6.cell g7, hs, ?_, fun r hr0 => ?_⟩
          · have := kx.small
            rw [List.length_map]
            exact small_of (Nat.le_trans (Nat.add_le_add_left this 1) (Nat.le_trans (Nat.add_le_add_left (exB_mono (show d' ≤ 9 by omega)) 1) (by decide)))
          have g8 := (g6.trans g7).new (o := .lst (([V.str w0] ++ xs.map V.str))) hr0
          exact k r (w0 :: xs) _ g8 ((g6.trans g7).free hr0) upd_same (.un hw kx)
        have c10 : 10 ≤ st := by
          simp at c9
          omega
        -- the longer ones
        refine ⟨(by show 6 ≤ sizeLine; decide), fun l3 hl3 => ?_⟩
        have g4 := g3.new (o := .lst ((["cat", "cat", "has", "same", "if", "if"] : List Str).map V.str)) hl3
        obtain ⟨x, hx, e⟩ := strs_at (xs := (["cat", "cat", "has", "same", "if", "if"] : List Str)) (d := st - 10) (by omega) (by show st - 10 < 6; omega)
        refine ⟨_, rfl, _, _, rfl, rfl, l3, _, st - 10, _, rfl, rfl, SqL.of upd_same, e, _, rfl, ?_⟩
        refine ⟨(by show 1 ≤ sizeLine; decide), fun p hp => ?_⟩
        have g5 := g4.new (o := .lst [.str x]) hp
        have hP : Strs (upd (upd H3 l3 (.lst ((["cat", "cat", "has", "same", "if", "if"] : List Str).map V.str))) p (.lst [.str x])) p [x] := upd_same
        have S5 := S.go g5
        have t5 := ht.go S.cell g5
        refine again_ok rfl rfl rfl rfl S5 t5 hz hd2 fun q1 x1 H6 g6 hq1 hs1 k1 => ?_
        have zz : ∀ {y : List Str}, LawEx ts d' y → y.length ≤ 16402 := fun ky => Nat.le_trans ky.small (Nat.le_trans (exB_mono (show d' ≤ 8 by omega)) (by decide))
        have z1 := zz k1
        have g7 := g5.trans g6
        refine cat_ok (S.go g7).cell (hP.go S5.cell g6) hs1 (by simp only [List.length_cons, List.length_nil]; omega) fun r1 H7 g8 hr1 hc1 => ?_
        have g9 := g7.trans g8
        refine again_ok rfl rfl rfl rfl (S.go g9) (ht.go S.cell g9) hz hd2 fun q2 x2 H8 g10 hq2 hs2 k2 => ?_
        have z2 := zz k2
        have g11 := g9.trans g10
        refine cat_ok (S.go g11).cell (hc1.go (S.go g9).cell g10) hs2 (by simp only [List.length_append, List.length_cons, List.length_nil]; omega) fun r2 H9 g12 hr2 hc2 => ?_
        have g13 := g11.trans g12
        refine ⟨_, rfl, rfl, _, rfl, ite2 (fun ci => ?_) (fun ci => ?_)⟩
        · refine ⟨_, rfl, ?_⟩
          refine again_ok rfl rfl rfl rfl (S.go g13) (ht.go S.cell g13) hz hd2 fun q3 x3 H10 g14 hq3 hs3 k3 => ?_
          have z3 := zz k3
          have g15 := g13.trans g14
          refine cat_ok (S.go g15).cell (hc2.go (S.go g13).cell g14) hs3 (by simp only [List.length_append, List.length_cons, List.length_nil]; omega) fun r3 H11 g16 hr3 hc3 => ?_
          refine k r3 _ _ (g15.trans g16) (g15.free hr3) hc3 ?_
          obtain rfl : x = "if" := V.str.inj (of_decide_eq_true ci)
          have := LawEx.tri k1 k2 k3
          simpa using this
        · refine ⟨_, rfl, ?_⟩
          refine k r2 _ _ g13 (g11.free hr2) hc2 ?_
          have hb : x ∈ (["cat", "has", "same"] : List Str) := by
            have ci' : x ≠ "if" := fun e => ci (decide_eq_true (congrArg V.str e))
            simp only [List.mem_cons, List.not_mem_nil, or_false] at hx ⊢
            rcases hx with h | h | h | h | h | h
            · exact .inl h
            · exact .inl h
            · exact .inr (.inl h)
            · exact .inr (.inr h)
            · exact absurd h ci'
            · exact absurd h ci'
          have := LawEx.bin hb k1 k2
          simpa using this
end
end Kl

namespace Kl
open PySem L2 Kd
/-! texts by their signs: a blank, or shown and neither '!' nor '%' -/
def okc (c : Nat) : Bool := c == 32 || (34 ≤ c && c ≤ 126 && c != 37)
structure Sg (m : Nat) (x : Str) : Prop where
  len : x.length ≤ m
  all : ∀ c ∈ x.cps.toList, okc c = true
theorem cps_cat (x y : Str) : (x ++ y).cps.toList = x.cps.toList ++ y.cps.toList := TL.tl_append x y
theorem len_tl (x : Str) : x.cps.toList.length = x.length := by simp [Str.length]
theorem len_cat (x y : Str) : (x ++ y).length = x.length + y.length := by
  rw [← len_tl, cps_cat, List.length_append, len_tl, len_tl]
theorem Sg.cat {m n : Nat} {x y : Str} (a : Sg m x) (b : Sg n y) : Sg (m + n) (x ++ y) := by
  refine ⟨?_, fun c h => ?_⟩
  · have := a.len
    have := b.len
    rw [len_cat]
    omega
  · rw [cps_cat, List.mem_append] at h
    rcases h with h | h
    · exact a.all c h
    · exact b.all c h
theorem Sg.mono {m n : Nat} {x : Str} (a : Sg m x) (h : m ≤ n) : Sg n x := ⟨Nat.le_trans a.len h, a.all⟩
def sgB (m : Nat) (x : Str) : Bool := decide (x.length ≤ m) && x.cps.toList.all okc
theorem sg_of {m : Nat} {x : Str} (h : sgB m x = true) : Sg m x := by
  unfold sgB at h
  rw [Bool.and_eq_true, List.all_eq_true] at h
  exact ⟨of_decide_eq_true h.1, h.2⟩
theorem sg_mem {m : Nat} {x : Str} {l : List Str} (hx : x ∈ l) (h : (l.all (sgB m)) = true) : Sg m x := sg_of (List.all_eq_true.mp h x hx)
theorem num_fact : ∀ k : Nat, k < 20 → sgB 2 (toString (k : Int)) = true := by
  intro k hk
  have : ∀ k : Fin 20, sgB 2 (toString ((k.val : Nat) : Int)) = true := by decide +kernel
  exact this ⟨k, hk⟩
theorem sg_num {k : Nat} (hk : k < 20) : Sg 2 (toString (k : Int)) := sg_of (num_fact k hk)
theorem log_small {k : Nat} (hk : k < 1000) : ((k : Int)).natAbs.log2 < 1920 := by
  show k.log2 < 1920
  have := Nat.log2_le_self k
  omega
/-- joined -/
theorem sg_join {m n : Nat} {y : Str} (hy : Sg n y) : ∀ {xs : List Str}, (∀ x ∈ xs, Sg m x) → Sg (xs.length * (m + n)) (Str.join y xs)
  | [], _ => ⟨Nat.zero_le _, fun c h => by simp [Str.join, Str.empty] at h⟩
  | [x], h => (h x (List.mem_singleton.mpr rfl)).mono (by simp)
  | x :: z :: r, h => by
    have ih := sg_join hy (xs := z :: r) fun w hw => h w (List.mem_cons_of_mem _ hw)
    refine (((h x (List.mem_cons_self ..)).cat hy).cat ih).mono ?_
    simp only [List.length_cons, Nat.add_mul, Nat.one_mul]
    omega
theorem sum_lens {m : Nat} : ∀ {xs : List Str}, (∀ x ∈ xs, x.length ≤ m) → (xs.map (·.length)).sum ≤ xs.length * m
  | [], _ => Nat.zero_le _
  | x :: r, h => by
    have ih := sum_lens (xs := r) fun w hw => h w (List.mem_cons_of_mem _ hw)
    have := h x (List.mem_cons_self ..)
    simp only [List.map_cons, List.sum_cons, List.length_cons, Nat.add_mul, Nat.one_mul]
    omega
theorem LawEx.words {ts : List Str} {n : Nat} {e : List Str} (h : LawEx ts n e) (ht : ∀ t ∈ ts, Sg 12 t) : ∀ x ∈ e, Sg 12 x := by
  have two : ∀ {l k : List Str} {w x : Str}, w ∈ l → x ∈ k → (l.all (sgB 12)) = true → (k.all (sgB 12)) = true → ∀ z ∈ ([w, x] : List Str), Sg 12 z := fun hw hx a b z hz => by
    simp only [List.mem_cons, List.not_mem_nil, or_false] at hz
    rcases hz with rfl | rfl
    · exact sg_mem hw a
    · exact sg_mem hx b
  have one : ∀ {w : Str} {k : List Str} {x : Str}, x ∈ k → sgB 12 w = true → (k.all (sgB 12)) = true → ∀ z ∈ ([w, x] : List Str), Sg 12 z := fun {w k x} hx a b => two (l := [w]) (List.mem_singleton.mpr rfl) hx (by simpa using a) b
  induction h with
  | path h k => exact two h k (by decide +kernel) (by decide +kernel)
  | pack h k => exact two h k (by decide +kernel) (by decide +kernel)
  | set k => exact one k (by decide +kernel) (by decide +kernel)
  | lit k => exact one k (by decide +kernel) (by decide +kernel)
  | dep k => 
    intro z hz
    simp only [List.mem_cons, List.not_mem_nil, or_false] at hz
    rcases hz with rfl | rfl
    · exact sg_of (by decide +kernel)
    · exact ht _ k
  | line => 
    intro z hz
    simp only [List.mem_cons, List.not_mem_nil, or_false] at hz
    subst hz
    exact sg_of (by decide +kernel)
  | un h k ih => 
    intro z hz
    rcases List.mem_cons.mp hz with rfl | hz
    · exact sg_mem h (by decide +kernel)
    · exact ih z hz
  | bin h k l i1 i2 =>
    intro z hz
    rcases List.mem_cons.mp hz with rfl | hz
    · exact sg_mem h (by decide +kernel)
    · rcases List.mem_append.mp hz with hz | hz
      · exact i1 z hz
      · exact i2 z hz
  | tri k l m i1 i2 i3 =>
    intro z hz
    rcases List.mem_cons.mp hz with rfl | hz
    · exact sg_of (by decide +kernel)
    · rcases List.mem_append.mp hz with hz | hz
      · rcases List.mem_append.mp hz with hz | hz
        · exact i1 z hz
        · exact i2 z hz
      · exact i3 z hz
/-- an expression of depth 2, its words joined by blanks -/
theorem LawEx.about {ts : List Str} {e : List Str} (h : LawEx ts 2 e) (ht : ∀ t ∈ ts, Sg 12 t) : Sg 286 (Txt.join " " e) ∧ (e.map (·.length)).sum + e.length * (" " : Str).length ≤ 16777216 := by
  have hs := h.small
  have hw := h.words ht
  have hl : e.length ≤ 22 := Nat.le_trans hs (by decide)
  refine ⟨?_, ?_⟩
  · rw [TL.join_eq]
    refine (sg_join (n := 1) (sg_of (by decide +kernel)) hw).mono ?_
    exact Nat.le_trans (Nat.mul_le_mul_right _ hl) (by decide)
  · have a := sum_lens (m := 12) fun x hx => (hw x hx).len
    have b : (" " : Str).length = 1 := by decide +kernel
    rw [b]
    omega
/-- a list of rows at p, made since H0 -/
structure RowsAt (b : Addr) (H0 : Hp) (m n : Nat) (p : Addr) (xs : List Str) (H : Hp) : Prop where
  go : Go b H0 H
  new : H0 p = none
  at_ : Strs H p xs
  few : xs.length ≤ n
  sg : ∀ x ∈ xs, Sg m x
theorem RowsAt.step {b : Addr} {H0 H H' : Hp} {m n : Nat} {p : Addr} {xs : List Str} (r : RowsAt b H0 m n p xs H) (g : Go b H H') : RowsAt b H0 m n p xs H' :=
  ⟨r.go.trans g, r.new, r.at_.go r.go.cell g, r.few, r.sg⟩
theorem RowsAt.ne {b : Addr} {H0 H : Hp} {m n : Nat} {p : Addr} {xs : List Str} (r : RowsAt b H0 m n p xs H) : b ≠ p := fun z => r.at_.ne r.go.cell z.symm
theorem RowsAt.app {b : Addr} {H0 H : Hp} {m n : Nat} {p : Addr} {xs : List Str} {x : Str} (r : RowsAt b H0 m n p xs H) (hx : Sg m x) : RowsAt b H0 m (n + 1) p (xs ++ [x]) (upd H p (.lst (xs.map V.str ++ [V.str x]))) :=
  ⟨r.go.mut r.new r.ne, r.new, by unfold Strs; rw [upd_same, List.map_append]; rfl, by have := r.few; rw [List.length_append]; simp only [List.length_cons, List.length_nil]; omega, fun y hy => by
    rcases List.mem_append.mp hy with h | h
    · exact r.sg y h
    · rw [List.mem_singleton.mp h]
      exact hx⟩
theorem RowsAt.mono {b : Addr} {H0 H : Hp} {m n k : Nat} {p : Addr} {xs : List Str} (r : RowsAt b H0 m n p xs H) (h : n ≤ k) : RowsAt b H0 m k p xs H := ⟨r.go, r.new, r.at_, Nat.le_trans r.few h, r.sg⟩
theorem RowsAt.nil {b : Addr} {H : Hp} {m n : Nat} {p : Addr} (c : ∃ i : Int, 0 ≤ i ∧ H b = some (.lst [.int i])) (h : H p = none) : RowsAt b H m n p [] (upd H p (.lst [])) :=
  ⟨(Go.refl c).new h, h, upd_same, Nat.zero_le _, fun _ h => nomatch h⟩
theorem RowsAt.side {b : Addr} {H0 H : Hp} {m n : Nat} {p q : Addr} {xs : List Str} {o : HO} (r : RowsAt b H0 m n p xs H) (hq : H0 q = none) (ne : p ≠ q) (nb : b ≠ q) : RowsAt b H0 m n p xs (upd H q o) :=
  ⟨r.go.mut hq nb, r.new, by unfold Strs; rw [upd_ne ne]; exact r.at_, r.few, r.sg⟩
theorem RowsAt.room {b : Addr} {H0 H : Hp} {m n : Nat} {p : Addr} {xs : List Str} (r : RowsAt b H0 m n p xs H) (hn : n ≤ 10000 := by omega) : (xs.map V.str).length < sizeLine := by
  rw [List.length_map]
  exact small_lt (by have := r.few; omega)
theorem RowsAt.join {b : Addr} {H0 H : Hp} {m n k : Nat} {p : Addr} {xs : List Str} {y : Str} (r : RowsAt b H0 m n p xs H) (hy : Sg k y) (hz : n * (m + k) ≤ 100000) : (xs.map (·.length)).sum + xs.length * y.length ≤ 16777216 ∧ Sg (n * (m + k)) (Txt.join y xs) := by
  have h1 := sum_lens (m := m) fun x hx => (r.sg x hx).len
  have h2 : xs.length * y.length ≤ xs.length * k := Nat.mul_le_mul_left _ hy.len
  have h3 : xs.length * m + xs.length * k ≤ n * (m + k) := by
    rw [← Nat.mul_add]
    exact Nat.mul_le_mul_right _ r.few
  refine ⟨by omega, ?_⟩
  rw [TL.join_eq]
  exact (sg_join hy r.sg).mono (Nat.mul_le_mul_right _ r.few)
theorem strs_new {b l : Addr} {m : List Str} {H H' : Hp} (c : ∃ i : Int, 0 ≤ i ∧ H b = some (.lst [.int i])) (h : H l = none) (g : Go b (upd H l (.lst (m.map V.str))) H') : Strs H' l m :=
  Strs.go (H := upd H l (.lst (m.map V.str))) upd_same ((Go.refl c).new h).cell g
theorem RowsAt.cat {b : Addr} {H0 H : Hp} {m n k : Nat} {p r : Addr} {xs ys : List Str} (t : RowsAt b H0 m n p xs H) (hl : ys.length ≤ k) (hs : ∀ y ∈ ys, Sg m y) (hr : H r = none) : RowsAt b H0 m (n + k) r (xs ++ ys) (upd H r (.lst (xs.map V.str ++ ys.map V.str))) :=
  ⟨t.go.new hr, t.go.free hr, by unfold Strs; rw [upd_same, List.map_append], by have := t.few; rw [List.length_append]; omega, fun y hy => by
    rcases List.mem_append.mp hy with h | h
    · exact t.sg y h
    · exact hs y h⟩
theorem RowsAt.cat_sz {b : Addr} {H0 H : Hp} {m n k : Nat} {p : Addr} {xs ys : List Str} (t : RowsAt b H0 m n p xs H) (hl : ys.length ≤ k) (h : n + k ≤ 10000 := by omega) : (xs.map V.str).length + (ys.map V.str).length ≤ sizeLine := by
  rw [List.length_map, List.length_map]
  exact small_of (by have := t.few; omega)
end Kl

namespace Kl
open PySem L2 Kd
/-- rows made -/
def spRows (K : PySem.W.Frag) (m n : Nat) : Sp := fun vs H Q _ => ∃ (a b : Addr) (ns : List Int), vs = [.ref a, .ref b] ∧ Sp0 K a b ns H ∧ ∀ (p : Addr) (xs : List Str) (H' : Hp), RowsAt b H m n p xs H' → Q (.ref p) H'
def spRules (K : PySem.W.Frag) : Sp := fun vs H Q _ => ∃ (a b : Addr) (ns : List Int) (k : Nat), vs = [.ref a, .ref b, .int (k : Int)] ∧ Sp0 K a b ns H ∧ k ≤ 5 ∧ ∀ (p : Addr) (xs : List Str) (H' : Hp), RowsAt b H 400 8 p xs H' → Q (.ref p) H'
theorem Sg.sz {m n : Nat} {x y : Str} (a : Sg m x) (b : Sg n y) (h : m + n ≤ 100000 := by decide) : x.length + y.length ≤ sizeLine := small_of (by
  have := a.len
  have := b.len
  omega)
abbrev rJn (K : PySem.W.Frag) : V → List V → Hp → VK → Prop := fun x xs H Q => ∃ a p, ∃ ys : List Str, x = .str a ∧ xs = [.ref p] ∧ (SqL K H p (ys.map V.str) ∨ SqT K H p (ys.map V.str)) ∧ (ys.map (·.length)).sum + ys.length * a.length ≤ 16777216 ∧ Q (.str (Txt.join a ys)) H
theorem about_ok {K : PySem.W.Frag} {a b t : Addr} {ns : List Int} {ts : List Str} {i : Nat} {σ : L2.St} {H : Hp} {Q : VK} (h0 : σ[0]? = some (some (.ref a))) (h1 : σ[1]? = some (some (.ref b))) (hi : σ[i]? = some (some (.ref t))) (S : Sp0 K a b ns H) (ht : Strs H t ts) (hz : ts.length ≤ 1000) (tg : ∀ x ∈ ts, Sg 12 x)
    (q : ∀ (x : Str) (H' : Hp), Go b H H' → Sg 286 x → Q (.str x) H') : tM1 (rJn K) (tC (.str " ")) (tCall (spEx K 3) [] C8.E0 (tCons (tVar 0) (tCons (tVar 1) (tCons (tVar i) (tCons (tC (.int 2)) tNil))))) σ H Q := by
  refine ⟨⟨_, rfl⟩, _, h0, _, h1, _, hi, a, b, t, ns, ts, 2, rfl, S, ht, hz, by decide, fun p xs H' g _ hs e => ?_⟩
  obtain ⟨h2, h3⟩ := e.about tg
  exact ⟨_, p, xs, rfl, rfl, .inl (SqL.of hs), h3, q _ H' g h2⟩
theorem exc_ok {K : PySem.W.Frag} {a b t : Addr} {ns : List Int} {ts : List Str} {i : Nat} {σ : L2.St} {H : Hp} {Q : VK} (h0 : σ[0]? = some (some (.ref a))) (h1 : σ[1]? = some (some (.ref b))) (hi : σ[i]? = some (some (.ref t))) (S : Sp0 K a b ns H) (ht : Strs H t ts) (hz : ts.length ≤ 1000)
    (q : ∀ (p : Addr) (xs : List Str) (H' : Hp), Go b H H' → Strs H' p xs → LawEx ts 2 xs → Q (.ref p) H') : tCall (spEx K 3) [] C8.E0 (tCons (tVar 0) (tCons (tVar 1) (tCons (tVar i) (tCons (tC (.int 2)) tNil)))) σ H Q :=
  ⟨_, h0, _, h1, _, hi, a, b, t, ns, ts, 2, rfl, S, ht, hz, by decide, fun p xs H' g _ hs e => q p xs H' g hs e⟩
section
variable {P : Program} {w : World} {K : PySem.W.Frag} {mg : Str → Option Value} {base : Heap}
abbrev s_l_rule_rows : Stmt := topS 37
theorem sc_l_rule_rows : FnScope ["row", "spot", "many", "targets", "rows", "k", "name", "about", "kind", "forms"] ["row", "spot", "many"] (defScope s_l_rule_rows) := ⟨rfl, rfl, rfl, by decide +kernel, rfl, by decide +kernel, by decide +kernel⟩
theorem ok_rule_rows {f : Addr} {fd : FuncData} (F : Fun K "_law_rule_rows" "_law_rule_rows" s_l_rule_rows f fd) (T : Glo mg) (c_l_take : C8.Cal P w K mg base 2 "_law_take" (spTk K) []) (c_l_expression : C8.Cal P w K mg base 6 "_law_expression" (spEx K 3) []) :
    FnOk P w K mg base CX0 7 f fd ["row", "spot", "many"] (spRules K) := by
  refine F.ok sc_l_rule_rows (fun vs H Q E h => ?_) (fun cdv A outer s H vs Q E hr h => ?_)
  · obtain ⟨a, b, ns, k, rfl, _⟩ := h
    rfl
  · obtain ⟨a, b, ns, many, rfl, S, hm, kk⟩ := h
    refine ⟨_, (pss_cons (ps_set (i := 3) sc_l_rule_rows.nd rfl (.inl rfl) (pe_lst pa_nil))
      (pss_cons (ps_set (i := 4) sc_l_rule_rows.nd rfl (.inl rfl) (pe_lst pa_nil))
      (pss_cons (ps_for PassesOwn.never rfl (pi_range1 (by rfl) T.range (pa_cons (pv 2) pa_nil)) (pg_name (i := 5) sc_l_rule_rows.nd rfl (.inl rfl))
      (pss_cons (ps_set (i := 6) sc_l_rule_rows.nd rfl (.inl rfl) (pe_op op_add_str pe_str (pe_callTy call_str_int (by rfl) T.str (by decide +kernel) (pa_cons (pv 5) pa_nil))))
        (pss_cons (ps_expr (pe_bm PySem.F.plainAttrs_list PySem.F.slot_list_append PySem.F.type_list_append mt_append (pv 4) (pa_cons (pe_op op_add_str (pe_op op_add_str (pe_op op_add_str pe_str (pv 6)) pe_str) (pe_join pe_str (C8.pe_c c_l_expression hr (by omega) (by rfl) (pa_cons (pv 0) (pa_cons (pv 1) (pa_cons (pv 3) (pa_cons pe_int pa_nil))))))) pa_nil)))
        (pss_one (ps_expr (pe_bm PySem.F.plainAttrs_list PySem.F.slot_list_append PySem.F.type_list_append mt_append (pv 3) (pa_cons (pv 6) pa_nil)))))))
      (pss_cons (ps_for PassesOwn.never rfl (pi_range1 (by rfl) T.range (pa_cons (C8.pe_c c_l_take hr (by omega) (by rfl) (pa_cons (pv 0) (pa_cons (pv 1) (pa_cons pe_int pa_nil)))) pa_nil)) (pg_name (i := 5) sc_l_rule_rows.nd rfl (.inl rfl))
      (pss_cons (ps_set (i := 7) sc_l_rule_rows.nd rfl (.inl rfl) (pe_join pe_str (C8.pe_c c_l_expression hr (by omega) (by rfl) (pa_cons (pv 0) (pa_cons (pv 1) (pa_cons (pv 3) (pa_cons pe_int pa_nil)))))))
        (pss_cons (ps_set (i := 8) sc_l_rule_rows.nd rfl (.inl rfl) (C8.pe_c c_l_take hr (by omega) (by rfl) (pa_cons (pv 0) (pa_cons (pv 1) (pa_cons pe_int pa_nil)))))
        (pss_cons (ps_set (i := 9) sc_l_rule_rows.nd rfl (.inl rfl) (pe_lst (pa_cons (pe_op op_add_str (pe_op op_add_str pe_str (pv 7)) pe_str) (pa_cons (pe_op op_add_str (pe_op op_add_str pe_str (pv 7)) pe_str) (pa_cons (pe_op op_add_str (pe_op op_add_str pe_str (pv 7)) pe_str) pa_nil)))))
        (pss_one (ps_expr (pe_bm PySem.F.plainAttrs_list PySem.F.slot_list_append PySem.F.type_list_append mt_append (pv 4) (pa_cons (pe_op op_add_str (pe_op op_add_str pe_str (pe_callTy call_str_int (by rfl) T.str (by decide +kernel) (pa_cons (pv 5) pa_nil))) (pe_ix ix_list (pv 9) (pe_callB (call_max2 rfl) (by rfl) T.max (by decide +kernel) (pa_cons pe_int (pa_cons (pe_op op_sub (pv 8) pe_int) pa_nil))) (fun _ _ => rfl))) pa_nil))))))))
      (pss_one (ps_ret (pv 4))))))), ?_⟩
    refine ⟨(by show 0 ≤ sizeLine; decide), fun t ht => ⟨(by show 0 ≤ sizeLine; decide), fun p hp => ?_⟩⟩
    have rt : RowsAt b H 12 0 t [] (upd H t (.lst [])) := RowsAt.nil S.cell ht
    have hpt : p ≠ t := fun z => by
      rw [z, upd_same] at hp
      cases hp
    have hp0 : H p = none := by rw [upd_ne hpt] at hp; exact hp
    have rt1 := rt.step (rt.go.cell |> fun c => (Go.refl c).new (o := .lst []) hp)
    have rp : RowsAt b H 400 0 p [] (upd (upd H t (.lst [])) p (.lst [])) := ⟨rt1.go, hp0, upd_same, Nat.zero_le _, fun _ h => nomatch h⟩
    refine ⟨_, rfl, many, rfl, ?_, ?_, for_range (n := many) (fun j σ H1 => ∃ (ts xs : List Str) (k6 k7 : Option V), σ = [some (.ref a), some (.ref b), some (.int (many : Int)), some (.ref t), some (.ref p), k6, k7, none, none, none] ∧ RowsAt b H 12 j t ts H1 ∧ RowsAt b H 400 j p xs H1)
      ⟨[], [], none, none, rfl, rt1, rp⟩ ?_ ?_⟩
    · exact Int.le_trans (by decide) (Int.natCast_nonneg many)
    · exact Int.lt_of_le_of_lt (show (many : Int) ≤ 5 by omega) (by decide)
    · rintro j σ H1 hj ⟨ts, xs, k6, k7, rfl, r1, r2⟩
      have S1 := S.go r1.go
      have nm : Sg 3 ("t" ++ toString ((0 : Int) + (j : Int))) := by
        rw [Int.zero_add]
        exact (sg_of (m := 1) (by decide +kernel)).cat (sg_num (by omega))
      refine ⟨_, rfl, _, rfl, ?_, _, _, rfl, rfl, small_of (by have := nm.len; rw [len_cat] at this; omega), ?_⟩
      · rw [Int.zero_add]
        exact log_small (by omega)
      refine ⟨_, rfl, .inl ⟨rfl, _, SqL.of r2.at_⟩, ?_⟩
      refine ⟨_, rfl, _, _, rfl, rfl, (sg_of (m := 7) (by decide +kernel)).sz nm, _, _, rfl, rfl, ((sg_of (m := 7) (by decide +kernel)).cat nm).sz (sg_of (m := 3) (by decide +kernel)), ?_⟩
      have h1 := ((sg_of (m := 7) (x := "target ") (by decide +kernel)).cat nm).cat (sg_of (m := 3) (x := " = ") (by decide +kernel))
      refine about_ok (i := 3) rfl rfl rfl S1 r1.at_ (by have := r1.few; omega) r1.sg fun ab H2 g2 hab => ?_
      have r1' := r1.step g2
      have r2' := r2.step g2
      refine ⟨_, _, rfl, rfl, h1.sz hab, p, _, _, rfl, rfl, r2'.at_, r2'.room, ?_⟩
      have r3 := fun o => r1'.side (o := o) r2'.new (Ne.symm hpt) r2'.ne
      refine ⟨_, rfl, .inl ⟨rfl, _, SqL.of (r3 _).at_⟩, _, rfl, t, _, _, rfl, rfl, (r3 _).at_, r1'.room, ?_⟩
      exact ⟨_, _, _, _, rfl, (r3 _).app (nm.mono (by decide)), (r2'.app ((h1.cat hab).mono (by decide))).side r1'.new hpt r1'.ne⟩
    · rintro σ H1 ⟨ts, xs, k6, k7, rfl, r1, r2⟩
      have S1 := S.go r1.go
      refine ⟨_, rfl, _, rfl, a, b, ns, 4, rfl, S1, by decide, fun d H2 g2 h0 h1 => ?_⟩
      obtain ⟨d, rfl⟩ := Int.eq_ofNat_of_zero_le h0
      have hd : d < 4 := by omega
      refine ⟨d, rfl, ?_, ?_, for_range (n := d) (fun j σ H1 => ∃ (xs : List Str) (k6 k7 k8 k9 k10 : Option V), σ = [some (.ref a), some (.ref b), some (.int (many : Int)), some (.ref t), some (.ref p), k6, k7, k8, k9, k10] ∧ RowsAt b H 12 many t ts H1 ∧ RowsAt b H 400 (many + j) p xs H1)
        ⟨xs, _, _, _, _, _, rfl, r1.step g2, r2.step g2⟩ ?_ ?_⟩
      · exact Int.le_trans (by decide) (Int.natCast_nonneg d)
      · exact Int.lt_of_le_of_lt (show (d : Int) ≤ 4 by omega) (by decide)
      · rintro j σ H3 hj ⟨xs, k6, k7, k8, k9, k10, rfl, r1, r2⟩
        have S3 := S.go r1.go
        refine ⟨⟨_, rfl⟩, ?_⟩
        refine exc_ok (i := 3) rfl rfl rfl S3 r1.at_ (by have := r1.few; omega) fun q es H4 g4 hs he => ?_
        obtain ⟨hab, hsum⟩ := he.about r1.sg
        refine ⟨_, q, es, rfl, rfl, .inl (SqL.of hs), hsum, ?_⟩
        generalize Txt.join " " es = ab at hab ⊢
        have S4 := S3.go g4
        refine ⟨_, rfl, _, rfl, a, b, ns, 5, rfl, S4, by decide, fun kd H5 g5 k0 k1 => ?_⟩
        have r3 := (r1.step g4).step g5
        have r4 := (r2.step g4).step g5
        have a1 := hab
        have f1 := ((sg_of (m := 20) (x := " = not has ") (by decide +kernel)).cat hab).cat (sg_of (m := 8) (x := " lit zzz") (by decide +kernel))
        have f2 := ((sg_of (m := 20) (x := " = not same size ") (by decide +kernel)).cat hab).cat (sg_of (m := 6) (x := " lit 5") (by decide +kernel))
        have f3 := ((sg_of (m := 32) (x := " = if set mode lit ok not has ") (by decide +kernel)).cat hab).cat (sg_of (m := 6) (x := " lit Q") (by decide +kernel))
        refine ⟨_, rfl, _, _, rfl, rfl, (sg_of (m := 20) (by decide +kernel)).sz hab, _, _, rfl, rfl, ((sg_of (m := 20) (by decide +kernel)).cat hab).sz (sg_of (m := 8) (by decide +kernel)), ?_⟩
        refine ⟨_, rfl, _, _, rfl, rfl, (sg_of (m := 20) (by decide +kernel)).sz hab, _, _, rfl, rfl, ((sg_of (m := 20) (by decide +kernel)).cat hab).sz (sg_of (m := 6) (by decide +kernel)), ?_⟩
        refine ⟨_, rfl, _, _, rfl, rfl, (sg_of (m := 32) (by decide +kernel)).sz hab, _, _, rfl, rfl, ((sg_of (m := 32) (by decide +kernel)).cat hab).sz (sg_of (m := 6) (by decide +kernel)), ?_⟩
        refine ⟨(by show 3 ≤ sizeLine; decide), fun l hl => ?_⟩
        have r5 := fun o => r4.step (r4.go.cell |> fun c => (Go.refl c).new (o := o) hl)
        have n1 : Sg 8 ("test c" ++ toString ((0 : Int) + (j : Int))) := by
          rw [Int.zero_add]
          exact (sg_of (m := 6) (by decide +kernel)).cat (sg_num (by omega))
        refine ⟨_, rfl, .inl ⟨rfl, _, SqL.of (r5 _).at_⟩, _, rfl, _, rfl, ?_, _, _, rfl, rfl, small_of (by have := n1.len; rw [len_cat] at this; omega), ?_⟩
        · rw [Int.zero_add]
          exact log_small (by omega)
        refine ⟨_, rfl, _, rfl, _, _, rfl, rfl, _, _, rfl, ?_⟩
        have hix : ∃ x : Str, Sg 332 x ∧ atI [V.str (" = not has " ++ ab ++ " lit zzz"), V.str (" = not same size " ++ ab ++ " lit 5"), V.str (" = if set mode lit ok not has " ++ ab ++ " lit Q")] (if kd - 2 > 0 then kd - 2 else 0) = some (V.str x) := by
          rcases (show kd ≤ 2 ∨ kd = 3 ∨ kd = 4 by omega) with e | e | e
          · rw [if_neg (by omega)]
            exact ⟨_, f1.mono (by decide), rfl⟩
          · subst e
            exact ⟨_, f2.mono (by decide), rfl⟩
          · subst e
            exact ⟨_, f3.mono (by decide), rfl⟩
        obtain ⟨x, hx, ex⟩ := hix
        refine ⟨l, _, _, _, rfl, rfl, SqL.of upd_same, ex, _, _, rfl, rfl, n1.sz hx, p, _, _, rfl, rfl, (r5 _).at_, r4.room, ?_⟩
        exact ⟨_, _, _, _, _, _, rfl, (r3.step ((Go.refl r3.go.cell).new hl)).side r4.new (Ne.symm hpt) r4.ne, (r5 _).app ((n1.cat hx).mono (by decide))⟩
      · rintro σ H3 ⟨xs, k6, k7, k8, k9, k10, rfl, r1, r2⟩
        exact ⟨_, rfl, kk p xs H3 (r2.mono (by omega))⟩
end
end Kl

namespace Kl
open PySem L2 Kd
section
variable {P : Program} {w : World} {K : PySem.W.Frag} {mg : Str → Option Value} {base : Heap}
abbrev s_l_setting_rows : Stmt := topS 38
theorem sc_l_setting_rows : FnScope ["row", "spot", "rows", "k", "style", "key", "j"] ["row", "spot"] (defScope s_l_setting_rows) := ⟨rfl, rfl, rfl, by decide +kernel, rfl, by decide +kernel, by decide +kernel⟩
theorem rng_ok {n : Nat} (h : n < 1000) : -2 ^ 62 ≤ (n : Int) ∧ (n : Int) < 2 ^ 62 := ⟨Int.le_trans (by decide) (Int.natCast_nonneg n), Int.lt_of_lt_of_le (show (n : Int) < 1000 by omega) (by decide)⟩
theorem rng_of {i : Int} (h0 : 0 ≤ i) (h : i < 1000) : -2 ^ 62 ≤ i ∧ i < 2 ^ 62 := ⟨Int.le_trans (by decide) h0, Int.lt_of_lt_of_le h (by decide)⟩
theorem ok_setting_rows {f : Addr} {fd : FuncData} (F : Fun K "_law_setting_rows" "_law_setting_rows" s_l_setting_rows f fd) (T : Glo mg) (c_l_take : C8.Cal P w K mg base 2 "_law_take" (spTk K) []) :
    FnOk P w K mg base CX0 3 f fd ["row", "spot"] (spRows K 20 25) := by
  refine F.ok sc_l_setting_rows (fun vs H Q E h => ?_) (fun cdv A outer s H vs Q E hr h => ?_)
  · obtain ⟨a, b, ns, rfl, _⟩ := h
    rfl
  · obtain ⟨a, b, ns, rfl, S, kk⟩ := h
    refine ⟨_, (pss_cons (ps_set (i := 2) sc_l_setting_rows.nd rfl (.inl rfl) (pe_lst pa_nil))
      (pss_cons (ps_for PassesOwn.never rfl (pi_range1 (by rfl) T.range (pa_cons (C8.pe_c c_l_take hr (by omega) (by rfl) (pa_cons (pv 0) (pa_cons (pv 1) (pa_cons pe_int pa_nil)))) pa_nil)) (pg_name (i := 3) sc_l_setting_rows.nd rfl (.inr rfl))
      (pss_cons (ps_set (i := 4) sc_l_setting_rows.nd rfl (.inl rfl) (C8.pe_c c_l_take hr (by omega) (by rfl) (pa_cons (pv 0) (pa_cons (pv 1) (pa_cons pe_int pa_nil)))))
        (pss_cons (ps_set (i := 5) sc_l_setting_rows.nd rfl (.inr rfl) (pe_ix ix_list (pe_lst (pa_strs rfl)) (C8.pe_c c_l_take hr (by omega) (by rfl) (pa_cons (pv 0) (pa_cons (pv 1) (pa_cons pe_int pa_nil)))) (fun _ _ => rfl)))
        (pss_one (ps_if (pt_cmpR op_lt (pv 4) pe_int (nomark _))
        (pss_one (ps_expr (pe_bm PySem.F.plainAttrs_list PySem.F.slot_list_append PySem.F.type_list_append mt_append (pv 2) (pa_cons (pe_op op_add_str (pe_op op_add_str (pv 5) pe_str) (pe_join pe_str (pe_lc (own := [("j", 6)]) (g := gName 6) (tt := tYes) rfl sc_l_setting_rows.nd (pi_range1 (by rfl) T.range (pa_cons (pe_op op_add pe_int (C8.pe_c c_l_take hr (by omega) (by rfl) (pa_cons (pv 0) (pa_cons (pv 1) (pa_cons pe_int pa_nil))))) pa_nil)) (blkOk_by (N := ["row", "spot", "rows", "k", "style", "key", "j"]) (sc := defScope s_l_setting_rows) (by decide +kernel)) (fun _ _ _ _ _ => (pg_name (i := 6) sc_l_setting_rows.nd rfl (.inl rfl))) (fun _ _ _ _ _ => pts_nil) (fun _ _ _ _ _ => (pe_ix (r := rIxL K) ix_list (pe_lst (pa_strs rfl)) (C8.pe_c c_l_take hr (by omega) (by rfl) (pa_cons (pv 0) (pa_cons (pv 1) (pa_cons pe_int pa_nil)))) (fun _ _ => rfl)))))) pa_nil))))
        (pss_one (ps_if (pt_cmpR op_eq (pv 4) pe_int (nomark _))
          (pss_one (ps_expr (pe_bm PySem.F.plainAttrs_list PySem.F.slot_list_append PySem.F.type_list_append mt_append (pv 2) (pa_cons (pe_op op_add_str (pe_op op_add_str (pv 5) pe_str) (pe_ix ix_list (pe_lst (pa_strs rfl)) (C8.pe_c c_l_take hr (by omega) (by rfl) (pa_cons (pv 0) (pa_cons (pv 1) (pa_cons pe_int pa_nil)))) (fun _ _ => rfl))) pa_nil))))
          (pss_one (ps_if (pt_cmpR op_eq (pv 4) pe_int (nomark _))
            (pss_one (ps_expr (pe_bm PySem.F.plainAttrs_list PySem.F.slot_list_append PySem.F.type_list_append mt_append (pv 2) (pa_cons (pe_op op_add_str pe_str (pv 5)) pa_nil))))
            (pss_cons (ps_expr (pe_bm PySem.F.plainAttrs_list PySem.F.slot_list_append PySem.F.type_list_append mt_append (pv 2) (pa_cons (pe_op op_add_str pe_str (pe_ix ix_list (pe_lst (pa_strs rfl)) (C8.pe_c c_l_take hr (by omega) (by rfl) (pa_cons (pv 0) (pa_cons (pv 1) (pa_cons pe_int pa_nil)))) (fun _ _ => rfl))) pa_nil)))
              (pss_one (ps_set (i := 2) sc_l_setting_rows.nd rfl (.inl rfl) (pe_op op_cat (pe_op op_cat (pv 2) (pe_lc (own := [("j", 6)]) (g := gName 6) (tt := tYes) rfl sc_l_setting_rows.nd (pi_range1 (by rfl) T.range (pa_cons (C8.pe_c c_l_take hr (by omega) (by rfl) (pa_cons (pv 0) (pa_cons (pv 1) (pa_cons pe_int pa_nil)))) pa_nil)) (blkOk_by (N := ["row", "spot", "rows", "k", "style", "key", "j"]) (sc := defScope s_l_setting_rows) (by decide +kernel)) (fun _ _ _ _ _ => (pg_name (i := 6) sc_l_setting_rows.nd rfl (.inl rfl))) (fun _ _ _ _ _ => pts_nil) (fun _ _ _ _ _ => (pe_ix (r := rIxL K) ix_list (pe_lst (pa_cons (pe_op op_add_str (pe_op op_add_str (pv 5) pe_str) (pe_callTy call_str_int (by rfl) T.str (by decide +kernel) (pa_cons (pv 3) pa_nil))) (pa_cons (pe_op op_add_str (pv 5) pe_str) (pa_cons (pe_op op_add_str pe_str (pv 5)) (pa_cons pe_str (pa_cons pe_str pa_nil)))))) (C8.pe_c c_l_take hr (by omega) (by rfl) (pa_cons (pv 0) (pa_cons (pv 1) (pa_cons pe_int pa_nil)))) (fun _ _ => rfl))))) (pe_lst (pa_strs rfl)))))))))))))))
      (pss_one (ps_ret (pv 2))))), ?_⟩
    refine ⟨(by show 0 ≤ sizeLine; decide), fun p hp => ?_⟩
    have rp : RowsAt b H 20 0 p [] (upd H p (.lst [])) := RowsAt.nil S.cell hp
    refine ⟨_, rfl, _, rfl, a, b, ns, 6, rfl, S.go rp.go, by decide, fun d H2 g2 h0 h1 => ?_⟩
    obtain ⟨d, rfl⟩ := Int.eq_ofNat_of_zero_le h0
    refine ⟨d, rfl, (rng_ok (by omega)).1, (rng_ok (by omega)).2, for_range (n := d) (fun j σ H1 => ∃ (p : Addr) (xs : List Str) (k3 k4 k5 : Option V), σ = [some (.ref a), some (.ref b), some (.ref p), k3, k4, k5, none] ∧ RowsAt b H 20 (5 * j) p xs H1)
        ⟨p, [], _, _, _, rfl, rp.step g2⟩ ?_ ?_⟩
    · rintro j σ H3 hj ⟨p, xs, k3, k4, k5, rfl, r⟩
      refine ⟨_, rfl, _, rfl, a, b, ns, 7, rfl, S.go r.go, by decide, fun st H4 g4 s0 s1 => ?_⟩
      have r := r.step g4
      refine ⟨(by show 7 ≤ sizeLine; decide), fun l hl => ⟨_, rfl, _, rfl, a, b, ns, 7, rfl, S.go (r.go.new hl), by decide, fun ki H5 g5 k0 k1 => ?_⟩⟩
      obtain ⟨key, hk, ek⟩ := strs_at (xs := (["color", "mode", "sizes", "other", "when", "end", "drop"] : List Str)) k0 k1
      refine ⟨l, _, ki, _, rfl, rfl, SqL.of (strs_new r.go.cell hl g5), ek, ?_⟩
      have r : RowsAt b H 20 (5 * j) p xs H5 := (r.step ((Go.refl r.go.cell).new hl)).step g5
      have hk : Sg 5 key := sg_mem hk (by decide +kernel)
      have done : ∀ {x : Str} {k3 k4 k5 : Option V} {H' : Hp}, RowsAt b H 20 (5 * j) p xs H' → Sg 20 x → (∃ (p' : Addr) (xs' : List Str) (k3' k4' k5' : Option V), [some (V.ref a), some (V.ref b), some (V.ref p), k3, k4, k5, none] = [some (V.ref a), some (V.ref b), some (V.ref p'), k3', k4', k5', none] ∧ RowsAt b H 20 (5 * (j + 1)) p' xs' (upd H' p (.lst (xs.map V.str ++ [V.str x])))) :=
        fun r hx => ⟨p, _, _, _, _, rfl, (r.app hx).mono (by omega)⟩
      refine ⟨_, rfl, _, _, rfl, rfl, _, rfl, ite2 (fun _ => ?_) (fun _ => ?_)⟩
      · have q1 := hk.cat (sg_of (m := 3) (x := " = ") (by decide +kernel))
        refine ⟨_, rfl, .inl ⟨rfl, _, SqL.of r.at_⟩, _, rfl, _, _, rfl, rfl, hk.sz (sg_of (m := 3) (by decide +kernel)), ⟨_, rfl⟩, ?_⟩
        refine ⟨_, rfl, _, rfl, a, b, ns, 2, rfl, S.go r.go, by decide, fun n H6 g6 n0 n1 => ?_⟩
        obtain ⟨n, rfl⟩ := Int.eq_ofNat_of_zero_le n0
        have r := r.step g6
        refine ⟨_, _, rfl, rfl, _, rfl, (rng_of (by omega) (by omega)).1, (rng_of (by omega) (by omega)).2, fun D hD => lc_range (n := (1 + (n : Int)).toNat) (fun i H7 => ∃ ys : List Str, RowsAt b H6 3 i D ys H7) ⟨[], RowsAt.nil r.go.cell hD⟩ ?_ ?_⟩
        · rintro i H7 hi ⟨ys, r7⟩
          refine ⟨rfl, (by show 3 ≤ sizeLine; decide), fun l hl => ⟨_, rfl, _, rfl, a, b, ns, 3, rfl, (S.go r.go).go (r7.go.new hl), by decide, fun d H8 g8 d0 d1 => ?_⟩⟩
          obtain ⟨z, hz, ez⟩ := strs_at (xs := (["red", "on", "b2"] : List Str)) d0 d1
          have r8 := (r7.step ((Go.refl r7.go.cell).new hl)).step g8
          exact ⟨l, _, d, _, rfl, rfl, SqL.of (strs_new r7.go.cell hl g8), ez, _, r8.at_, r8.room, _, r8.app (sg_mem hz (by decide +kernel))⟩
        · rintro H7 ⟨ys, r7⟩
          obtain ⟨hs, hj⟩ := (r7.mono (k := 2) (by omega)).join (k := 1) (y := " ") (sg_of (by decide +kernel)) (by decide)
          have r := r.step r7.go
          exact ⟨_, D, ys, rfl, rfl, .inl (SqL.of r7.at_), hs, _, _, rfl, rfl, q1.sz hj, p, _, _, rfl, rfl, r.at_, r.room, done r ((q1.cat hj).mono (by decide))⟩
      refine ⟨_, rfl, rfl, _, rfl, ite2 (fun _ => ?_) (fun _ => ?_)⟩
      · have q1 := hk.cat (sg_of (m := 4) (x := " += ") (by decide +kernel))
        refine ⟨_, rfl, .inl ⟨rfl, _, SqL.of r.at_⟩, _, rfl, _, _, rfl, rfl, hk.sz (sg_of (m := 4) (by decide +kernel)), ?_⟩
        refine ⟨(by show 2 ≤ sizeLine; decide), fun l hl => ⟨_, rfl, _, rfl, a, b, ns, 2, rfl, S.go (r.go.new hl), by decide, fun d H8 g8 d0 d1 => ?_⟩⟩
        obtain ⟨z, hz, ez⟩ := strs_at (xs := (["blue", "off"] : List Str)) d0 d1
        have r8 := (r.step ((Go.refl r.go.cell).new hl)).step g8
        have hz : Sg 4 z := sg_mem hz (by decide +kernel)
        exact ⟨l, _, d, _, rfl, rfl, SqL.of (strs_new r.go.cell hl g8), ez, _, _, rfl, rfl, q1.sz hz, p, _, _, rfl, rfl, r8.at_, r8.room, done r8 ((q1.cat hz).mono (by decide))⟩
      refine ⟨_, rfl, rfl, _, rfl, ite2 (fun _ => ?_) (fun _ => ?_)⟩
      · have q1 := (sg_of (m := 5) (x := "drop ") (by decide +kernel)).cat hk
        exact ⟨_, rfl, .inl ⟨rfl, _, SqL.of r.at_⟩, _, rfl, _, _, rfl, rfl, (sg_of (m := 5) (by decide +kernel)).sz hk, p, _, _, rfl, rfl, r.at_, r.room, done r (q1.mono (by decide))⟩
      refine ⟨_, rfl, .inl ⟨rfl, _, SqL.of r.at_⟩, ?_⟩
      refine ⟨(by show 3 ≤ sizeLine; decide), fun l hl => ⟨_, rfl, _, rfl, a, b, ns, 3, rfl, S.go (r.go.new hl), by decide, fun d H8 g8 d0 d1 => ?_⟩⟩
      obtain ⟨z, hz, ez⟩ := strs_at (xs := (["zone is eu", "zone is us", "size is big"] : List Str)) d0 d1
      have r8 := (r.step ((Go.refl r.go.cell).new hl)).step g8
      have hz : Sg 11 z := sg_mem hz (by decide +kernel)
      refine ⟨l, _, d, _, rfl, rfl, SqL.of (strs_new r.go.cell hl g8), ez, _, _, rfl, rfl, (sg_of (m := 5) (by decide +kernel)).sz hz, p, _, _, rfl, rfl, r8.at_, r8.room, ?_⟩
      have r9 := r8.app (((sg_of (m := 5) (x := "when ") (by decide +kernel)).cat hz).mono (show 16 ≤ 20 by decide))
      refine ⟨_, rfl, _, rfl, _, rfl, a, b, ns, 4, rfl, S.go r9.go, by decide, fun n H10 g10 n0 n1 => ?_⟩
      have r10 := r9.step g10
      have kn : Sg 2 (toString ((0 : Int) + (j : Int))) := by
        rw [Int.zero_add]
        exact sg_num (by omega)
      have t1 := (hk.cat (sg_of (m := 4) (x := " = w") (by decide +kernel))).cat kn
      have t2 := hk.cat (sg_of (m := 5) (x := " += v") (by decide +kernel))
      have t3 := (sg_of (m := 5) (x := "drop ") (by decide +kernel)).cat hk
      refine ⟨_, rfl, (rng_of (by omega) (by omega)).1, (rng_of (by omega) (by omega)).2, fun D hD => lc_range (n := n.toNat) (fun i H7 => ∃ ys : List Str, RowsAt b H10 20 i D ys H7) ⟨[], RowsAt.nil r10.go.cell hD⟩ ?_ ?_⟩
      · rintro i H7 hi ⟨ys, r7⟩
        refine ⟨rfl, _, rfl, _, _, rfl, rfl, hk.sz (sg_of (m := 4) (by decide +kernel)), _, rfl, _, rfl, ?_, _, _, rfl, rfl, (hk.cat (sg_of (m := 4) (by decide +kernel))).sz kn, ?_⟩
        · rw [Int.zero_add]
          exact log_small (by omega)
        refine ⟨_, rfl, _, _, rfl, rfl, hk.sz (sg_of (m := 5) (by decide +kernel)), _, rfl, _, _, rfl, rfl, (sg_of (m := 5) (by decide +kernel)).sz hk, (by show 5 ≤ sizeLine; decide), fun l hl => ⟨_, rfl, _, rfl, a, b, ns, 5, rfl, (S.go r10.go).go (r7.go.new hl), by decide, fun d H8 g8 d0 d1 => ?_⟩⟩
        obtain ⟨z, hz, ez⟩ := strs_at (xs := [key ++ " = w" ++ toString ((0 : Int) + (j : Int)), key ++ " += v", "drop " ++ key, "", "mode = on w"]) d0 d1
        have hz : Sg 20 z := by
          simp only [List.mem_cons, List.not_mem_nil, or_false] at hz
          rcases hz with rfl | rfl | rfl | rfl | rfl
          · exact t1.mono (by decide)
          · exact t2.mono (by decide)
          · exact t3.mono (by decide)
          · exact sg_of (by decide +kernel)
          · exact sg_of (by decide +kernel)
        have r8 := (r7.step ((Go.refl r7.go.cell).new hl)).step g8
        exact ⟨l, _, d, _, rfl, rfl, SqL.of (strs_new (m := [key ++ " = w" ++ toString ((0 : Int) + (j : Int)), key ++ " += v", "drop " ++ key, "", "mode = on w"]) r7.go.cell hl g8), ez, _, r8.at_, r8.room, _, r8.app hz⟩
      · rintro H7 ⟨ys, r7⟩
        have r11 := r10.step r7.go
        have hy : ys.length ≤ 3 := Nat.le_trans r7.few (by omega)
        refine ⟨_, D, _, _, rfl, rfl, r11.at_, r7.at_, r11.cat_sz (k := 3) hy, fun p2 hp2 => ?_⟩
        have r12 := r11.cat (k := 3) hy r7.sg hp2
        refine ⟨(by show 1 ≤ sizeLine; decide), fun l hl => ?_⟩
        have r13 := r12.step ((Go.refl r12.go.cell).new (o := .lst ((["end"] : List Str).map V.str)) hl)
        refine ⟨p2, l, _, _, rfl, rfl, r13.at_, upd_same, r13.cat_sz (ys := (["end"] : List Str)) (k := 1) (by decide), fun p3 hp3 => ?_⟩
        exact ⟨p3, _, _, _, _, rfl, (r13.cat (ys := (["end"] : List Str)) (k := 1) (by decide) (fun y hy => by rw [List.mem_singleton.mp hy]; exact sg_of (by decide +kernel)) hp3).mono (by omega)⟩
    · rintro σ H3 ⟨p, xs, k3, k4, k5, rfl, r⟩
      exact ⟨_, rfl, kk p xs H3 (r.mono (by omega))⟩
end
end Kl

namespace Kl
open PySem L2 Kd
/-! a file's content: rows, each with its line end -/
def ctc (c : Nat) : Bool := c == 10 || okc c
structure Ct (m : Nat) (x : Str) : Prop where
  len : x.length ≤ m
  all : ∀ c ∈ x.cps.toList, ctc c = true
def contentOf (xs : List Str) : Str := Txt.join "" (xs.map (· ++ "\n"))
theorem Sg.ct {m : Nat} {x : Str} (h : Sg m x) : Ct m x := ⟨h.len, fun c hc => by unfold ctc; rw [h.all c hc, Bool.or_true]⟩
theorem Ct.mono {m n : Nat} {x : Str} (a : Ct m x) (h : m ≤ n) : Ct n x := ⟨Nat.le_trans a.len h, a.all⟩
theorem Ct.cat {m n : Nat} {x y : Str} (a : Ct m x) (b : Ct n y) : Ct (m + n) (x ++ y) := by
  refine ⟨?_, fun c h => ?_⟩
  · have := a.len
    have := b.len
    rw [len_cat]
    omega
  · rw [cps_cat, List.mem_append] at h
    rcases h with h | h
    · exact a.all c h
    · exact b.all c h
def ctB (m : Nat) (x : Str) : Bool := decide (x.length ≤ m) && x.cps.toList.all ctc
theorem ct_of {m : Nat} {x : Str} (h : ctB m x = true) : Ct m x := by
  unfold ctB at h
  rw [Bool.and_eq_true, List.all_eq_true] at h
  exact ⟨of_decide_eq_true h.1, h.2⟩
theorem ct_mem {m : Nat} {x : Str} {l : List Str} (hx : x ∈ l) (h : (l.all (ctB m)) = true) : Ct m x := ct_of (List.all_eq_true.mp h x hx)
theorem join_nil_cons (x : Str) (r : List Str) : (Str.join "" (x :: r)).cps.toList = x.cps.toList ++ (Str.join "" r).cps.toList := by
  cases r with
  | nil =>
    show x.cps.toList = x.cps.toList ++ []
    rw [List.append_nil]
  | cons z r =>
    show (x ++ "" ++ Str.join "" (z :: r)).cps.toList = _
    rw [cps_cat, cps_cat, show ((Str.ofString "") : Str).cps.toList = [] by decide +kernel, List.append_nil]
theorem content_nil : (contentOf []).cps.toList = [] := by
  unfold contentOf
  rw [TL.join_eq]
  rfl
theorem content_cons (x : Str) (r : List Str) : (contentOf (x :: r)).cps.toList = x.cps.toList ++ 10 :: (contentOf r).cps.toList := by
  unfold contentOf
  rw [TL.join_eq, TL.join_eq, List.map_cons, join_nil_cons, cps_cat, List.append_assoc]
  rfl
theorem content_len : ∀ xs : List Str, (contentOf xs).length = (xs.map (fun x => x.length + 1)).sum
  | [] => by
    rw [← len_tl, content_nil]
    rfl
  | x :: r => by
    have ih := content_len r
    rw [← len_tl] at ih
    rw [← len_tl, content_cons, List.length_append, List.length_cons, ih, len_tl, List.map_cons, List.sum_cons]
    omega
theorem content_all {m : Nat} : ∀ {xs : List Str}, (∀ x ∈ xs, Sg m x) → ∀ c ∈ (contentOf xs).cps.toList, ctc c = true
  | [], _, c, h => by
    rw [content_nil] at h
    cases h
  | x :: r, hs, c, h => by
    rw [content_cons, List.mem_append, List.mem_cons] at h
    rcases h with h | h | h
    · exact (hs x (List.mem_cons_self ..)).ct.all c h
    · subst h
      rfl
    · exact content_all (fun z hz => hs z (List.mem_cons_of_mem _ hz)) c h
theorem content_ct {m n k : Nat} {xs : List Str} (hl : xs.length ≤ n) (hs : ∀ x ∈ xs, Sg m x) (hk : n * (m + 1) ≤ k) : Ct k (contentOf xs) := by
  refine ⟨?_, content_all hs⟩
  rw [content_len]
  have : (xs.map (fun x => x.length + 1)).sum ≤ xs.length * (m + 1) := by
    clear hl hk
    induction xs with
    | nil => exact Nat.zero_le _
    | cons x r ih =>
      have a := ih fun z hz => hs z (List.mem_cons_of_mem _ hz)
      have b := (hs x (List.mem_cons_self ..)).len
      rw [List.map_cons, List.sum_cons, List.length_cons, Nat.add_mul, Nat.one_mul]
      omega
  exact Nat.le_trans this (Nat.le_trans (Nat.mul_le_mul_right _ hl) hk)
theorem sum_cut (f : Str → Nat) : ∀ (xs : List Str) (i : Nat), ((xs.take i).map f).sum + ((xs.drop i).map f).sum = (xs.map f).sum
  | [], i => by simp
  | x :: r, 0 => by simp
  | x :: r, i + 1 => by
    have := sum_cut f r i
    simp only [List.take_succ_cons, List.drop_succ_cons, List.map_cons, List.sum_cons]
    omega
theorem content_take (xs : List Str) (i : Nat) : (contentOf (xs.take i)).length ≤ (contentOf xs).length := by
  rw [content_len, content_len]
  have := sum_cut (fun x => x.length + 1) xs i
  omega
theorem content_drop (xs : List Str) (i : Nat) : (contentOf (xs.drop i)).length ≤ (contentOf xs).length := by
  rw [content_len, content_len]
  have := sum_cut (fun x => x.length + 1) xs i
  omega
theorem Go.same {b : Addr} {H H' : Hp} (c : ∃ i : Int, 0 ≤ i ∧ H b = some (.lst [.int i])) (s : Same H H') : Go b H H' := by
  obtain ⟨i, hi, q⟩ := c
  exact ⟨fun c o _ e => s c o e, i, hi, s b _ q⟩
def spContent (K : PySem.W.Frag) : Sp := fun vs H Q _ => ∃ (p : Addr) (xs : List Str), vs = [.ref p] ∧ Strs H p xs ∧ xs.length ≤ 1000 ∧ (∀ x ∈ xs, Sg 400 x) ∧ ∀ H' : Hp, Same H H' → Q (.str (contentOf xs)) H'
section
variable {P : Program} {w : World} {K : PySem.W.Frag} {mg : Str → Option Value} {base : Heap}
abbrev s_l_content : Stmt := topS 39
theorem sc_l_content : FnScope ["rows", "one"] ["rows"] (defScope s_l_content) := ⟨rfl, rfl, rfl, by decide +kernel, rfl, by decide +kernel, by decide +kernel⟩
theorem ok_content {f : Addr} {fd : FuncData} (F : Fun K "_law_content" "_law_content" s_l_content f fd) : FnOk P w K mg base CX0 1 f fd ["rows"] (spContent K) := by
  refine F.ok sc_l_content (fun vs H Q E h => ?_) (fun cdv A outer s H vs Q E hr h => ?_)
  · obtain ⟨p, xs, rfl, _⟩ := h
    rfl
  · obtain ⟨p, xs, rfl, hp, hl, hs, k⟩ := h
    refine ⟨_, (pss_one (ps_ret (pe_join pe_str (pe_lc (own := [("one", 1)]) (g := gName 1) (tt := tYes) rfl sc_l_content.nd (pi_list (pv 0)) (blkOk_by (N := ["rows", "one"]) (sc := defScope s_l_content) (by decide +kernel)) (fun _ _ _ _ _ => (pg_name (i := 1) sc_l_content.nd rfl (.inl rfl))) (fun _ _ _ _ _ => pts_nil) (fun _ _ _ _ _ => (pe_op op_add_str (pv 1) pe_str)))))), ?_⟩
    refine ⟨⟨_, rfl⟩, _, rfl, p, rfl, ⟨_, SqL.of hp⟩, fun D hD => lc_list (K := K) (xs := xs.map V.str) (fun i H1 => Same H H1 ∧ H1 D = some (.lst (((xs.map (· ++ ("\n" : Str))).take i).map V.str))) ⟨Same.new hD, ?_⟩ (fun i H1 _ q => SqL.of (q.1 _ _ hp)) ?_ ?_⟩
    · rw [upd_same]
      rfl
    · rintro i x H1 hx ⟨s1, e1⟩
      rw [List.getElem?_map] at hx
      obtain ⟨y, hy, rfl⟩ := Option.map_eq_some_iff.mp hx
      have hi : i < xs.length := (List.getElem?_eq_some_iff.mp hy).1
      have sy := hs y (List.mem_of_getElem? hy)
      refine ⟨rfl, _, rfl, _, _, rfl, rfl, small_of (by have := sy.len; have : ("\n" : Str).length = 1 := (by decide +kernel); omega), _, e1, ?_, Same.mut s1 hD, ?_⟩
      · rw [List.length_map, List.length_take, List.length_map]
        exact small_lt (by omega)
      · rw [upd_same, List.take_add_one, List.getElem?_map, hy, List.map_append]
        rfl
    · rintro H1 ⟨s1, e1⟩
      rw [List.length_map] at e1
      have e2 : (xs.map (· ++ ("\n" : Str))).take xs.length = xs.map (· ++ ("\n" : Str)) := List.take_of_length_le (by rw [List.length_map]; exact Nat.le_refl _)
      rw [e2] at e1
      refine ⟨_, D, _, rfl, rfl, .inl (SqL.of e1), ?_, k H1 s1⟩
      have h1 := sum_lens (m := 401) (xs := xs.map (· ++ ("\n" : Str))) fun x hx => by
        obtain ⟨y, hy, rfl⟩ := List.mem_map.mp hx
        have := (hs y hy).len
        rw [len_cat]
        have : ("\n" : Str).length = 1 := by decide +kernel
        omega
      rw [List.length_map] at h1 ⊢
      have : ("" : Str).length = 0 := by decide +kernel
      rw [this]
      omega
end
end Kl

namespace Kl
open PySem L2 Kd
theorem cut_strs (xs : List Str) (lo hi : Option Int) : ∃ ms : List Str, cutV (xs.map V.str) lo hi = ms.map V.str ∧ ms.length ≤ xs.length ∧ ∀ y ∈ ms, y ∈ xs := by
  have e := cutV_length (xs.map V.str) lo hi
  unfold cutV at e ⊢
  rw [← List.map_drop, ← List.map_take] at e ⊢
  exact ⟨_, rfl, by simpa using e, fun y hy => List.mem_of_mem_drop (List.mem_of_mem_take hy)⟩
section
variable {P : Program} {w : World} {K : PySem.W.Frag} {mg : Str → Option Value} {base : Heap}
abbrev s_l_place_rows : Stmt := topS 40
theorem sc_l_place_rows : FnScope ["row", "spot", "rows", "k"] ["row", "spot"] (defScope s_l_place_rows) := ⟨rfl, rfl, rfl, by decide +kernel, rfl, by decide +kernel, by decide +kernel⟩
theorem ok_place_rows {f : Addr} {fd : FuncData} (F : Fun K "_law_place_rows" "_law_place_rows" s_l_place_rows f fd) (T : Glo mg) (c_l_take : C8.Cal P w K mg base 2 "_law_take" (spTk K) []) :
    FnOk P w K mg base CX0 3 f fd ["row", "spot"] (spRows K 28 25) := by
  refine F.ok sc_l_place_rows (fun vs H Q E h => ?_) (fun cdv A outer s H vs Q E hr h => ?_)
  · obtain ⟨a, b, ns, rfl, _⟩ := h
    rfl
  · obtain ⟨a, b, ns, rfl, S, kk⟩ := h
    refine ⟨_, (pss_cons (ps_set (i := 2) sc_l_place_rows.nd rfl (.inl rfl) (pe_lst pa_nil))
      (pss_cons (ps_for PassesOwn.never rfl (pi_range1 (by rfl) T.range (pa_cons (C8.pe_c c_l_take hr (by omega) (by rfl) (pa_cons (pv 0) (pa_cons (pv 1) (pa_cons (pe_ix ix_list (pe_lst (pa_cons pe_int (pa_cons pe_int (pa_cons pe_int (pa_cons pe_int pa_nil))))) (C8.pe_c c_l_take hr (by omega) (by rfl) (pa_cons (pv 0) (pa_cons (pv 1) (pa_cons pe_int pa_nil)))) (fun _ _ => rfl)) pa_nil)))) pa_nil)) (pg_name (i := 3) sc_l_place_rows.nd rfl (.inl rfl))
      (pss_one (ps_expr (pe_bm PySem.F.plainAttrs_list PySem.F.slot_list_append PySem.F.type_list_append mt_append (pv 2) (pa_cons (pe_op op_add_str (pe_op op_add_str (pe_op op_add_str pe_str (pe_callTy call_str_int (by rfl) T.str (by decide +kernel) (pa_cons (pv 3) pa_nil))) (pe_ix ix_list (pe_lst (pa_strs rfl)) (C8.pe_c c_l_take hr (by omega) (by rfl) (pa_cons (pv 0) (pa_cons (pv 1) (pa_cons pe_int pa_nil)))) (fun _ _ => rfl))) (pe_ix ix_list (pe_lst (pa_strs rfl)) (C8.pe_c c_l_take hr (by omega) (by rfl) (pa_cons (pv 0) (pa_cons (pv 1) (pa_cons pe_int pa_nil)))) (fun _ _ => rfl))) pa_nil)))))
      (pss_one (ps_ret (pe_ifExp (pt_cmpR op_gt (C8.pe_c c_l_take hr (by omega) (by rfl) (pa_cons (pv 0) (pa_cons (pv 1) (pa_cons pe_int pa_nil)))) pe_int (nomark _)) (pv 2) (pe_op op_cat (pe_op op_cat (pe_slice sl_list (pv 2) po_none (po_some pe_int)) (pe_lst (pa_strs rfl))) (pe_slice sl_list (pv 2) (po_some pe_int) po_none))))))), ?_⟩
    refine ⟨(by show 0 ≤ sizeLine; decide), fun p hp => ?_⟩
    have rp : RowsAt b H 28 0 p [] (upd H p (.lst [])) := RowsAt.nil S.cell hp
    refine ⟨_, rfl, _, rfl, (by show 4 ≤ sizeLine; decide), fun l hl => ⟨_, rfl, _, rfl, a, b, ns, 4, rfl, S.go (rp.go.new hl), by decide, fun d H2 g2 h0 h1 => ?_⟩⟩
    have hd : ∃ m : Int, 0 < m ∧ m ≤ 13 ∧ atI [V.int 5, V.int 5, V.int 5, V.int 13] d = some (.int m) := by
      rcases (show d = 0 ∨ d = 1 ∨ d = 2 ∨ d = 3 by omega) with rfl | rfl | rfl | rfl
      · exact ⟨5, by decide, by decide, rfl⟩
      · exact ⟨5, by decide, by decide, rfl⟩
      · exact ⟨5, by decide, by decide, rfl⟩
      · exact ⟨13, by decide, by decide, rfl⟩
    obtain ⟨m, m0, m1, em⟩ := hd
    have gl := (Go.refl rp.go.cell).new (o := .lst [.int 5, .int 5, .int 5, .int 13]) hl
    have r2 := (rp.step gl).step g2
    have hl2 : H2 l = some (.lst [.int 5, .int 5, .int 5, .int 13]) := g2.keep _ _ (fun z => by
      obtain ⟨i, _, q⟩ := rp.go.cell
      rw [z, q] at hl
      cases hl) upd_same
    refine ⟨l, _, d, _, rfl, rfl, SqL.of hl2, em, a, b, ns, m, rfl, S.go r2.go, m0, fun n H3 g3 n0 n1 => ?_⟩
    have r3 := r2.step g3
    refine ⟨_, rfl, (rng_of (by omega) (by omega)).1, (rng_of (by omega) (by omega)).2, for_range (n := n.toNat) (fun j σ H1 => ∃ (xs : List Str) (k3 : Option V), σ = [some (.ref a), some (.ref b), some (.ref p), k3] ∧ RowsAt b H 28 j p xs H1)
        ⟨[], _, rfl, r3⟩ ?_ ?_⟩
    · rintro j σ H3 hj ⟨xs, k3, rfl, r⟩
      have kn : Sg 2 (toString ((0 : Int) + (j : Int))) := by
        rw [Int.zero_add]
        exact sg_num (by omega)
      refine ⟨_, rfl, .inl ⟨rfl, _, SqL.of r.at_⟩, _, rfl, _, rfl, ?_, _, _, rfl, rfl, (sg_of (m := 7) (by decide +kernel)).sz kn, ?_⟩
      · rw [Int.zero_add]
        exact log_small (by omega)
      have q1 := (sg_of (m := 7) (x := "place p") (by decide +kernel)).cat kn
      refine ⟨(by show 4 ≤ sizeLine; decide), fun l hl => ⟨_, rfl, _, rfl, a, b, ns, 4, rfl, S.go (r.go.new hl), by decide, fun d H8 g8 d0 d1 => ?_⟩⟩
      obtain ⟨z, hz, ez⟩ := strs_at (xs := ([" 1", " 2", " 3", " 9"] : List Str)) d0 d1
      have r8 := (r.step ((Go.refl r.go.cell).new hl)).step g8
      have hz : Sg 2 z := sg_mem hz (by decide +kernel)
      refine ⟨l, _, d, _, rfl, rfl, SqL.of (strs_new r.go.cell hl g8), ez, _, _, rfl, rfl, q1.sz hz, ?_⟩
      refine ⟨(by show 4 ≤ sizeLine; decide), fun l hl => ⟨_, rfl, _, rfl, a, b, ns, 4, rfl, S.go (r8.go.new hl), by decide, fun d H9 g9 d0 d1 => ?_⟩⟩
      obtain ⟨y, hy, ey⟩ := strs_at (xs := (["", " zone=eu", " zone=us", " size=big zone=eu"] : List Str)) d0 d1
      have r9 := (r8.step ((Go.refl r8.go.cell).new hl)).step g9
      have hy : Sg 17 y := sg_mem hy (by decide +kernel)
      exact ⟨l, _, d, _, rfl, rfl, SqL.of (strs_new r8.go.cell hl g9), ey, _, _, rfl, rfl, (q1.cat hz).sz hy, p, _, _, rfl, rfl, r9.at_, r9.room, _, _, rfl, r9.app (((q1.cat hz).cat hy).mono (by decide))⟩
    · rintro σ H3 ⟨xs, k3, rfl, r⟩
      refine ⟨_, rfl, _, rfl, a, b, ns, 5, rfl, S.go r.go, by decide, fun z H4 g4 _ _ => ?_⟩
      have r := r.step g4
      refine ⟨_, _, rfl, rfl, _, rfl, ite2 (fun _ => ?_) (fun _ => ?_)⟩
      · exact ⟨_, rfl, kk p xs H4 (r.mono (by omega))⟩
      · refine ⟨_, rfl, _, rfl, p, _, rfl, SqL.of r.at_, fun q1 hq1 => ?_⟩
        obtain ⟨m1, e1, l1, s1⟩ := cut_strs xs none (some 1)
        rw [e1]
        have g5 := (Go.refl r.go.cell).new (o := .lst (m1.map V.str)) hq1
        have r1 : RowsAt b H 28 12 q1 m1 (upd H4 q1 (.lst (m1.map V.str))) := ⟨r.go.trans g5, r.go.free hq1, upd_same, Nat.le_trans l1 (Nat.le_trans r.few (by omega)), fun y hy => r.sg y (s1 y hy)⟩
        have r2 := r.step g5
        refine ⟨(by show 1 ≤ sizeLine; decide), fun q2 hq2 => ?_⟩
        have g6 := (Go.refl r2.go.cell).new (o := .lst (([""] : List Str).map V.str)) hq2
        have r3 := r1.step g6
        have r4 := r2.step g6
        refine ⟨q1, q2, _, _, rfl, rfl, r3.at_, upd_same, r3.cat_sz (ys := ([""] : List Str)) (k := 1) (by decide), fun q3 hq3 => ?_⟩
        have r5 := r3.cat (ys := ([""] : List Str)) (k := 1) (by decide) (fun y hy => by rw [List.mem_singleton.mp hy]; exact sg_of (by decide +kernel)) hq3
        have r6 := r4.step ((Go.refl r4.go.cell).new (o := .lst (m1.map V.str ++ ([""] : List Str).map V.str)) hq3)
        refine ⟨_, rfl, _, rfl, p, _, rfl, SqL.of r6.at_, fun q4 hq4 => ?_⟩
        obtain ⟨m2, e2, l2, s2⟩ := cut_strs xs (some 1) none
        rw [e2]
        have r7 := r5.step ((Go.refl r5.go.cell).new (o := .lst (m2.map V.str)) hq4)
        have hm2 : m2.length ≤ 12 := Nat.le_trans l2 (Nat.le_trans r.few (by omega))
        refine ⟨q3, q4, _, _, rfl, rfl, r7.at_, upd_same, r7.cat_sz (ys := m2) (k := 12) hm2, fun q5 hq5 => ?_⟩
        exact kk q5 _ _ ((r7.cat (ys := m2) (k := 12) hm2 (fun y hy => r.sg y (s2 y hy)) hq5).mono (by omega))
abbrev s_l_own_rows : Stmt := topS 41
theorem sc_l_own_rows : FnScope ["row", "spot", "rows", "k", "about"] ["row", "spot"] (defScope s_l_own_rows) := ⟨rfl, rfl, rfl, by decide +kernel, rfl, by decide +kernel, by decide +kernel⟩
theorem ok_own_rows {f : Addr} {fd : FuncData} (F : Fun K "_law_own_rows" "_law_own_rows" s_l_own_rows f fd) (T : Glo mg) (c_l_take : C8.Cal P w K mg base 2 "_law_take" (spTk K) []) :
    FnOk P w K mg base CX0 3 f fd ["row", "spot"] (spRows K 40 7) := by
  refine F.ok sc_l_own_rows (fun vs H Q E h => ?_) (fun cdv A outer s H vs Q E hr h => ?_)
  · obtain ⟨a, b, ns, rfl, _⟩ := h
    rfl
  · obtain ⟨a, b, ns, rfl, S, kk⟩ := h
    refine ⟨_, (pss_cons (ps_set (i := 2) sc_l_own_rows.nd rfl (.inl rfl) (pe_lst pa_nil))
      (pss_cons (ps_for PassesOwn.never rfl (pi_range1 (by rfl) T.range (pa_cons (C8.pe_c c_l_take hr (by omega) (by rfl) (pa_cons (pv 0) (pa_cons (pv 1) (pa_cons pe_int pa_nil)))) pa_nil)) (pg_name (i := 3) sc_l_own_rows.nd rfl (.inl rfl))
      (pss_cons (ps_set (i := 4) sc_l_own_rows.nd rfl (.inl rfl) (pe_ix ix_list (pe_lst (pa_strs rfl)) (C8.pe_c c_l_take hr (by omega) (by rfl) (pa_cons (pv 0) (pa_cons (pv 1) (pa_cons pe_int pa_nil)))) (fun _ _ => rfl)))
        (pss_one (ps_expr (pe_bm PySem.F.plainAttrs_list PySem.F.slot_list_append PySem.F.type_list_append mt_append (pv 2) (pa_cons (pe_op op_add_str (pe_op op_add_str (pe_op op_add_str pe_str (pv 4)) (pe_ix ix_list (pe_lst (pa_strs rfl)) (C8.pe_c c_l_take hr (by omega) (by rfl) (pa_cons (pv 0) (pa_cons (pv 1) (pa_cons pe_int pa_nil)))) (fun _ _ => rfl))) (pe_ix ix_list (pe_lst (pa_strs rfl)) (C8.pe_c c_l_take hr (by omega) (by rfl) (pa_cons (pv 0) (pa_cons (pv 1) (pa_cons pe_int pa_nil)))) (fun _ _ => rfl))) pa_nil))))))
      (pss_one (ps_ret (pe_ifExp (pt_cmpR op_gt (C8.pe_c c_l_take hr (by omega) (by rfl) (pa_cons (pv 0) (pa_cons (pv 1) (pa_cons pe_int pa_nil)))) pe_int (nomark _)) (pv 2) (pe_op op_cat (pe_op op_cat (pe_slice sl_list (pv 2) po_none (po_some pe_int)) (pe_lst (pa_strs rfl))) (pe_slice sl_list (pv 2) (po_some pe_int) po_none))))))), ?_⟩
    refine ⟨(by show 0 ≤ sizeLine; decide), fun p hp => ?_⟩
    have rp : RowsAt b H 40 0 p [] (upd H p (.lst [])) := RowsAt.nil S.cell hp
    refine ⟨_, rfl, _, rfl, a, b, ns, 4, rfl, S.go rp.go, by decide, fun n H3 g3 n0 n1 => ?_⟩
    have r3 := rp.step g3
    refine ⟨_, rfl, (rng_of (by omega) (by omega)).1, (rng_of (by omega) (by omega)).2, for_range (n := n.toNat) (fun j σ H1 => ∃ (xs : List Str) (k3 k4 : Option V), σ = [some (.ref a), some (.ref b), some (.ref p), k3, k4] ∧ RowsAt b H 40 j p xs H1)
        ⟨[], _, _, rfl, r3⟩ ?_ ?_⟩
    · rintro j σ H3 hj ⟨xs, k3, k4, rfl, r⟩
      refine ⟨(by show 6 ≤ sizeLine; decide), fun l hl => ⟨_, rfl, _, rfl, a, b, ns, 6, rfl, S.go (r.go.new hl), by decide, fun d H7 g7 d0 d1 => ?_⟩⟩
      obtain ⟨x, hx, ex⟩ := strs_at (xs := (["app", "app/main", "set", "all/", "build", "own"] : List Str)) d0 d1
      have r7 := (r.step ((Go.refl r.go.cell).new hl)).step g7
      have hx : Sg 8 x := sg_mem hx (by decide +kernel)
      refine ⟨l, _, d, _, rfl, rfl, SqL.of (strs_new r.go.cell hl g7), ex, ?_⟩
      refine ⟨_, rfl, .inl ⟨rfl, _, SqL.of r7.at_⟩, _, rfl, _, _, rfl, rfl, (sg_of (m := 4) (by decide +kernel)).sz hx, ?_⟩
      have q1 := (sg_of (m := 4) (x := "own ") (by decide +kernel)).cat hx
      refine ⟨(by show 6 ≤ sizeLine; decide), fun l hl => ⟨_, rfl, _, rfl, a, b, ns, 6, rfl, S.go (r7.go.new hl), by decide, fun d H8 g8 d0 d1 => ?_⟩⟩
      obtain ⟨z, hz, ez⟩ := strs_at (xs := ([" 0 ", " 0 ", " 1 ", " 1 ", " 2 ", " 3 "] : List Str)) d0 d1
      have r8 := (r7.step ((Go.refl r7.go.cell).new hl)).step g8
      have hz : Sg 3 z := sg_mem hz (by decide +kernel)
      refine ⟨l, _, d, _, rfl, rfl, SqL.of (strs_new r7.go.cell hl g8), ez, _, _, rfl, rfl, q1.sz hz, ?_⟩
      refine ⟨(by show 5 ≤ sizeLine; decide), fun l hl => ⟨_, rfl, _, rfl, a, b, ns, 5, rfl, S.go (r8.go.new hl), by decide, fun d H9 g9 d0 d1 => ?_⟩⟩
      obtain ⟨y, hy, ey⟩ := strs_at (xs := (["ann bob", "ann", "bob cy dee", "dee", "ann bob cy dee eve fay"] : List Str)) d0 d1
      have r9 := (r8.step ((Go.refl r8.go.cell).new hl)).step g9
      have hy : Sg 22 y := sg_mem hy (by decide +kernel)
      exact ⟨l, _, d, _, rfl, rfl, SqL.of (strs_new r8.go.cell hl g9), ey, _, _, rfl, rfl, (q1.cat hz).sz hy, p, _, _, rfl, rfl, r9.at_, r9.room, _, _, _, rfl, r9.app (((q1.cat hz).cat hy).mono (by decide))⟩
    · rintro σ H3 ⟨xs, k3, k4, rfl, r⟩
      refine ⟨_, rfl, _, rfl, a, b, ns, 5, rfl, S.go r.go, by decide, fun z H4 g4 _ _ => ?_⟩
      have r := r.step g4
      refine ⟨_, _, rfl, rfl, _, rfl, ite2 (fun _ => ?_) (fun _ => ?_)⟩
      · exact ⟨_, rfl, kk p xs H4 (r.mono (by omega))⟩
      · refine ⟨_, rfl, _, rfl, p, _, rfl, SqL.of r.at_, fun q1 hq1 => ?_⟩
        obtain ⟨m1, e1, l1, s1⟩ := cut_strs xs none (some 1)
        rw [e1]
        have g5 := (Go.refl r.go.cell).new (o := .lst (m1.map V.str)) hq1
        have r1 : RowsAt b H 40 3 q1 m1 (upd H4 q1 (.lst (m1.map V.str))) := ⟨r.go.trans g5, r.go.free hq1, upd_same, Nat.le_trans l1 (Nat.le_trans r.few (by omega)), fun y hy => r.sg y (s1 y hy)⟩
        have r2 := r.step g5
        refine ⟨(by show 1 ≤ sizeLine; decide), fun q2 hq2 => ?_⟩
        have g6 := (Go.refl r2.go.cell).new (o := .lst (([""] : List Str).map V.str)) hq2
        have r3 := r1.step g6
        have r4 := r2.step g6
        refine ⟨q1, q2, _, _, rfl, rfl, r3.at_, upd_same, r3.cat_sz (ys := ([""] : List Str)) (k := 1) (by decide), fun q3 hq3 => ?_⟩
        have r5 := r3.cat (ys := ([""] : List Str)) (k := 1) (by decide) (fun y hy => by rw [List.mem_singleton.mp hy]; exact sg_of (by decide +kernel)) hq3
        have r6 := r4.step ((Go.refl r4.go.cell).new (o := .lst (m1.map V.str ++ ([""] : List Str).map V.str)) hq3)
        refine ⟨_, rfl, _, rfl, p, _, rfl, SqL.of r6.at_, fun q4 hq4 => ?_⟩
        obtain ⟨m2, e2, l2, s2⟩ := cut_strs xs (some 1) none
        rw [e2]
        have r7 := r5.step ((Go.refl r5.go.cell).new (o := .lst (m2.map V.str)) hq4)
        have hm2 : m2.length ≤ 3 := Nat.le_trans l2 (Nat.le_trans r.few (by omega))
        refine ⟨q3, q4, _, _, rfl, rfl, r7.at_, upd_same, r7.cat_sz (ys := m2) (k := 3) hm2, fun q5 hq5 => ?_⟩
        exact kk q5 _ _ ((r7.cat (ys := m2) (k := 3) hm2 (fun y hy => r.sg y (s2 y hy)) hq5).mono (by omega))
abbrev s_l_goal_rows : Stmt := topS 42
theorem sc_l_goal_rows : FnScope ["row", "spot", "rows", "name"] ["row", "spot"] (defScope s_l_goal_rows) := ⟨rfl, rfl, rfl, by decide +kernel, rfl, by decide +kernel, by decide +kernel⟩
theorem ok_goal_rows {f : Addr} {fd : FuncData} (F : Fun K "_law_goal_rows" "_law_goal_rows" s_l_goal_rows f fd) (T : Glo mg) (c_l_take : C8.Cal P w K mg base 2 "_law_take" (spTk K) []) :
    FnOk P w K mg base CX0 3 f fd ["row", "spot"] (spRows K 20 7) := by
  refine F.ok sc_l_goal_rows (fun vs H Q E h => ?_) (fun cdv A outer s H vs Q E hr h => ?_)
  · obtain ⟨a, b, ns, rfl, _⟩ := h
    rfl
  · obtain ⟨a, b, ns, rfl, S, kk⟩ := h
    refine ⟨_, (pss_cons (ps_set (i := 2) sc_l_goal_rows.nd rfl (.inl rfl) (pe_lst pa_nil))
      (pss_cons (ps_for PassesOwn.never rfl (pi_list (pe_lst (pa_strs rfl))) (pg_name (i := 3) sc_l_goal_rows.nd rfl (.inl rfl))
      (pss_one (ps_if (pt_cmpR op_eq (C8.pe_c c_l_take hr (by omega) (by rfl) (pa_cons (pv 0) (pa_cons (pv 1) (pa_cons pe_int pa_nil)))) pe_int (nomark _))
        (pss_one (ps_expr (pe_bm PySem.F.plainAttrs_list PySem.F.slot_list_append PySem.F.type_list_append mt_append (pv 2) (pa_cons (pe_op op_add_str (pe_op op_add_str (pe_op op_add_str pe_str (pv 3)) (pe_ix ix_list (pe_lst (pa_strs rfl)) (C8.pe_c c_l_take hr (by omega) (by rfl) (pa_cons (pv 0) (pa_cons (pv 1) (pa_cons pe_int pa_nil)))) (fun _ _ => rfl))) (pe_ix ix_list (pe_lst (pa_strs rfl)) (C8.pe_c c_l_take hr (by omega) (by rfl) (pa_cons (pv 0) (pa_cons (pv 1) (pa_cons pe_int pa_nil)))) (fun _ _ => rfl))) pa_nil))))
        pss_nil)))
      (pss_one (ps_ret (pe_ifExp (pt_cmpR op_gt (C8.pe_c c_l_take hr (by omega) (by rfl) (pa_cons (pv 0) (pa_cons (pv 1) (pa_cons pe_int pa_nil)))) pe_int (nomark _)) (pv 2) (pe_op op_cat (pe_op op_cat (pe_slice sl_list (pv 2) po_none (po_some pe_int)) (pe_lst (pa_strs rfl))) (pe_slice sl_list (pv 2) (po_some pe_int) po_none))))))), ?_⟩
    refine ⟨(by show 0 ≤ sizeLine; decide), fun p hp => ?_⟩
    have rp : RowsAt b H 20 0 p [] (upd H p (.lst [])) := RowsAt.nil S.cell hp
    refine ⟨(by show 3 ≤ sizeLine; decide), fun l hl => ?_⟩
    have hlp : l ≠ p := fun z => by
      rw [z, upd_same] at hl
      cases hl
    have hl0 : H l = none := by rw [upd_ne hlp] at hl; exact hl
    have r3 := rp.step ((Go.refl rp.go.cell).new (o := .lst ((["util", "core", "net"] : List Str).map V.str)) hl)
    refine ⟨l, rfl, ⟨_, SqL.of upd_same⟩, for_list (K := K) (a := l) (xs := (["util", "core", "net"] : List Str).map V.str) (fun j σ H1 => ∃ (xs : List Str) (k3 : Option V), σ = [some (.ref a), some (.ref b), some (.ref p), k3] ∧ RowsAt b H 20 j p xs H1 ∧ Strs H1 l ["util", "core", "net"])
        ⟨[], _, rfl, r3, upd_same⟩ (fun i σ H1 _ ⟨_, _, _, _, z⟩ => SqL.of z) ?_ ?_⟩
    · rintro j x σ H3 hj ⟨xs, k3, rfl, r, hs⟩
      obtain ⟨v, hv, rfl⟩ := List.mem_map.mp (List.mem_of_getElem? hj)
      have hv : Sg 4 v := sg_mem hv (by decide +kernel)
      have jl : j < 3 := (List.getElem?_eq_some_iff.mp hj).1
      refine ⟨_, rfl, _, rfl, a, b, ns, 3, rfl, S.go r.go, by decide, fun d H6 g6 _ _ => ?_⟩
      have hs := hs.go r.go.cell g6
      have r := r.step g6
      refine ⟨rfl, _, rfl, ite2 (fun _ => ?_) (fun _ => ⟨_, _, rfl, r.mono (by omega), hs⟩)⟩
      have q1 := (sg_of (m := 5) (x := "need ") (by decide +kernel)).cat hv
      refine ⟨_, rfl, .inl ⟨rfl, _, SqL.of r.at_⟩, _, rfl, _, _, rfl, rfl, (sg_of (m := 5) (by decide +kernel)).sz hv, ?_⟩
      refine ⟨(by show 2 ≤ sizeLine; decide), fun l2 hl => ⟨_, rfl, _, rfl, a, b, ns, 2, rfl, S.go (r.go.new hl), by decide, fun d H8 g8 d0 d1 => ?_⟩⟩
      obtain ⟨z, hz, ez⟩ := strs_at (xs := ([" 1 ", " 2 "] : List Str)) d0 d1
      have gl := (Go.refl r.go.cell).new (o := .lst (([" 1 ", " 2 "] : List Str).map V.str)) hl
      have r8 := (r.step gl).step g8
      have hs := (hs.go r.go.cell gl).go gl.cell g8
      have hz : Sg 3 z := sg_mem hz (by decide +kernel)
      refine ⟨l2, _, d, _, rfl, rfl, SqL.of (strs_new r.go.cell (by assumption) g8), ez, _, _, rfl, rfl, q1.sz hz, ?_⟩
      refine ⟨(by show 4 ≤ sizeLine; decide), fun l2 hl => ⟨_, rfl, _, rfl, a, b, ns, 4, rfl, S.go (r8.go.new hl), by decide, fun d H9 g9 d0 d1 => ?_⟩⟩
      obtain ⟨y, hy, ey⟩ := strs_at (xs := (["2", "3", "4", "9"] : List Str)) d0 d1
      have gl := (Go.refl r8.go.cell).new (o := .lst ((["2", "3", "4", "9"] : List Str).map V.str)) hl
      have r9 := (r8.step gl).step g9
      have hs := (hs.go r8.go.cell gl).go gl.cell g9
      have hy : Sg 1 y := sg_mem hy (by decide +kernel)
      exact ⟨l2, _, d, _, rfl, rfl, SqL.of (strs_new r8.go.cell (by assumption) g9), ey, _, _, rfl, rfl, (q1.cat hz).sz hy, p, _, _, rfl, rfl, r9.at_, r9.room, _, _, rfl, r9.app (((q1.cat hz).cat hy).mono (by decide)), by unfold Strs; rw [upd_ne hlp]; exact hs⟩
    · rintro σ H3 ⟨xs, k3, rfl, r, _⟩
      have r : RowsAt b H 20 3 p xs H3 := r
      refine ⟨_, rfl, _, rfl, a, b, ns, 5, rfl, S.go r.go, by decide, fun z H4 g4 _ _ => ?_⟩
      have r := r.step g4
      refine ⟨_, _, rfl, rfl, _, rfl, ite2 (fun _ => ?_) (fun _ => ?_)⟩
      · exact ⟨_, rfl, kk p xs H4 (r.mono (by omega))⟩
      · refine ⟨_, rfl, _, rfl, p, _, rfl, SqL.of r.at_, fun q1 hq1 => ?_⟩
        obtain ⟨m1, e1, l1, s1⟩ := cut_strs xs none (some 1)
        rw [e1]
        have g5 := (Go.refl r.go.cell).new (o := .lst (m1.map V.str)) hq1
        have r1 : RowsAt b H 20 3 q1 m1 (upd H4 q1 (.lst (m1.map V.str))) := ⟨r.go.trans g5, r.go.free hq1, upd_same, Nat.le_trans l1 (Nat.le_trans r.few (by omega)), fun y hy => r.sg y (s1 y hy)⟩
        have r2 := r.step g5
        refine ⟨(by show 1 ≤ sizeLine; decide), fun q2 hq2 => ?_⟩
        have g6 := (Go.refl r2.go.cell).new (o := .lst (([""] : List Str).map V.str)) hq2
        have r3 := r1.step g6
        have r4 := r2.step g6
        refine ⟨q1, q2, _, _, rfl, rfl, r3.at_, upd_same, r3.cat_sz (ys := ([""] : List Str)) (k := 1) (by decide), fun q3 hq3 => ?_⟩
        have r5 := r3.cat (ys := ([""] : List Str)) (k := 1) (by decide) (fun y hy => by rw [List.mem_singleton.mp hy]; exact sg_of (by decide +kernel)) hq3
        have r6 := r4.step ((Go.refl r4.go.cell).new (o := .lst (m1.map V.str ++ ([""] : List Str).map V.str)) hq3)
        refine ⟨_, rfl, _, rfl, p, _, rfl, SqL.of r6.at_, fun q4 hq4 => ?_⟩
        obtain ⟨m2, e2, l2, s2⟩ := cut_strs xs (some 1) none
        rw [e2]
        have r7 := r5.step ((Go.refl r5.go.cell).new (o := .lst (m2.map V.str)) hq4)
        have hm2 : m2.length ≤ 3 := Nat.le_trans l2 (Nat.le_trans r.few (by omega))
        refine ⟨q3, q4, _, _, rfl, rfl, r7.at_, upd_same, r7.cat_sz (ys := m2) (k := 3) hm2, fun q5 hq5 => ?_⟩
        exact kk q5 _ _ ((r7.cat (ys := m2) (k := 3) hm2 (fun y hy => r.sg y (s2 y hy)) hq5).mono (by omega))
end
end Kl

namespace Kl
open PySem L2 Kd
/-! files by their paths -/
abbrev Fs := List (Str × Str)
section
variable {α : Type}
def valF (fs : List (Str × α)) (p : Str) : Option α := (fs.find? fun q => decide (q.1 = p)).map (·.2)
def putF (fs : List (Str × α)) (p : Str) (c : α) : List (Str × α) := if (fs.any fun q => decide (q.1 = p)) then fs.map (fun q => if q.1 = p then (q.1, c) else q) else fs ++ [(p, c)]
def dropF (fs : List (Str × α)) (p : Str) : List (Str × α) := fs.filter fun q => decide (q.1 ≠ p)
def kvG (f : α → V) (fs : List (Str × α)) : List (Key × V) := fs.map fun q => (Sum.inr q.1, f q.2)
abbrev kvF (fs : Fs) : List (Key × V) := kvG V.str fs
variable (f : α → V)
theorem kvF_any (p : Str) (fs : List (Str × α)) : ((kvG f fs).any fun q => decide (q.1 = Sum.inr p)) = fs.any fun q => decide (q.1 = p) := by
  unfold kvG
  rw [List.any_map]
  congr 1
  funext q
  simp
theorem valF_pos {q : Str × α} {r : List (Str × α)} {p : Str} (e : q.1 = p) : valF (q :: r) p = some q.2 := by simp [valF, List.find?_cons, e]
theorem valF_neg {q : Str × α} {r : List (Str × α)} {p : Str} (e : ¬ q.1 = p) : valF (q :: r) p = valF r p := by simp [valF, List.find?_cons, e]
theorem kvF_val (fs : List (Str × α)) (p : Str) : valV (kvG f fs) (Sum.inr p) = (valF fs p).map f := by
  induction fs with
  | nil => rfl
  | cons q r ih =>
    by_cases e : q.1 = p
    · have h1 : valV (kvG f (q :: r)) (Sum.inr p) = some (f q.2) := valV_pos (p := (Sum.inr q.1, f q.2)) (r := kvG f r) (by rw [e])
      rw [h1, valF_pos e]
      rfl
    · have h1 : valV (kvG f (q :: r)) (Sum.inr p) = valV (kvG f r) (Sum.inr p) := valV_neg (p := (Sum.inr q.1, f q.2)) (r := kvG f r) (by simpa using e)
      rw [h1, ih, valF_neg e]
theorem kvF_put (fs : List (Str × α)) (p : Str) (c : α) : putK (kvG f fs) (Sum.inr p) (f c) = kvG f (putF fs p c) := by
  unfold putK putF
  rw [kvF_any]
  split
  · unfold kvG
    rw [List.map_map, List.map_map]
    congr 1
    funext q
    simp only [Function.comp]
    by_cases e : q.1 = p
    · simp [e]
    · simp [e]
  · unfold kvG
    rw [List.map_append]
    rfl
theorem kvF_drop (fs : List (Str × α)) (p : Str) : dropK (kvG f fs) (Sum.inr p) = kvG f (dropF fs p) := by
  unfold dropK dropF kvG
  rw [List.filter_map]
  congr 1
  congr 1
  funext q
  simp
theorem kvF_keys (fs : List (Str × α)) : (kvG f fs).map (·.1) = (fs.map (·.1)).map Sum.inr := by
  unfold kvG
  rw [List.map_map, List.map_map]
  rfl
variable {f}
theorem valF_map (p j : Str) (c : α) : ∀ fs : List (Str × α), valF (fs.map (fun q => if q.1 = p then (q.1, c) else q)) j = (valF fs j).map fun x => if j = p then c else x
  | [] => rfl
  | q :: r => by
    have ih := valF_map p j c r
    rw [List.map_cons]
    by_cases e : q.1 = j
    · rw [valF_pos (q := q) e]
      by_cases ep : q.1 = p
      · have ejp : j = p := by rw [← e, ep]
        simp [ep, ejp, valF]
      · have ejp : ¬ j = p := by rw [← e]; exact ep
        rw [if_neg ep, valF_pos e]
        simp [ejp]
    · rw [valF_neg (q := q) e, ← ih]
      by_cases ep : q.1 = p
      · rw [if_pos ep]
        exact valF_neg (q := (q.1, c)) e
      · rw [if_neg ep]
        exact valF_neg e
theorem valF_snoc (p j : Str) (c : α) : ∀ fs : List (Str × α), valF (fs ++ [(p, c)]) j = (valF fs j).or (if p = j then some c else none)
  | [] => by
    by_cases e : p = j
    · rw [if_pos e]
      exact valF_pos (q := (p, c)) e
    · rw [if_neg e]
      exact valF_neg (q := (p, c)) (r := []) e
  | q :: r => by
    have ih := valF_snoc p j c r
    by_cases e : q.1 = j
    · rw [List.cons_append, valF_pos e, valF_pos e]
      rfl
    · rw [List.cons_append, valF_neg e, valF_neg e, ih]
theorem valF_put (fs : List (Str × α)) (p j : Str) (c : α) : valF (putF fs p c) j = if j = p then some c else valF fs j := by
  have hp : (fs.any fun q => decide (q.1 = p)) = (valF fs p).isSome := by
    unfold valF
    rw [Option.isSome_map, Bool.eq_iff_iff, List.any_eq_true, List.find?_isSome]
  unfold putF
  rw [hp]
  cases hv : valF fs p with
  | none =>
    rw [if_neg (by simp), valF_snoc]
    by_cases e : j = p
    · rw [e, hv]
      simp
    · rw [if_neg (fun z => e z.symm), if_neg e, Option.or_none]
  | some x =>
    rw [if_pos (by simp), valF_map]
    by_cases e : j = p
    · rw [if_pos e, e, hv]
      simp
    · simp [e]
theorem valF_some {fs : List (Str × α)} {p : Str} {c : α} (h : valF fs p = some c) : (p, c) ∈ fs := by
  unfold valF at h
  rw [Option.map_eq_some_iff] at h
  obtain ⟨q, hq, rfl⟩ := h
  have h1 := List.find?_some hq
  have h2 := List.mem_of_find?_eq_some hq
  have h3 : q.1 = p := of_decide_eq_true h1
  rw [← h3]
  exact h2
theorem valF_none {fs : List (Str × α)} {p : Str} (h : valF fs p = none) : p ∉ fs.map (·.1) := by
  intro hm
  obtain ⟨q, hq, e⟩ := List.mem_map.mp hm
  unfold valF at h
  rw [Option.map_eq_none_iff, List.find?_eq_none] at h
  exact h q hq (decide_eq_true e)
theorem valF_mem {fs : List (Str × α)} (nd : (fs.map (·.1)).Nodup) {p : Str} {c : α} (h : (p, c) ∈ fs) : valF fs p = some c := by
  induction fs with
  | nil => cases h
  | cons q r ih =>
    rw [List.map_cons, List.nodup_cons] at nd
    rcases List.mem_cons.mp h with e | h
    · subst e
      simp [valF]
    · have e : q.1 ≠ p := fun z => nd.1 (List.mem_map.mpr ⟨_, h, z.symm⟩)
      have := ih nd.2 h
      simpa [valF, List.find?_cons, e] using this
theorem valF_isSome {fs : List (Str × α)} {p : Str} : (valF fs p).isSome = true ↔ p ∈ fs.map (·.1) := by
  constructor
  · intro h
    obtain ⟨c, hc⟩ := Option.isSome_iff_exists.mp h
    exact List.mem_map.mpr ⟨_, valF_some hc, rfl⟩
  · intro h
    cases e : valF fs p with
    | none => exact absurd h (valF_none e)
    | some c => rfl
end
/-! the order of texts -/
def Lt (x y : Str) : Prop := x.cps.toList < y.cps.toList
instance (x y : Str) : Decidable (Lt x y) := inferInstanceAs (Decidable (x.cps.toList < y.cps.toList))
theorem Lt.irrefl (x : Str) : ¬ Lt x x := List.lt_irrefl _
theorem Lt.trans {x y z : Str} (a : Lt x y) (b : Lt y z) : Lt x z := List.lt_trans a b
theorem Lt.ne {x y : Str} (a : Lt x y) : x ≠ y := fun e => Lt.irrefl y (by rw [e] at a; exact a)
theorem Lt.tri {x y : Str} (a : ¬ Lt y x) (n : x ≠ y) : Lt x y := by
  have h : x.cps.toList ≤ y.cps.toList := a
  rcases List.le_iff_lt_or_eq.mp h with h | h
  · exact h
  · exact absurd (TL.ext_tl h) n
abbrev Asc (xs : List Str) : Prop := xs.Pairwise Lt
theorem Asc.nodup {xs : List Str} (h : Asc xs) : xs.Nodup := h.imp fun a => Lt.ne a
theorem rising_asc : ∀ {xs : List Str} {p : Str}, PyProof.Rows.risingS p xs = true → (p :: xs).Nodup → Asc (p :: xs)
  | [], p, _, _ => List.pairwise_singleton _ _
  | x :: r, p, h, nd => by
    have h' : (!PySem.Spec.ltCps x.cps.toList p.cps.toList && PyProof.Rows.risingS x r) = true := h
    rw [Bool.and_eq_true, Bool.not_eq_true', PyProof.Rows.ltCps_eq] at h'
    have nd' := List.nodup_cons.mp nd
    have ih := rising_asc h'.2 nd'.2
    have hpx : Lt p x := Lt.tri (of_decide_eq_false h'.1) fun e => nd'.1 (by rw [e]; exact List.mem_cons_self ..)
    refine List.pairwise_cons.mpr ⟨fun y hy => ?_, ih⟩
    rcases List.mem_cons.mp hy with rfl | hy
    · exact hpx
    · exact hpx.trans ((List.pairwise_cons.mp ih).1 y hy)
theorem asc_of {xs : List Str} (h : PyProof.Rows.sortedS xs = true) (nd : xs.Nodup) : Asc xs := by
  cases xs with
  | nil => exact List.Pairwise.nil
  | cons p r => exact rising_asc h nd
/-- two rising rows of the same texts are one -/
theorem Asc.unique : ∀ {xs ys : List Str}, Asc xs → Asc ys → (∀ p, p ∈ xs ↔ p ∈ ys) → xs = ys
  | [], [], _, _, _ => rfl
  | [], y :: r, _, _, h => absurd ((h y).mpr (List.mem_cons_self ..)) (by simp)
  | x :: r, [], _, _, h => absurd ((h x).mp (List.mem_cons_self ..)) (by simp)
  | x :: r, y :: q, a, b, h => by
    have a' := List.pairwise_cons.mp a
    have b' := List.pairwise_cons.mp b
    have e : x = y := by
      rcases List.mem_cons.mp ((h x).mp (List.mem_cons_self ..)) with e | hx
      · exact e
      · rcases List.mem_cons.mp ((h y).mpr (List.mem_cons_self ..)) with e | hy
        · exact e.symm
        · exact absurd ((a'.1 y hy).trans (b'.1 x hx)) (Lt.irrefl _)
    subst e
    have : r = q := Asc.unique a'.2 b'.2 fun p => by
      constructor
      · intro hp
        rcases List.mem_cons.mp ((h p).mp (List.mem_cons_of_mem _ hp)) with e | hq
        · subst e
          exact absurd (a'.1 _ hp) (Lt.irrefl _)
        · exact hq
      · intro hp
        rcases List.mem_cons.mp ((h p).mpr (List.mem_cons_of_mem _ hp)) with e | hq
        · subst e
          exact absurd (b'.1 _ hp) (Lt.irrefl _)
        · exact hq
    rw [this]
/-- rising files with the same content at each path are one -/
theorem fs_unique {α : Type} {fs gs : List (Str × α)} (a : Asc (fs.map (·.1))) (b : Asc (gs.map (·.1))) (h : ∀ p, valF fs p = valF gs p) : fs = gs := by
  have e : fs.map (·.1) = gs.map (·.1) := a.unique b fun p => by rw [← valF_isSome, ← valF_isSome, h]
  have hl : fs.length = gs.length := by simpa using congrArg List.length e
  refine List.ext_getElem hl fun i h1 h2 => ?_
  have e1 : (fs[i]).1 = (gs[i]).1 := by
    have := congrArg (fun l => l[i]?) e
    simpa [h1, h2] using this
  have v1 := valF_mem a.nodup (p := (fs[i]).1) (c := (fs[i]).2) (List.getElem_mem h1)
  have v2 := valF_mem b.nodup (p := (gs[i]).1) (c := (gs[i]).2) (List.getElem_mem h2)
  rw [h, e1] at v1
  rw [v1] at v2
  exact Prod.ext e1 (Option.some.inj v2)
theorem putF_keys {α : Type} (fs : List (Str × α)) (p : Str) (c : α) : (putF fs p c).map (·.1) = if p ∈ fs.map (·.1) then fs.map (·.1) else fs.map (·.1) ++ [p] := by
  unfold putF
  by_cases h : p ∈ fs.map (·.1)
  · have h1 : (fs.any fun q => decide (q.1 = p)) = true := by
      obtain ⟨q, hq, e⟩ := List.mem_map.mp h
      exact List.any_eq_true.mpr ⟨q, hq, decide_eq_true e⟩
    rw [if_pos h, if_pos h1, List.map_map]
    congr 1
    funext q
    simp only [Function.comp]
    split <;> rfl
  · have h1 : ¬ (fs.any fun q => decide (q.1 = p)) = true := fun z => by
      obtain ⟨q, hq, e⟩ := List.any_eq_true.mp z
      exact h (List.mem_map.mpr ⟨q, hq, of_decide_eq_true e⟩)
    rw [if_neg h, if_neg h1, List.map_append]
    rfl
theorem putF_nodup {α : Type} {fs : List (Str × α)} {p : Str} {c : α} (nd : (fs.map (·.1)).Nodup) : ((putF fs p c).map (·.1)).Nodup := by
  rw [putF_keys]
  split
  · exact nd
  · rename_i h
    rw [List.nodup_append]
    exact ⟨nd, by simp, fun a ha b hb => by
      rw [List.mem_singleton.mp hb]
      exact fun e => h (by rw [← e]; exact ha)⟩
theorem putF_mem {α : Type} {fs : List (Str × α)} {p : Str} {c : α} {q : Str × α} (h : q ∈ putF fs p c) : q = (p, c) ∨ q ∈ fs := by
  unfold putF at h
  split at h
  · obtain ⟨z, hz, e⟩ := List.mem_map.mp h
    split at e
    · rename_i hz1
      exact .inl (by rw [← e, hz1])
    · exact .inr (by rw [← e]; exact hz)
  · rcases List.mem_append.mp h with h | h
    · exact .inr h
    · exact .inl (List.mem_singleton.mp h)
theorem dropF_sub {α : Type} {fs : List (Str × α)} {p : Str} {q : Str × α} (h : q ∈ dropF fs p) : q ∈ fs := (List.mem_filter.mp h).1
theorem dropF_nodup {α : Type} {fs : List (Str × α)} {p : Str} (nd : (fs.map (·.1)).Nodup) : ((dropF fs p).map (·.1)).Nodup := by
  have : ((dropF fs p).map (·.1)).Sublist (fs.map (·.1)) := List.Sublist.map _ List.filter_sublist
  exact this.nodup nd
theorem valF_drop {α : Type} (fs : List (Str × α)) (p j : Str) : valF (dropF fs p) j = if j = p then none else valF fs j := by
  induction fs with
  | nil => simp [valF, dropF]
  | cons q r ih =>
    unfold dropF at ih ⊢
    by_cases e : q.1 = p
    · rw [List.filter_cons_of_neg (by simp [e]), ih]
      by_cases ej : j = p
      · simp [ej]
      · rw [if_neg ej, if_neg ej]
        have : q.1 ≠ j := fun z => ej (by rw [← z, e])
        simp [valF, List.find?_cons, this]
    · rw [List.filter_cons_of_pos (by simp [e])]
      by_cases eq : q.1 = j
      · have : j ≠ p := fun z => e (by rw [eq, z])
        rw [if_neg this]
        simp [valF, List.find?_cons, eq]
      · have h1 : valF (q :: List.filter (fun q => decide (q.fst ≠ p)) r) j = valF (List.filter (fun q => decide (q.fst ≠ p)) r) j := by simp [valF, List.find?_cons, eq]
        have h2 : valF (q :: r) j = valF r j := by simp [valF, List.find?_cons, eq]
        rw [h1, ih, h2]
/-- by the rising row of its paths -/
def sortF {α : Type} [Inhabited α] (fs : List (Str × α)) (ks : List Str) : List (Str × α) := ks.map fun p => (p, (valF fs p).getD default)
theorem sortF_keys {α : Type} [Inhabited α] (fs : List (Str × α)) (ks : List Str) : (sortF fs ks).map (·.1) = ks := by
  unfold sortF
  rw [List.map_map]
  exact List.map_id' ks
theorem valF_sortF {α : Type} [Inhabited α] {fs : List (Str × α)} : ∀ {ks : List Str} (p : Str), valF (sortF fs ks) p = if p ∈ ks then some ((valF fs p).getD default) else none
  | [], p => by simp [sortF, valF]
  | k :: r, p => by
    have ih := valF_sortF (fs := fs) (ks := r) p
    unfold sortF at ih ⊢
    by_cases e : k = p
    · subst e
      simp [valF]
    · have h1 : valF (List.map (fun p => (p, (valF fs p).getD default)) (k :: r)) p = valF (List.map (fun p => (p, (valF fs p).getD default)) r) p := by simp [valF, List.find?_cons, e]
      rw [h1, ih]
      have : (p ∈ k :: r) ↔ p ∈ r := by
        rw [List.mem_cons]
        exact ⟨fun h => h.resolve_left fun z => e z.symm, .inr⟩
      simp only [this]
theorem sortF_val {α : Type} [Inhabited α] {fs : List (Str × α)} {ks : List Str} (h : ks.Perm (fs.map (·.1))) (p : Str) : valF (sortF fs ks) p = valF fs p := by
  rw [valF_sortF]
  by_cases e : p ∈ ks
  · rw [if_pos e]
    have := valF_isSome.mpr (h.mem_iff.mp e)
    obtain ⟨c, hc⟩ := Option.isSome_iff_exists.mp this
    rw [hc]
    rfl
  · rw [if_neg e]
    cases hv : valF fs p with
    | none => rfl
    | some c => exact absurd (h.mem_iff.mpr (valF_isSome.mp (by rw [hv]; rfl))) e
theorem kvF_put' (fs : Fs) (p c : Str) : putK (kvF fs) (Sum.inr p) (.str c) = kvF (putF fs p c) := kvF_put V.str fs p c
theorem kvF_val' (fs : Fs) (p : Str) : valV (kvF fs) (Sum.inr p) = (valF fs p).map V.str := kvF_val V.str fs p
theorem kvF_drop' (fs : Fs) (p : Str) : dropK (kvF fs) (Sum.inr p) = kvF (dropF fs p) := kvF_drop V.str fs p
theorem kvF_keys' (fs : Fs) : (kvF fs).map (·.1) = (fs.map (·.1)).map Sum.inr := kvF_keys V.str fs
end Kl

namespace Kl
open PySem L2 Kd
abbrev allPaths : List Str := ["app/main", "app/side", "app/sub/deep", "appx/z", "build/a", "build/b", "build/c", "build/lib/b", "builds/a", "doc/more", "doc/new", "doc/note", "fleet/places", "own/rules", "pack/goals", "set/all", "set/b", "set/eu/west", "sets/a"]
theorem nodup_le {α : Type} [DecidableEq α] : ∀ {xs ys : List α}, xs.Nodup → (∀ x ∈ xs, x ∈ ys) → xs.length ≤ ys.length
  | [], _, _, _ => Nat.zero_le _
  | x :: r, ys, nd, h => by
    have nd' := List.nodup_cons.mp nd
    have ih := nodup_le (xs := r) (ys := ys.erase x) nd'.2 fun z hz => (List.mem_erase_of_ne (fun e => nd'.1 (by rw [← e]; exact hz))).mpr (h z (List.mem_cons_of_mem _ hz))
    have hx := h x (List.mem_cons_self ..)
    have := List.length_erase_of_mem hx
    have : 0 < ys.length := List.length_pos_of_mem hx
    rw [List.length_cons]
    omega
structure FOk (fs : Fs) : Prop where
  nd : (fs.map (·.1)).Nodup
  path : ∀ q ∈ fs, q.1 ∈ allPaths
  ct : ∀ q ∈ fs, Ct 1000 q.2
theorem FOk.few {fs : Fs} (h : FOk fs) : fs.length ≤ 20 := by
  have := nodup_le (ys := allPaths) h.nd fun p hp => by
    obtain ⟨q, hq, e⟩ := List.mem_map.mp hp
    rw [← e]
    exact h.path q hq
  rw [List.length_map] at this
  exact Nat.le_trans this (by decide)
theorem FOk.nil : FOk [] := ⟨List.nodup_nil, fun _ h => (nomatch h), fun _ h => (nomatch h)⟩
theorem FOk.put {fs : Fs} (h : FOk fs) {p c : Str} (hp : p ∈ allPaths) (hc : Ct 1000 c) : FOk (putF fs p c) := by
  refine ⟨putF_nodup h.nd, fun q hq => ?_, fun q hq => ?_⟩
  · rcases putF_mem hq with e | e
    · rw [e]
      exact hp
    · exact h.path q e
  · rcases putF_mem hq with e | e
    · rw [e]
      exact hc
    · exact h.ct q e
theorem FOk.drop {fs : Fs} (h : FOk fs) {p : Str} : FOk (dropF fs p) := ⟨dropF_nodup h.nd, fun q hq => h.path q (dropF_sub hq), fun q hq => h.ct q (dropF_sub hq)⟩
theorem FOk.sort {fs : Fs} (h : FOk fs) {ks : List Str} (hk : ks.Perm (fs.map (·.1))) : FOk (sortF fs ks) := by
  have hv : ∀ q ∈ sortF fs ks, q ∈ fs := fun q hq => by
    obtain ⟨p, hp, e⟩ := List.mem_map.mp hq
    obtain ⟨c, hc⟩ := Option.isSome_iff_exists.mp (valF_isSome.mpr (hk.mem_iff.mp hp))
    rw [hc] at e
    rw [← e]
    exact valF_some hc
  exact ⟨by rw [sortF_keys]; exact hk.nodup_iff.mpr h.nd, fun q hq => h.path q (hv q hq), fun q hq => h.ct q (hv q hq)⟩
theorem putF_ne (fs : Fs) (p c : Str) : putF fs p c ≠ [] := fun h => by
  have := putF_keys fs p c
  rw [h] at this
  split at this
  · rename_i hm
    rw [← this] at hm
    cases hm
  · exact absurd (congrArg List.length this) (by simp)
/-- a dict of files at dd, made since H0 -/
structure FilesAt (b : Addr) (H0 : Hp) (dd : Addr) (fs : Fs) (H : Hp) : Prop where
  go : Go b H0 H
  new : H0 dd = none
  at_ : H dd = some (.dK (kvF fs))
  ok : FOk fs
theorem FilesAt.ne {b : Addr} {H0 H : Hp} {dd : Addr} {fs : Fs} (r : FilesAt b H0 dd fs H) : b ≠ dd := fun z => by
  obtain ⟨i, _, q⟩ := r.go.cell
  rw [z, r.at_] at q
  cases q
theorem FilesAt.step {b : Addr} {H0 H H' : Hp} {dd : Addr} {fs : Fs} (r : FilesAt b H0 dd fs H) (g : Go b H H') : FilesAt b H0 dd fs H' :=
  ⟨r.go.trans g, r.new, g.keep _ _ (Ne.symm r.ne) r.at_, r.ok⟩
theorem FilesAt.put {b : Addr} {H0 H : Hp} {dd : Addr} {fs : Fs} (r : FilesAt b H0 dd fs H) {p c : Str} (hp : p ∈ allPaths) (hc : Ct 1000 c) : FilesAt b H0 dd (putF fs p c) (upd H dd (.dK (kvF (putF fs p c)))) :=
  ⟨r.go.mut r.new r.ne, r.new, upd_same, r.ok.put hp hc⟩
theorem FilesAt.dput {b : Addr} {H0 H : Hp} {dd : Addr} {fs : Fs} (r : FilesAt b H0 dd fs H) {p c : Str} : DPut H dd (.str p) (.str c) (upd H dd (.dK (kvF (putF fs p c)))) := by
  rw [← kvF_put']
  refine DPut.k (k := Sum.inr p) r.at_ ?_
  unfold kvF kvG
  rw [List.length_map]
  exact small_lt (by have := r.ok.few; omega)
theorem FilesAt.dget {b : Addr} {H0 H : Hp} {dd : Addr} {fs : Fs} (r : FilesAt b H0 dd fs H) {p c : Str} (h : valF fs p = some c) : DGet H dd (.str p) (some (.str c)) := by
  have := DGet.k (k := Sum.inr p) r.at_
  rw [kvF_val', h] at this
  exact this
def pairD (q : Str × Str) : D := .tup [.str q.1, .str q.2]
def filesD (fs : Fs) : D := .tup (fs.map pairD)
theorem pair_rep {H : Hp} {t : Addr} {p c : Str} (h : H t = some (.tup [.str p, .str c])) : Rep H (pairD (p, c)) (.ref t) :=
  ⟨t, _, rfl, .inl h, by show 2 ≤ sizeLine; decide, .str p, [.str c], rfl, rfl, .str c, [], rfl, rfl, rfl⟩
theorem Tk.of {H : Hp} {p : Addr} {u o : HO} (h : H p = some u) (n : ∀ xs, u ≠ .tup xs) (n2 : ∀ o xs, u ≠ .frz o (.tup xs)) : Tk H (upd H p o) := fun a ys e => e.imp
    (fun e => by rw [upd_ne (ne_of e h (fun z => n ys z.symm))]; exact e)
    (fun ⟨o2, e⟩ => ⟨o2, by rw [upd_ne (ne_of e h (fun z => n2 o2 ys z.symm))]; exact e⟩)
/-- a pair of a path and its rows -/
structure OtherAt (H : Hp) (v : V) (t : Addr) (nm : Str) (p : Addr) (xs : List Str) : Prop where
  v_ : v = .ref t
  tup : H t = some (.tup [.str nm, .ref p])
  rows : Strs H p xs
  few : xs.length ≤ 1000
  sg : ∀ x ∈ xs, Sg 400 x
  path : nm ∈ allPaths
  ct : Ct 1000 (contentOf xs)
abbrev Other (H : Hp) (v : V) : Prop := ∃ (t : Addr) (nm : Str) (p : Addr) (xs : List Str), OtherAt H v t nm p xs
theorem Other.go {b : Addr} {H H' : Hp} {v : V} (h : Other H v) (c : ∃ i : Int, 0 ≤ i ∧ H b = some (.lst [.int i])) (g : Go b H H') : Other H' v := by
  obtain ⟨t, nm, p, xs, o⟩ := h
  exact ⟨t, nm, p, xs, o.v_, g.keep _ _ (fun z => by
    obtain ⟨i, _, q⟩ := c
    have := o.tup
    rw [z, q] at this
    cases this) o.tup, o.rows.go c g, o.few, o.sg, o.path, o.ct⟩
theorem Other.dict {H : Hp} {v : V} {dd : Addr} {kvs : List (Key × V)} {u : HO} (h : Other H v) (e : H dd = some (.dK kvs)) : Other (upd H dd u) v := by
  obtain ⟨t, nm, p, xs, o⟩ := h
  refine ⟨t, nm, p, xs, o.v_, ?_, ?_, o.few, o.sg, o.path, o.ct⟩
  · rw [upd_ne (ne_of o.tup e (fun z => nomatch z))]
    exact o.tup
  · unfold Strs
    rw [upd_ne (ne_of o.rows e (fun z => nomatch z))]
    exact o.rows
theorem Other.mk' {b : Addr} {H0 H : Hp} {m n : Nat} {p t : Addr} {nm : Str} {xs : List Str} (r : RowsAt b H0 m n p xs H) (ht : H t = none) (hp : nm ∈ allPaths) (hm : m ≤ 400) (hn : n ≤ 1000) (hk : n * (m + 1) ≤ 1000) : Other (upd H t (.tup [.str nm, .ref p])) (.ref t) :=
  ⟨t, nm, p, xs, rfl, upd_same, by unfold Strs; rw [upd_ne (ne_of_none r.at_ ht)]; exact r.at_, Nat.le_trans r.few hn, fun x hx => (r.sg x hx).mono hm, hp, content_ct r.few r.sg hk⟩
/-- a drawn tree -/
def spTree (K : PySem.W.Frag) : Sp := fun vs H Q _ => ∃ (a b : Addr) (ns : List Int), vs = [.ref a, .ref b] ∧ Sp0 K a b ns H ∧
  ∀ (v : V) (fs : Fs) (H' : Hp), Go b H H' → Rep H' (filesD fs) v → FOk fs → Asc (fs.map (·.1)) → fs ≠ [] → Q v H'
abbrev rLenQ (K : PySem.W.Frag) : List V → Hp → VK → Prop := fun xs H Q => ∃ p ys, xs = [.ref p] ∧ (SqL K H p ys ∨ SqT K H p ys) ∧ Q (.int ys.length) H
theorem cut_take (xs : List Str) (i : Nat) : cutV (xs.map V.str) none (some (i : Int)) = (xs.take i).map V.str := by
  unfold cutV
  rw [HT.sIx_none, HT.sIx_nat, List.drop_zero, ← List.map_take, List.length_map, Nat.sub_zero]
  congr 1
  by_cases h : i ≤ xs.length
  · rw [Nat.min_eq_left h]
  · rw [Nat.min_eq_right (by omega), List.take_of_length_le (Nat.le_refl _), List.take_of_length_le (by omega)]
theorem cut_drop (xs : List Str) (i : Nat) : cutV (xs.map V.str) (some (i : Int)) none = (xs.drop i).map V.str := by
  unfold cutV
  rw [HT.sIx_none, HT.sIx_nat, ← List.map_drop, List.length_map, ← List.map_take]
  congr 1
  by_cases h : i ≤ xs.length
  · rw [Nat.min_eq_left h, List.take_of_length_le (by rw [List.length_drop] <;> exact Nat.le_refl _)]
  · rw [Nat.min_eq_right (by omega), List.drop_of_length_le (Nat.le_refl _), List.drop_of_length_le (by omega), List.take_nil]
section
variable {P : Program} {w : World} {K : PySem.W.Frag} {mg : Str → Option Value} {base : Heap}
abbrev s_l_tree : Stmt := topS 43
theorem sc_l_tree : FnScope ["row", "spot", "files", "path", "rows", "cut", "others", "pair", "k"] ["row", "spot"] (defScope s_l_tree) := ⟨rfl, rfl, rfl, by decide +kernel, rfl, by decide +kernel, by decide +kernel⟩
theorem ok_tree {f : Addr} {fd : FuncData} (F : Fun K "_law_tree" "_law_tree" s_l_tree f fd) (T : Glo mg) (c_l_take : C8.Cal P w K mg base 2 "_law_take" (spTk K) []) (c_l_text : C8.Cal P w K mg base 3 "_law_text" (spText K) [])
    (c_l_rule_rows : C8.Cal P w K mg base 7 "_law_rule_rows" (spRules K) []) (c_l_content : C8.Cal P w K mg base 1 "_law_content" (spContent K) []) (c_l_setting_rows : C8.Cal P w K mg base 3 "_law_setting_rows" (spRows K 20 25) [])
    (c_l_place_rows : C8.Cal P w K mg base 3 "_law_place_rows" (spRows K 28 25) []) (c_l_own_rows : C8.Cal P w K mg base 3 "_law_own_rows" (spRows K 40 7) []) (c_l_goal_rows : C8.Cal P w K mg base 3 "_law_goal_rows" (spRows K 20 7) []) :
    FnOk P w K mg base CX0 8 f fd ["row", "spot"] (spTree K) := by
  refine F.ok sc_l_tree (fun vs H Q E h => ?_) (fun cdv A outer s H vs Q E hr h => ?_)
  · obtain ⟨a, b, ns, rfl, _⟩ := h
    rfl
  · obtain ⟨a, b, ns, rfl, S, kk⟩ := h
    have hu := hu_of hr
    refine ⟨_, (pss_cons (ps_set (i := 2) sc_l_tree.nd rfl (.inr rfl) (pe_disp (pps_cons pe_str (C8.pe_c c_l_text hr (by omega) (by rfl) (pa_cons (pv 0) (pa_cons (pv 1) pa_nil))) (pps_cons pe_str (C8.pe_c c_l_text hr (by omega) (by rfl) (pa_cons (pv 0) (pa_cons (pv 1) pa_nil))) pps_nil)) (by rfl) (by rfl) (fun z => by cases z) (by decide)))
      (pss_cons (ps_for PassesOwn.never rfl (pi_list (pe_lst (pa_strs rfl))) (pg_name (i := 3) sc_l_tree.nd rfl (.inl rfl))
      (pss_one (ps_if (pt_cmpR op_eq (C8.pe_c c_l_take hr (by omega) (by rfl) (pa_cons (pv 0) (pa_cons (pv 1) (pa_cons pe_int pa_nil)))) pe_int (nomark _))
        (pss_one (ps_dput hu (pv 2) (pv 3) (C8.pe_c c_l_text hr (by omega) (by rfl) (pa_cons (pv 0) (pa_cons (pv 1) pa_nil))) rfl))
        pss_nil)))
      (pss_cons (ps_set (i := 4) sc_l_tree.nd rfl (.inr rfl) (C8.pe_c c_l_rule_rows hr (by omega) (by rfl) (pa_cons (pv 0) (pa_cons (pv 1) (pa_cons (pe_op op_add pe_int (C8.pe_c c_l_take hr (by omega) (by rfl) (pa_cons (pv 0) (pa_cons (pv 1) (pa_cons pe_int pa_nil))))) pa_nil)))))
      (pss_cons (ps_set (i := 4) sc_l_tree.nd rfl (.inr rfl) (pe_ix ix_list (pe_lc (own := [("k", 8)]) (g := gName 8) (tt := _) rfl sc_l_tree.nd (pi_range1 (by rfl) T.range (pa_cons (pe_op op_add (pe_callB call_len_seq (by rfl) T.len PySem.boot_len (pa_cons (pv 4) pa_nil)) pe_int) pa_nil)) (blkOk_by (N := ["row", "spot", "files", "path", "rows", "cut", "others", "pair", "k"]) (sc := defScope s_l_tree) (by decide +kernel)) (fun _ _ _ _ _ => (pg_name (i := 8) sc_l_tree.nd rfl (.inl rfl))) (fun _ _ _ _ _ => (pts_one (pt_cmpR op_le (pe_callB call_len_str (by rfl) T.len PySem.boot_len (pa_cons (C8.pe_c c_l_content hr (by omega) (by rfl) (pa_cons (pe_slice (r := rSlL K) sl_list (pv 4) po_none (po_some (pv 8))) pa_nil)) pa_nil)) pe_int (nomark _)))) (fun _ _ _ _ _ => (pe_slice (r := rSlL K) sl_list (pv 4) po_none (po_some (pv 8))))) (pe_un un_neg pe_int) (fun _ _ => rfl)))
      (pss_cons (ps_set (i := 5) sc_l_tree.nd rfl (.inl rfl) (C8.pe_c c_l_take hr (by omega) (by rfl) (pa_cons (pv 0) (pa_cons (pv 1) (pa_cons (pe_op op_add (pe_callB call_len_seq (by rfl) T.len PySem.boot_len (pa_cons (pv 4) pa_nil)) pe_int) pa_nil)))))
      (pss_cons (ps_dput hu (pv 2) pe_str (C8.pe_c c_l_content hr (by omega) (by rfl) (pa_cons (pe_slice sl_list (pv 4) po_none (po_some (pv 5))) pa_nil)) rfl)
      (pss_cons (ps_dput hu (pv 2) (pe_ix ix_list (pe_lst (pa_strs rfl)) (pe_op op_fdiv (C8.pe_c c_l_take hr (by omega) (by rfl) (pa_cons (pv 0) (pa_cons (pv 1) (pa_cons pe_int pa_nil)))) pe_int) (fun _ _ => rfl)) (C8.pe_c c_l_content hr (by omega) (by rfl) (pa_cons (pe_slice sl_list (pv 4) (po_some (pv 5)) po_none) pa_nil)) rfl)
      (pss_cons (ps_set (i := 6) sc_l_tree.nd rfl (.inl rfl) (pe_lst (pa_cons (pe_tup (pa_cons pe_str (pa_cons (C8.pe_c c_l_setting_rows hr (by omega) (by rfl) (pa_cons (pv 0) (pa_cons (pv 1) pa_nil))) pa_nil))) (pa_cons (pe_tup (pa_cons (pe_ix ix_list (pe_lst (pa_strs rfl)) (C8.pe_c c_l_take hr (by omega) (by rfl) (pa_cons (pv 0) (pa_cons (pv 1) (pa_cons pe_int pa_nil)))) (fun _ _ => rfl)) (pa_cons (C8.pe_c c_l_setting_rows hr (by omega) (by rfl) (pa_cons (pv 0) (pa_cons (pv 1) pa_nil))) pa_nil))) (pa_cons (pe_tup (pa_cons pe_str (pa_cons (C8.pe_c c_l_place_rows hr (by omega) (by rfl) (pa_cons (pv 0) (pa_cons (pv 1) pa_nil))) pa_nil))) pa_nil)))))
      (pss_cons (ps_set (i := 6) sc_l_tree.nd rfl (.inl rfl) (pe_op op_cat (pv 6) (pe_lst (pa_cons (pe_tup (pa_cons pe_str (pa_cons (C8.pe_c c_l_own_rows hr (by omega) (by rfl) (pa_cons (pv 0) (pa_cons (pv 1) pa_nil))) pa_nil))) (pa_cons (pe_tup (pa_cons pe_str (pa_cons (C8.pe_c c_l_goal_rows hr (by omega) (by rfl) (pa_cons (pv 0) (pa_cons (pv 1) pa_nil))) pa_nil))) pa_nil)))))
      (pss_cons (ps_for PassesOwn.never rfl (pi_list (pv 6)) (pg_name (i := 7) sc_l_tree.nd rfl (.inl rfl))
      (pss_one (ps_if (pt_cmpR op_gt (C8.pe_c c_l_take hr (by omega) (by rfl) (pa_cons (pv 0) (pa_cons (pv 1) (pa_cons pe_int pa_nil)))) pe_int (nomark _))
        (pss_one (ps_dput hu (pv 2) (pe_ix ix_tup (pv 7) pe_int (fun _ _ => rfl)) (C8.pe_c c_l_content hr (by omega) (by rfl) (pa_cons (pe_ix ix_tup (pv 7) pe_int (fun _ _ => rfl)) pa_nil)) rfl))
        pss_nil)))
      (pss_one (ps_ret (pe_callTy call_tuple_of (by rfl) T.tuple PyProof.Rows.boot_tuple (pa_cons (pe_lc (own := [("path", 3)]) (g := gName 3) (tt := tYes) rfl sc_l_tree.nd (pi_list (pe_callB (call_sortedD rfl) (by rfl) T.sorted (by decide +kernel) (pa_cons (pv 2) pa_nil))) (blkOk_by (N := ["row", "spot", "files", "path", "rows", "cut", "others", "pair", "k"]) (sc := defScope s_l_tree) (by decide +kernel)) (fun _ _ _ _ _ => (pg_name (i := 3) sc_l_tree.nd rfl (.inl rfl))) (fun _ _ _ _ _ => pts_nil) (fun _ _ _ _ _ => (pe_tup (pa_cons (pv 3) (pa_cons (pe_dget hu (pv 2) (pv 3) (fun _ _ => rfl)) pa_nil))))) pa_nil)))))))))))))), ?_⟩
    refine fun dd hdd => ?_
    have g0 := (Go.refl S.cell).new (o := .dK []) hdd
    refine ⟨_, rfl, _, rfl, a, b, ns, rfl, S.go g0, fun x1 H1 g1 hx1 => ⟨_, rfl, _, rfl, a, b, ns, rfl, S.go (g0.trans g1), fun x2 H2 g2 hx2 => ?_⟩⟩
    have g12 := (g0.trans g1).trans g2
    have hbd : b ≠ dd := fun z => by
      obtain ⟨i, _, q⟩ := S.cell
      rw [z, hdd] at q
      cases q
    have hd2 : H2 dd = some (.dK []) := (g1.trans g2).keep _ _ (Ne.symm hbd) upd_same
    refine ⟨hd2, [(Sum.inr "app/main", .str x1), (Sum.inr "doc/note", .str x2)], rfl, (by show 2 ≤ 15; decide), ?_⟩
    have em : mergeK [] [((Sum.inr "app/main" : Key), V.str x1), ((Sum.inr "doc/note" : Key), V.str x2)] = kvF (putF (putF [] "app/main" x1) "doc/note" x2) := by
      rw [← kvF_put', ← kvF_put']
      rfl
    rw [em]
    have F0 : FilesAt b H dd (putF (putF [] "app/main" x1) "doc/note" x2) (upd H2 dd (.dK (kvF (putF (putF [] "app/main" x1) "doc/note" x2)))) :=
      ⟨g12.mut hdd hbd, hdd, upd_same, (FOk.nil.put (by decide) (ct_mem hx1 (by decide +kernel))).put (by decide) (ct_mem hx2 (by decide +kernel))⟩
    have n0 : putF (putF [] "app/main" x1) "doc/note" x2 ≠ [] := putF_ne _ _ _
    generalize putF (putF [] "app/main" x1) "doc/note" x2 = fs0 at F0 n0 ⊢
    have F1 := F0
    generalize upd H2 dd (.dK (kvF fs0)) = H3 at F1 ⊢
    refine ⟨(by show 6 ≤ sizeLine; decide), fun l hl => ?_⟩
    have hld : l ≠ dd := fun z => by
      rw [z, F1.at_] at hl
      cases hl
    have F2 := F1.step ((Go.refl F1.go.cell).new (o := .lst ((["app/side", "app/sub/deep", "doc/more", "appx/z", "sets/a", "builds/a"] : List Str).map V.str)) hl)
    refine ⟨l, rfl, ⟨_, SqL.of upd_same⟩, for_list (K := K) (a := l) (xs := (["app/side", "app/sub/deep", "doc/more", "appx/z", "sets/a", "builds/a"] : List Str).map V.str)
        (fun j σ H1 => ∃ (fs : Fs) (k3 : Option V), σ = [some (.ref a), some (.ref b), some (.ref dd), k3, none, none, none, none, none] ∧ FilesAt b H dd fs H1 ∧ fs ≠ [] ∧ Strs H1 l ["app/side", "app/sub/deep", "doc/more", "appx/z", "sets/a", "builds/a"])
        ⟨fs0, _, rfl, F2, n0, upd_same⟩ (fun i σ H1 _ ⟨_, _, _, _, _, z⟩ => SqL.of z) ?_ ?_⟩
    · rintro j x σ H4 hj ⟨fs, k3, rfl, G, ne, hs⟩
      obtain ⟨v, hv, rfl⟩ := List.mem_map.mp (List.mem_of_getElem? hj)
      have hv : v ∈ allPaths := mem_sub (by decide) hv
      refine ⟨_, rfl, _, rfl, a, b, ns, 2, rfl, S.go G.go, by decide, fun d H5 g5 _ _ => ?_⟩
      have hs := hs.go G.go.cell g5
      have G := G.step g5
      refine ⟨rfl, _, rfl, ite2 (fun _ => ?_) (fun _ => ⟨_, _, rfl, G, ne, hs⟩)⟩
      refine ⟨_, rfl, _, rfl, a, b, ns, rfl, S.go G.go, fun x6 H6 g6 hx6 => ?_⟩
      have hs := hs.go G.go.cell g6
      have G := G.step g6
      exact ⟨_, rfl, _, rfl, dd, _, rfl, G.dput, _, _, rfl, G.put hv (ct_mem hx6 (by decide +kernel)), putF_ne _ _ _, by unfold Strs; rw [upd_ne hld]; exact hs⟩
    · rintro σ H4 ⟨fs, k3, rfl, G, ne, hs⟩
      refine ⟨_, rfl, _, rfl, _, rfl, _, rfl, a, b, ns, 5, rfl, S.go G.go, by decide, fun d H5 g5 d0 d1 => ?_⟩
      obtain ⟨d, rfl⟩ := Int.eq_ofNat_of_zero_le d0
      have G := G.step g5
      have e1 : [V.ref a, V.ref b, V.int (1 + (d : Int))] = [V.ref a, V.ref b, V.int ((1 + d : Nat) : Int)] := by rw [show ((1 + d : Nat) : Int) = 1 + (d : Int) by omega]
      refine ⟨_, _, rfl, rfl, a, b, ns, 1 + d, e1, S.go G.go, by omega, fun rp xs H6 R0 => ?_⟩
      have G := G.step R0.go
      have R := R0.at_
      have few := R0.few
      have sg := R0.sg
      clear R0
      refine ⟨_, rfl, rp, _, rfl, .inl (SqL.of R), _, _, rfl, rfl, _, rfl, (rng_of (by omega) (by rw [List.length_map]; omega)).1, (rng_of (by omega) (by rw [List.length_map]; omega)).2, fun D hD => ?_⟩
      have g7 := (Go.refl G.go.cell).new (o := .lst []) hD
      have hbD : b ≠ D := fun z => by
        obtain ⟨i, _, q⟩ := G.go.cell
        rw [z, hD] at q
        cases q
      have lc : ∀ m : Nat, (xs.take m).length ≤ 1000 := fun m => Nat.le_trans (List.length_take_le' _ _) (by omega)
      have sgt : ∀ m : Nat, ∀ x ∈ xs.take m, Sg 400 x := fun m x hx => sg x (List.mem_of_mem_take hx)
      have small : ∀ m : Nat, (contentOf (xs.take m)).length ≤ sizeLine := fun m => small_of (Nat.le_trans (content_ct (n := 8) (Nat.le_trans (List.length_take_le' _ _) few) (sgt m) (k := 3208) (by decide)).len (by decide))
      refine lc_range (n := ((((xs.map V.str).length : Int) + 1)).toNat) (fun i H7 => Go b H6 H7 ∧ ∃ vs : List V, H7 D = some (.lst vs) ∧ vs.length ≤ i ∧ (0 < i → ∃ (w : List V) (q : Addr) (m : Nat), vs = w ++ [.ref q] ∧ Strs H7 q (xs.take m) ∧ (contentOf (xs.take m)).length ≤ 1000 ∧ q ≠ D))
        ⟨g7, [], upd_same, Nat.le_refl _, fun h => absurd h (Nat.lt_irrefl _)⟩ ?_ ?_
      · rintro i H7 hi ⟨g, vs, e, hl, hv⟩
        have R7 := R.go G.go.cell g
        have hi' : i ≤ 8 := by
          rw [List.length_map] at hi
          omega
        refine ⟨rfl, _, rfl, _, rfl, _, rfl, rp, _, rfl, SqL.of R7, fun q1 hq1 => ?_⟩
        have e0 : (0 : Int) + (i : Int) = (i : Int) := Int.zero_add _
        rw [e0, cut_take]
        have g8 := g.new (o := .lst ((xs.take i).map V.str)) hq1
        refine ⟨q1, xs.take i, rfl, upd_same, lc i, sgt i, fun H8 s8 => ?_⟩
        have g9 := g8.trans (Go.same g8.cell s8)
        have nD : ∀ {q : Addr}, H7 q = none → D ≠ q := fun h z => by
          rw [← z, e] at h
          cases h
        have e8 : H8 D = some (.lst vs) := s8 _ _ (by rw [upd_ne (nD hq1)]; exact e)
        refine ⟨_, rfl, small i, _, _, rfl, rfl, _, rfl, ?_⟩
        have k8 : ∀ {q : Addr} {ys : List Str}, Strs H7 q ys → Strs H8 q ys := fun h => s8 _ _ (by rw [upd_ne (ne_of_none h hq1)]; exact h)
        refine ite2 (fun c => ?_) (fun c => ?_)
        · have R8 := k8 R7
          refine ⟨_, rfl, _, rfl, _, rfl, rp, _, rfl, SqL.of R8, fun q2 hq2 => ?_⟩
          rw [cut_take]
          have hDq : D ≠ q2 := fun z => by
            rw [← z, e8] at hq2
            cases hq2
          refine ⟨vs, by rw [upd_ne hDq]; exact e8, small_lt (by omega), (g9.new hq2).mut hD hbD, vs ++ [.ref q2], upd_same, by rw [List.length_append]; simp only [List.length_cons, List.length_nil]; omega, fun _ => ⟨vs, q2, i, rfl, by unfold Strs; rw [upd_ne (Ne.symm hDq)]; exact upd_same, ?_, Ne.symm hDq⟩⟩
          have := of_decide_eq_true c
          omega
        · refine ⟨g9, vs, e8, by omega, fun _ => ?_⟩
          by_cases hi0 : 0 < i
          · obtain ⟨w, q, m, ev, hq, hc, hn⟩ := hv hi0
            exact ⟨w, q, m, ev, k8 hq, hc, hn⟩
          · exfalso
            apply c
            have : i = 0 := by omega
            subst this
            rw [content_len, List.take_zero]
            decide
      · rintro H7 ⟨g, vs, e, hl, hv⟩
        obtain ⟨w, q, m, ev, hq, hc, hn⟩ := hv (by rw [List.length_map]; omega)
        subst ev
        refine ⟨_, rfl, D, _, _, _, rfl, rfl, SqL.of e, atI_last w _, ?_⟩
        have G := G.step g
        have few2 : (xs.take m).length ≤ 8 := Nat.le_trans (List.length_take_le' _ _) few
        have sg2 := sgt m
        clear hv lc sgt small few sg R
        generalize xs.take m = ys at hq hc few2 sg2
        refine ⟨_, rfl, _, rfl, _, rfl, q, _, rfl, .inl (SqL.of hq), _, _, rfl, rfl, a, b, ns, _, rfl, S.go G.go, by omega, fun cu H8 g8 c0 c1 => ?_⟩
        obtain ⟨cu, rfl⟩ := Int.eq_ofNat_of_zero_le c0
        have hq := hq.go G.go.cell g8
        have G := G.step g8
        have ct : Ct 1000 (contentOf (ys.take cu)) := ⟨Nat.le_trans (content_take ys cu) hc, content_all fun x hx => sg2 x (List.mem_of_mem_take hx)⟩
        have cd : Ct 1000 (contentOf (ys.drop cu)) := ⟨Nat.le_trans (content_drop ys cu) hc, content_all fun x hx => sg2 x (List.mem_of_mem_drop hx)⟩
        refine ⟨_, rfl, _, rfl, _, rfl, q, _, rfl, SqL.of hq, fun q1 hq1 => ?_⟩
        rw [cut_take]
        refine ⟨q1, ys.take cu, rfl, upd_same, Nat.le_trans (List.length_take_le' _ _) (by omega), fun x hx => sg2 x (List.mem_of_mem_take hx), fun H9 s9 => ?_⟩
        have g9 := (Go.refl G.go.cell).new (o := .lst ((ys.take cu).map V.str)) hq1
        have hq := (hq.go G.go.cell g9).go g9.cell (Go.same g9.cell s9)
        have G := (G.step g9).step (Go.same g9.cell s9)
        have hqd : q ≠ dd := fun z => by
          unfold Strs at hq
          rw [z, G.at_] at hq
          cases hq
        refine ⟨_, rfl, dd, _, rfl, G.dput, ?_⟩
        have G := G.put (p := "build/a") (by decide) ct
        have ne := putF_ne fs "build/a" (contentOf (ys.take cu))
        have hq : Strs (upd H9 dd (.dK (kvF (putF fs "build/a" (contentOf (ys.take cu)))))) q ys := by
          unfold Strs
          rw [upd_ne hqd]
          exact hq
        generalize putF fs "build/a" (contentOf (ys.take cu)) = fs at G ne hq ⊢
        generalize upd H9 dd (.dK (kvF fs)) = H10 at G hq ⊢
        refine ⟨_, rfl, _, rfl, _, rfl, q, _, rfl, SqL.of hq, fun q1 hq1 => ?_⟩
        rw [cut_drop]
        refine ⟨q1, ys.drop cu, rfl, upd_same, by rw [List.length_drop]; omega, fun x hx => sg2 x (List.mem_of_mem_drop hx), fun H11 s11 => ?_⟩
        have g11 := (Go.refl G.go.cell).new (o := .lst ((ys.drop cu).map V.str)) hq1
        have G := (G.step g11).step (Go.same g11.cell s11)
        refine ⟨_, rfl, (by show 2 ≤ sizeLine; decide), fun l hl => ⟨_, rfl, _, rfl, a, b, ns, 3, rfl, S.go (G.go.new hl), by decide, fun d H12 g12 d0 d1 => ?_⟩⟩
        obtain ⟨nm, hnm, enm⟩ := strs_at (xs := (["build/b", "build/lib/b"] : List Str)) (d := d / 2) (by omega) (by show d / 2 < 2; omega)
        have hs := strs_new G.go.cell hl g12
        have G := (G.step ((Go.refl G.go.cell).new hl)).step g12
        refine ⟨_, _, rfl, rfl, ⟨by decide, by decide⟩, l, _, d / 2, _, rfl, rfl, SqL.of hs, enm, dd, _, rfl, G.dput, ?_⟩
        have G := G.put (p := nm) (mem_sub (by decide) hnm) cd
        have ne := putF_ne fs nm (contentOf (ys.drop cu))
        clear hq hs g11 s11 g12 hnm enm
        generalize putF fs nm (contentOf (ys.drop cu)) = fs at G ne ⊢
        generalize upd H12 dd (.dK (kvF fs)) = H13 at G ⊢
        refine ⟨_, rfl, _, rfl, a, b, ns, rfl, S.go G.go, fun p1 y1 I1 R1 => ?_⟩
        have G := G.step R1.go
        refine ⟨(by show 2 ≤ sizeLine; decide), fun t1 ht1 => ?_⟩
        have O1 := Other.mk' (nm := "set/all") R1 ht1 (by decide) (by decide) (by decide) (by decide)
        have gn := (Go.refl G.go.cell).new (o := .tup [.str "set/all", .ref p1]) ht1
        have G := G.step gn
        clear gn
        generalize upd I1 t1 (.tup [.str "set/all", .ref p1]) = I2 at G O1 ⊢
        refine ⟨(by show 2 ≤ sizeLine; decide), fun l hl => ⟨_, rfl, _, rfl, a, b, ns, 2, rfl, S.go (G.go.new hl), by decide, fun d I3 g12 d0 d1 => ?_⟩⟩
        obtain ⟨nm, hnm, enm⟩ := strs_at (xs := (["set/b", "set/eu/west"] : List Str)) d0 d1
        have hs := strs_new G.go.cell hl g12
        have gn := (Go.refl G.go.cell).new (o := .lst ((["set/b", "set/eu/west"] : List Str).map V.str)) hl
        have O1 := (O1.go G.go.cell gn).go gn.cell g12
        have G := (G.step gn).step g12
        refine ⟨l, _, d, _, rfl, rfl, SqL.of hs, enm, _, rfl, _, rfl, a, b, ns, rfl, S.go G.go, fun p2 y2 I4 R2 => ?_⟩
        have O1 := O1.go G.go.cell R2.go
        have G := G.step R2.go
        refine ⟨(by show 2 ≤ sizeLine; decide), fun t2 ht2 => ?_⟩
        have O2 := Other.mk' (nm := nm) R2 ht2 (mem_sub (by decide) hnm) (by decide) (by decide) (by decide)
        have gm := (Go.refl G.go.cell).new (o := .tup [.str nm, .ref p2]) ht2
        have O1 := O1.go G.go.cell gm
        have G := G.step gm
        clear gn gm hs
        generalize upd I4 t2 (.tup [.str nm, .ref p2]) = I5 at G O1 O2 ⊢
        refine ⟨_, rfl, _, rfl, a, b, ns, rfl, S.go G.go, fun p3 y3 I6 R3 => ?_⟩
        have O1 := O1.go G.go.cell R3.go
        have O2 := O2.go G.go.cell R3.go
        have G := G.step R3.go
        refine ⟨(by show 2 ≤ sizeLine; decide), fun t3 ht3 => ?_⟩
        have O3 := Other.mk' (nm := "fleet/places") R3 ht3 (by decide) (by decide) (by decide) (by decide)
        have gm := (Go.refl G.go.cell).new (o := .tup [.str "fleet/places", .ref p3]) ht3
        have O1 := O1.go G.go.cell gm
        have O2 := O2.go G.go.cell gm
        have G := G.step gm
        clear gm
        generalize upd I6 t3 (.tup [.str "fleet/places", .ref p3]) = I7 at G O1 O2 O3 ⊢
        refine ⟨(by show 3 ≤ sizeLine; decide), fun q6 hq6 => ?_⟩
        have gm := (Go.refl G.go.cell).new (o := .lst [.ref t1, .ref t2, .ref t3]) hq6
        have O1 := O1.go G.go.cell gm
        have O2 := O2.go G.go.cell gm
        have O3 := O3.go G.go.cell gm
        have L6 : upd I7 q6 (.lst [.ref t1, .ref t2, .ref t3]) q6 = some (.lst [.ref t1, .ref t2, .ref t3]) := upd_same
        have hb6 : q6 ≠ b := fun z => by
          obtain ⟨i, _, q⟩ := G.go.cell
          rw [← z, hq6] at q
          cases q
        have G := G.step gm
        clear gm
        generalize upd I7 q6 (.lst [.ref t1, .ref t2, .ref t3]) = I8 at G O1 O2 O3 L6 ⊢
        -- two more
        refine ⟨_, rfl, _, rfl, _, rfl, a, b, ns, rfl, S.go G.go, fun p4 y4 I9 R4 => ?_⟩
        have O1 := O1.go G.go.cell R4.go
        have O2 := O2.go G.go.cell R4.go
        have O3 := O3.go G.go.cell R4.go
        have L6 := R4.go.keep _ _ hb6 L6
        have G := G.step R4.go
        refine ⟨(by show 2 ≤ sizeLine; decide), fun t4 ht4 => ?_⟩
        have O4 := Other.mk' (nm := "own/rules") R4 ht4 (by decide) (by decide) (by decide) (by decide)
        have gm := (Go.refl G.go.cell).new (o := .tup [.str "own/rules", .ref p4]) ht4
        have O1 := O1.go G.go.cell gm
        have O2 := O2.go G.go.cell gm
        have O3 := O3.go G.go.cell gm
        have L6 := gm.keep _ _ hb6 L6
        have G := G.step gm
        clear gm
        generalize upd I9 t4 (.tup [.str "own/rules", .ref p4]) = J1 at G O1 O2 O3 O4 L6 ⊢
        refine ⟨_, rfl, _, rfl, a, b, ns, rfl, S.go G.go, fun p5 y5 J2 R5 => ?_⟩
        have O1 := O1.go G.go.cell R5.go
        have O2 := O2.go G.go.cell R5.go
        have O3 := O3.go G.go.cell R5.go
        have O4 := O4.go G.go.cell R5.go
        have L6 := R5.go.keep _ _ hb6 L6
        have G := G.step R5.go
        refine ⟨(by show 2 ≤ sizeLine; decide), fun t5 ht5 => ?_⟩
        have O5 := Other.mk' (nm := "pack/goals") R5 ht5 (by decide) (by decide) (by decide) (by decide)
        have gm := (Go.refl G.go.cell).new (o := .tup [.str "pack/goals", .ref p5]) ht5
        have O1 := O1.go G.go.cell gm
        have O2 := O2.go G.go.cell gm
        have O3 := O3.go G.go.cell gm
        have O4 := O4.go G.go.cell gm
        have L6 := gm.keep _ _ hb6 L6
        have G := G.step gm
        clear gm
        generalize upd J2 t5 (.tup [.str "pack/goals", .ref p5]) = J3 at G O1 O2 O3 O4 O5 L6 ⊢
        refine ⟨(by show 2 ≤ sizeLine; decide), fun q7 hq7 => ?_⟩
        have gm := (Go.refl G.go.cell).new (o := .lst [.ref t4, .ref t5]) hq7
        have O1 := O1.go G.go.cell gm
        have O2 := O2.go G.go.cell gm
        have O3 := O3.go G.go.cell gm
        have O4 := O4.go G.go.cell gm
        have O5 := O5.go G.go.cell gm
        have L6 := gm.keep _ _ hb6 L6
        have G := G.step gm
        clear gm
        refine ⟨q6, q7, _, _, rfl, rfl, L6, upd_same, (by show 5 ≤ sizeLine; decide), fun q8 hq8 => ?_⟩
        have gm := (Go.refl G.go.cell).new (o := .lst ([.ref t1, .ref t2, .ref t3] ++ [.ref t4, .ref t5])) hq8
        have OA : ∀ v ∈ ([.ref t1, .ref t2, .ref t3] ++ [.ref t4, .ref t5] : List V), Other (upd (upd J3 q7 (.lst [.ref t4, .ref t5])) q8 (.lst ([.ref t1, .ref t2, .ref t3] ++ [.ref t4, .ref t5]))) v := by
          intro v hv
          simp only [List.cons_append, List.nil_append, List.mem_cons, List.not_mem_nil, or_false] at hv
          rcases hv with rfl | rfl | rfl | rfl | rfl
          · exact O1.go G.go.cell gm
          · exact O2.go G.go.cell gm
          · exact O3.go G.go.cell gm
          · exact O4.go G.go.cell gm
          · exact O5.go G.go.cell gm
        have L8 : upd (upd J3 q7 (.lst [.ref t4, .ref t5])) q8 (.lst ([.ref t1, .ref t2, .ref t3] ++ [.ref t4, .ref t5])) q8 = some (.lst ([.ref t1, .ref t2, .ref t3] ++ [.ref t4, .ref t5])) := upd_same
        have hb8 : q8 ≠ b := fun z => by
          obtain ⟨i, _, q⟩ := G.go.cell
          rw [← z, hq8] at q
          cases q
        have G := G.step gm
        clear gm O1 O2 O3 O4 O5 L6
        generalize upd (upd J3 q7 (.lst [.ref t4, .ref t5])) q8 (.lst ([.ref t1, .ref t2, .ref t3] ++ [.ref t4, .ref t5])) = J4 at G OA L8 ⊢
        generalize ([.ref t1, .ref t2, .ref t3] ++ [.ref t4, .ref t5] : List V) = os at OA L8 ⊢
        clear R1 R2 R3 R4 R5
        refine ⟨_, rfl, q8, rfl, ⟨_, SqL.of L8⟩, for_list (K := K) (a := q8) (xs := os)
            (fun j σ H1 => ∃ (fs : Fs) (k7 : Option V), σ = [some (.ref a), some (.ref b), some (.ref dd), k3, some (.ref q), some (.int (cu : Int)), some (.ref q8), k7, none] ∧ FilesAt b H dd fs H1 ∧ fs ≠ [] ∧ H1 q8 = some (.lst os) ∧ ∀ v ∈ os, Other H1 v)
            ⟨fs, _, rfl, G, ne, L8, OA⟩ (fun i σ H1 _ ⟨_, _, _, _, _, z, _⟩ => SqL.of z) ?_ ?_⟩
        · rintro j x σ H4 hj ⟨fs, k7, rfl, G, ne, L8, OA⟩
          have hx := List.mem_of_getElem? hj
          refine ⟨_, rfl, _, rfl, a, b, ns, 4, rfl, S.go G.go, by decide, fun d H5 g5 _ _ => ?_⟩
          have OA : ∀ v ∈ os, Other H5 v := fun v hv => (OA v hv).go G.go.cell g5
          have L8 := g5.keep _ _ hb8 L8
          have G := G.step g5
          refine ⟨_, _, rfl, rfl, _, rfl, ite2 (fun _ => ?_) (fun _ => ⟨_, _, rfl, G, ne, L8, OA⟩)⟩
          obtain ⟨t, nm, p, xs, O⟩ := OA x hx
          obtain rfl := O.v_
          refine ⟨_, rfl, t, _, 1, _, rfl, rfl, SqT.of O.tup, rfl, p, xs, rfl, O.rows, O.few, O.sg, fun H6 s6 => ?_⟩
          have g6 := Go.same G.go.cell s6
          have ht6 : H6 t = some (.tup [.str nm, .ref p]) := s6 _ _ O.tup
          have OA : ∀ v ∈ os, Other H6 v := fun v hv => (OA v hv).go G.go.cell g6
          have L8 := g6.keep _ _ hb8 L8
          have G := G.step g6
          have hq8d : q8 ≠ dd := fun z => by
            rw [z, G.at_] at L8
            cases L8
          exact ⟨_, rfl, _, rfl, t, _, 0, _, rfl, rfl, SqT.of ht6, rfl, dd, _, rfl, G.dput, _, _, rfl, G.put O.path O.ct, putF_ne _ _ _, by rw [upd_ne hq8d]; exact L8, fun v hv => (OA v hv).dict G.at_⟩
        · rintro σ H4 ⟨fs, k7, rfl, G, ne, _, _⟩
          have hl20 := G.ok.few
          refine ⟨_, rfl, dd, kvF fs, fs.map (·.1), rfl, .inl G.at_, kvF_keys' fs, by rw [List.length_map]; omega, fun ks p perm srt hp => ?_⟩
          have gp := (Go.refl G.go.cell).new (o := .lst (ks.map V.str)) hp
          have G := G.step gp
          have asc : Asc ks := asc_of srt (perm.nodup_iff.mpr G.ok.nd)
          have hks : ks.length ≤ 20 := by
            rw [perm.length_eq, List.length_map]
            exact hl20
          have hP : upd H4 p (.lst (ks.map V.str)) p = some (.lst (ks.map V.str)) := upd_same
          have hpb : p ≠ b := fun z => by
            obtain ⟨i, _, q⟩ := gp.cell
            rw [← z, upd_same] at q
            have q' := HO.lst.inj (Option.some.inj q)
            cases ks with
            | nil => cases q'
            | cons y r => cases (List.cons.inj q').1
          clear gp
          generalize upd H4 p (.lst (ks.map V.str)) = H5 at G hP ⊢
          refine ⟨p, rfl, ⟨_, SqL.of hP⟩, fun D hD => ?_⟩
          have hbD : b ≠ D := fun z => by
            obtain ⟨i, _, q⟩ := G.go.cell
            rw [z, hD] at q
            cases q
          refine lc_list (K := K) (a := p) (xs := ks.map V.str) (fun i H6 => Go b H5 H6 ∧ ∃ vs : List V, H6 D = some (.lst vs) ∧ vs.length = i ∧ Reps H6 ((sortF fs (ks.take i)).map pairD) vs)
            ⟨(Go.refl G.go.cell).new hD, [], upd_same, rfl, rfl⟩ (fun i H6 _ q => SqL.of (q.1.keep _ _ hpb hP)) ?_ ?_
          · rintro i x H6 hx ⟨g6, vs, e, hl, hr⟩
            rw [List.getElem?_map] at hx
            obtain ⟨k, hk, rfl⟩ := Option.map_eq_some_iff.mp hx
            have hi : i < ks.length := (List.getElem?_eq_some_iff.mp hk).1
            have hkm : k ∈ fs.map (·.1) := perm.mem_iff.mp (List.mem_of_getElem? hk)
            obtain ⟨c, hc⟩ := Option.isSome_iff_exists.mp (valF_isSome.mpr hkm)
            have G6 := G.step g6
            refine ⟨rfl, _, rfl, _, rfl, _, rfl, dd, _, rfl, G6.dget hc, (by show 2 ≤ sizeLine; decide), fun t ht => ?_⟩
            have htD : D ≠ t := fun z => by
              rw [← z, e] at ht
              cases ht
            refine ⟨vs, by rw [upd_ne htD]; exact e, small_lt (by omega), (g6.new ht).mut hD hbD, vs ++ [.ref t], upd_same, by rw [List.length_append]; simp only [List.length_cons, List.length_nil]; omega, ?_⟩
            have es : (sortF fs (ks.take (i + 1))).map pairD = (sortF fs (ks.take i)).map pairD ++ [pairD (k, c)] := by
              unfold sortF
              rw [List.take_add_one, hk, List.map_append, List.map_append]
              simp [hc]
            rw [es]
            have tk : Tk (upd H6 t (.tup [.str k, .str c])) (upd (upd H6 t (.tup [.str k, .str c])) D (.lst (vs ++ [.ref t]))) := Tk.lst (by rw [upd_ne htD]; exact e)
            exact Reps.snoc (Reps.keep tk (Reps.keep (Tk.new ht) hr)) (Rep.keep tk (pair_rep upd_same))
          · rintro H6 ⟨g6, vs, e, hl, hr⟩
            rw [List.length_map] at hl hr
            rw [List.take_length] at hr
            refine ⟨D, _, rfl, .inl ⟨SqL.of e, fun l hl2 => ?_⟩⟩
            refine kk (.ref l) (sortF fs ks) _ ((G.go.trans g6).new hl2) ⟨l, vs, rfl, .inl upd_same, small_of (by omega), Reps.keep (Tk.new hl2) hr⟩ (G.ok.sort perm) (by rw [sortF_keys]; exact asc) ?_
            intro h0
            have := congrArg (List.map (·.1)) h0
            rw [sortF_keys] at this
            rw [this] at perm
            exact ne (by simpa using perm.length_eq.symm)
end
end Kl

namespace Kl
open PySem L2 Kd
abbrev Es := List (Str × Option Str)
def encO : Option Str → V
  | none => .non
  | some c => .str c
structure EOk (es : Es) : Prop where
  nd : (es.map (·.1)).Nodup
  path : ∀ q ∈ es, q.1 ∈ allPaths
  ct : ∀ q ∈ es, ∀ c, q.2 = some c → Ct 1000 c
theorem EOk.few {es : Es} (h : EOk es) : es.length ≤ 20 := by
  have := nodup_le (ys := allPaths) h.nd fun p hp => by
    obtain ⟨q, hq, e⟩ := List.mem_map.mp hp
    rw [← e]
    exact h.path q hq
  rw [List.length_map] at this
  exact Nat.le_trans this (by decide)
theorem EOk.nil : EOk [] := ⟨List.nodup_nil, fun _ h => (nomatch h), fun _ h => (nomatch h)⟩
theorem EOk.put {es : Es} (h : EOk es) {p : Str} {o : Option Str} (hp : p ∈ allPaths) (hc : ∀ c, o = some c → Ct 1000 c) : EOk (putF es p o) := by
  refine ⟨putF_nodup h.nd, fun q hq => ?_, fun q hq => ?_⟩
  · rcases putF_mem hq with e | e
    · rw [e]
      exact hp
    · exact h.path q e
  · rcases putF_mem hq with e | e
    · rw [e]
      exact hc
    · exact h.ct q e
theorem EOk.sort {es : Es} (h : EOk es) {ks : List Str} (hk : ks.Perm (es.map (·.1))) : EOk (sortF es ks) := by
  have hv : ∀ q ∈ sortF es ks, q ∈ es := fun q hq => by
    obtain ⟨p, hp, e⟩ := List.mem_map.mp hq
    obtain ⟨c, hc⟩ := Option.isSome_iff_exists.mp (valF_isSome.mpr (hk.mem_iff.mp hp))
    rw [hc] at e
    rw [← e]
    exact valF_some hc
  exact ⟨by rw [sortF_keys]; exact hk.nodup_iff.mpr h.nd, fun q hq => h.path q (hv q hq), fun q hq => h.ct q (hv q hq)⟩
/-- a dict of changes at dd, made since H0 -/
structure EditsAt (b : Addr) (H0 : Hp) (dd : Addr) (es : Es) (H : Hp) : Prop where
  go : Go b H0 H
  new : H0 dd = none
  at_ : H dd = some (.dK (kvG encO es))
  ok : EOk es
theorem EditsAt.ne {b : Addr} {H0 H : Hp} {dd : Addr} {es : Es} (r : EditsAt b H0 dd es H) : b ≠ dd := fun z => by
  obtain ⟨i, _, q⟩ := r.go.cell
  rw [z, r.at_] at q
  cases q
theorem EditsAt.step {b : Addr} {H0 H H' : Hp} {dd : Addr} {es : Es} (r : EditsAt b H0 dd es H) (g : Go b H H') : EditsAt b H0 dd es H' :=
  ⟨r.go.trans g, r.new, g.keep _ _ (Ne.symm r.ne) r.at_, r.ok⟩
theorem EditsAt.put {b : Addr} {H0 H : Hp} {dd : Addr} {es : Es} (r : EditsAt b H0 dd es H) {p : Str} {o : Option Str} (hp : p ∈ allPaths) (hc : ∀ c, o = some c → Ct 1000 c) : EditsAt b H0 dd (putF es p o) (upd H dd (.dK (kvG encO (putF es p o)))) :=
  ⟨r.go.mut r.new r.ne, r.new, upd_same, r.ok.put hp hc⟩
theorem EditsAt.puts {b : Addr} {H0 H : Hp} {dd : Addr} {es : Es} (r : EditsAt b H0 dd es H) {p c : Str} (hp : p ∈ allPaths) (hc : Ct 1000 c) : EditsAt b H0 dd (putF es p (some c)) (upd H dd (.dK (kvG encO (putF es p (some c))))) :=
  r.put hp fun d e => by
    obtain rfl := Option.some.inj e
    exact hc
theorem EditsAt.dput {b : Addr} {H0 H : Hp} {dd : Addr} {es : Es} (r : EditsAt b H0 dd es H) {p : Str} (o : Option Str) : DPut H dd (.str p) (encO o) (upd H dd (.dK (kvG encO (putF es p o)))) := by
  rw [← kvF_put]
  refine DPut.k (k := Sum.inr p) r.at_ ?_
  unfold kvG
  rw [List.length_map]
  exact small_lt (by have := r.ok.few; omega)
theorem EditsAt.dget {b : Addr} {H0 H : Hp} {dd : Addr} {es : Es} (r : EditsAt b H0 dd es H) {p : Str} {o : Option Str} (h : valF es p = some o) : DGet H dd (.str p) (some (encO o)) := by
  have := DGet.k (k := Sum.inr p) r.at_
  rw [kvF_val, h] at this
  exact this
theorem pair_of {H : Hp} {q : Str × Str} {v : V} (h : Rep H (pairD q) v) : ∃ t, v = .ref t ∧ Rd H t (.tup [.str q.1, .str q.2]) := by
  obtain ⟨t, vs, rfl, ht, _, x, r, rfl, hx, y, r2, rfl, hy, hn⟩ := h
  cases (show r2 = [] from hn)
  cases (show x = V.str q.1 from hx)
  cases (show y = V.str q.2 from hy)
  exact ⟨t, rfl, ht⟩
def changeD : Str × Option Str → D
  | (p, none) => .tup [.str "drop", .str p]
  | (p, some c) => .tup [.str "put", .str p, .str c]
def editD (es : Es) : D := .tup (es.map changeD)
theorem drop_rep {H : Hp} {t : Addr} {p : Str} (h : H t = some (.tup [.str "drop", .str p])) : Rep H (changeD (p, none)) (.ref t) :=
  ⟨t, _, rfl, .inl h, by show 2 ≤ sizeLine; decide, .str "drop", [.str p], rfl, rfl, .str p, [], rfl, rfl, rfl⟩
theorem put_rep {H : Hp} {t : Addr} {p c : Str} (h : H t = some (.tup [.str "put", .str p, .str c])) : Rep H (changeD (p, some c)) (.ref t) :=
  ⟨t, _, rfl, .inl h, by show 3 ≤ sizeLine; decide, .str "put", [.str p, .str c], rfl, rfl, .str p, [.str c], rfl, rfl, .str c, [], rfl, rfl, rfl⟩
/-- a drawn edit -/
def spEdit (K : PySem.W.Frag) : Sp := fun vs H Q _ => ∃ (a b : Addr) (ns : List Int) (u : V) (fs : Fs), vs = [.ref a, .ref b, u] ∧ Sp0 K a b ns H ∧ Rep H (filesD fs) u ∧ FOk fs ∧ fs ≠ [] ∧
  ∀ (v : V) (es : Es) (H' : Hp), Go b H H' → Rep H' (editD es) v → EOk es → Asc (es.map (·.1)) → Q v H'
section
variable {P : Program} {w : World} {K : PySem.W.Frag} {mg : Str → Option Value} {base : Heap}
abbrev s_l_edit : Stmt := topS 44
theorem sc_l_edit : FnScope ["row", "spot", "files", "made", "k", "style", "path"] ["row", "spot", "files"] (defScope s_l_edit) := ⟨rfl, rfl, rfl, by decide +kernel, rfl, by decide +kernel, by decide +kernel⟩
theorem ok_edit {f : Addr} {fd : FuncData} (F : Fun K "_law_edit" "_law_edit" s_l_edit f fd) (T : Glo mg) (c_l_take : C8.Cal P w K mg base 2 "_law_take" (spTk K) []) (c_l_text : C8.Cal P w K mg base 3 "_law_text" (spText K) [])
    (c_l_expression : C8.Cal P w K mg base 6 "_law_expression" (spEx K 3) []) (c_l_content : C8.Cal P w K mg base 1 "_law_content" (spContent K) []) (c_l_setting_rows : C8.Cal P w K mg base 3 "_law_setting_rows" (spRows K 20 25) [])
    (c_l_place_rows : C8.Cal P w K mg base 3 "_law_place_rows" (spRows K 28 25) []) (c_l_own_rows : C8.Cal P w K mg base 3 "_law_own_rows" (spRows K 40 7) []) (c_l_goal_rows : C8.Cal P w K mg base 3 "_law_goal_rows" (spRows K 20 7) []) :
    FnOk P w K mg base CX0 7 f fd ["row", "spot", "files"] (spEdit K) := by
  refine F.ok sc_l_edit (fun vs H Q E h => ?_) (fun cdv A outer s H vs Q E hr h => ?_)
  · obtain ⟨a, b, ns, u, fs, rfl, _⟩ := h
    rfl
  · obtain ⟨a, b, ns, u, fs, rfl, S, hU, fok, fne, kk⟩ := h
    obtain ⟨vp, vs, rfl, hvp, hvl, hvs⟩ := hU
    have hlen := hvs.len
    rw [List.length_map] at hlen
    have hpos : 0 < vs.length := by
      rw [hlen]
      exact List.length_pos_iff.mpr fne
    have hu := hu_of hr
    refine ⟨_, (pss_cons (ps_set (i := 3) sc_l_edit.nd rfl (.inr rfl) pe_dnewK)
      (pss_cons (ps_for PassesOwn.never rfl (pi_range1 (by rfl) T.range (pa_cons (pe_op op_add pe_int (C8.pe_c c_l_take hr (by omega) (by rfl) (pa_cons (pv 0) (pa_cons (pv 1) (pa_cons (pe_ix ix_list (pe_lst (pa_cons pe_int (pa_cons pe_int (pa_cons pe_int (pa_cons pe_int pa_nil))))) (C8.pe_c c_l_take hr (by omega) (by rfl) (pa_cons (pv 0) (pa_cons (pv 1) (pa_cons pe_int pa_nil)))) (fun _ _ => rfl)) pa_nil))))) pa_nil)) (pg_name (i := 4) sc_l_edit.nd rfl (.inl rfl))
      (pss_cons (ps_set (i := 5) sc_l_edit.nd rfl (.inl rfl) (C8.pe_c c_l_take hr (by omega) (by rfl) (pa_cons (pv 0) (pa_cons (pv 1) (pa_cons pe_int pa_nil)))))
        (pss_cons (ps_set (i := 6) sc_l_edit.nd rfl (.inl rfl) (pe_ix ix_tup (pe_ifExp (pt_cmpR op_gt (pe_callB call_len_seq (by rfl) T.len PySem.boot_len (pa_cons (pv 2) pa_nil)) pe_int (nomark _)) (pe_ix ix_tup (pv 2) (C8.pe_c c_l_take hr (by omega) (by rfl) (pa_cons (pv 0) (pa_cons (pv 1) (pa_cons (pe_callB call_len_seq (by rfl) T.len PySem.boot_len (pa_cons (pv 2) pa_nil)) pa_nil)))) (fun _ _ => rfl)) (pe_tup (pa_strs rfl))) pe_int (fun _ _ => rfl)))
        (pss_one (ps_if (pt_cmpR op_lt (pv 5) pe_int (nomark _))
        (pss_one (ps_dput hu (pv 3) (pe_ix ix_list (pe_lst (pa_strs rfl)) (C8.pe_c c_l_take hr (by omega) (by rfl) (pa_cons (pv 0) (pa_cons (pv 1) (pa_cons pe_int pa_nil)))) (fun _ _ => rfl)) (C8.pe_c c_l_text hr (by omega) (by rfl) (pa_cons (pv 0) (pa_cons (pv 1) pa_nil))) rfl))
        (pss_one (ps_if (pt_cmpR op_eq (pv 5) pe_int (nomark _))
          (pss_one (ps_dput hu (pv 3) (pv 6) pe_non rfl))
          (pss_one (ps_if (pt_cmpR op_eq (pv 5) pe_int (nomark _))
            (pss_one (ps_dput hu (pv 3) pe_str (C8.pe_c c_l_content hr (by omega) (by rfl) (pa_cons (C8.pe_c c_l_setting_rows hr (by omega) (by rfl) (pa_cons (pv 0) (pa_cons (pv 1) pa_nil))) pa_nil)) rfl))
            (pss_one (ps_if (pt_cmpR op_eq (pv 5) pe_int (nomark _))
              (pss_one (ps_dput hu (pv 3) pe_str (C8.pe_c c_l_content hr (by omega) (by rfl) (pa_cons (C8.pe_c c_l_place_rows hr (by omega) (by rfl) (pa_cons (pv 0) (pa_cons (pv 1) pa_nil))) pa_nil)) rfl))
              (pss_one (ps_if (pt_cmpR op_eq (pv 5) pe_int (nomark _))
                (pss_one (ps_dput hu (pv 3) pe_str (C8.pe_c c_l_content hr (by omega) (by rfl) (pa_cons (C8.pe_c c_l_own_rows hr (by omega) (by rfl) (pa_cons (pv 0) (pa_cons (pv 1) pa_nil))) pa_nil)) rfl))
                (pss_one (ps_if (pt_cmpR op_eq (pv 5) pe_int (nomark _))
                  (pss_one (ps_dput hu (pv 3) pe_str (C8.pe_c c_l_content hr (by omega) (by rfl) (pa_cons (C8.pe_c c_l_goal_rows hr (by omega) (by rfl) (pa_cons (pv 0) (pa_cons (pv 1) pa_nil))) pa_nil)) rfl))
                  (pss_one (ps_if (pt_cmpR op_eq (pv 5) pe_int (nomark _))
                    (pss_one (ps_dput hu (pv 3) pe_str (pe_op op_add_str (pe_op op_add_str (pe_op op_add_str (pe_op op_add_str pe_str (pe_callTy call_str_int (by rfl) T.str (by decide +kernel) (pa_cons (C8.pe_c c_l_take hr (by omega) (by rfl) (pa_cons (pv 0) (pa_cons (pv 1) (pa_cons pe_int pa_nil)))) pa_nil))) pe_str) (pe_join pe_str (C8.pe_c c_l_expression hr (by omega) (by rfl) (pa_cons (pv 0) (pa_cons (pv 1) (pa_cons (pe_lst pa_nil) (pa_cons pe_int pa_nil))))))) pe_str) rfl))
                    (pss_one (ps_dput hu (pv 3) (pe_ix ix_list (pe_lst (pa_strs rfl)) (C8.pe_c c_l_take hr (by omega) (by rfl) (pa_cons (pv 0) (pa_cons (pv 1) (pa_cons pe_int pa_nil)))) (fun _ _ => rfl)) (pe_ix ix_list (pe_lst (pa_strs rfl)) (C8.pe_c c_l_take hr (by omega) (by rfl) (pa_cons (pv 0) (pa_cons (pv 1) (pa_cons pe_int pa_nil)))) (fun _ _ => rfl)) rfl)))))))))))))))))))
      (pss_one (ps_ret (pe_callTy call_tuple_of (by rfl) T.tuple PyProof.Rows.boot_tuple (pa_cons (pe_lc (own := [("path", 6)]) (g := gName 6) (tt := tYes) rfl sc_l_edit.nd (pi_list (pe_callB (call_sortedD rfl) (by rfl) T.sorted (by decide +kernel) (pa_cons (pv 3) pa_nil))) (blkOk_by (N := ["row", "spot", "files", "made", "k", "style", "path"]) (sc := defScope s_l_edit) (by decide +kernel)) (fun _ _ _ _ _ => (pg_name (i := 6) sc_l_edit.nd rfl (.inl rfl))) (fun _ _ _ _ _ => pts_nil) (fun _ _ _ _ _ => (pe_ifExp (pt_cmp (pc_isN (pe_dget hu (pv 3) (pv 6) (fun _ _ => rfl)))) (pe_tup (pa_cons pe_str (pa_cons (pv 6) pa_nil))) (pe_tup (pa_cons pe_str (pa_cons (pv 6) (pa_cons (pe_dget hu (pv 3) (pv 6) (fun _ _ => rfl)) pa_nil))))))) pa_nil)))))), ?_⟩
    refine fun dd hdd => ?_
    have G0 : EditsAt b H dd [] (upd H dd (.dK [])) := ⟨(Go.refl S.cell).new hdd, hdd, upd_same, EOk.nil⟩
    refine ⟨_, rfl, _, rfl, (by show 4 ≤ sizeLine; decide), fun l hl => ⟨_, rfl, _, rfl, a, b, ns, 4, rfl, S.go (G0.go.new hl), by decide, fun d H2 g2 h0 h1 => ?_⟩⟩
    have hd : ∃ m : Int, 0 < m ∧ m ≤ 8 ∧ atI [V.int 2, V.int 2, V.int 2, V.int 8] d = some (.int m) := by
      rcases (show d = 0 ∨ d = 1 ∨ d = 2 ∨ d = 3 by omega) with rfl | rfl | rfl | rfl
      · exact ⟨2, by decide, by decide, rfl⟩
      · exact ⟨2, by decide, by decide, rfl⟩
      · exact ⟨2, by decide, by decide, rfl⟩
      · exact ⟨8, by decide, by decide, rfl⟩
    obtain ⟨m, m0, m1, em⟩ := hd
    have gl := (Go.refl G0.go.cell).new (o := .lst [.int 2, .int 2, .int 2, .int 8]) hl
    have G2 := (G0.step gl).step g2
    have hl2 : H2 l = some (.lst [.int 2, .int 2, .int 2, .int 8]) := g2.keep _ _ (fun z => by
      obtain ⟨i, _, q⟩ := G0.go.cell
      rw [z, q] at hl
      cases hl) upd_same
    refine ⟨l, _, d, _, rfl, rfl, SqL.of hl2, em, a, b, ns, m, rfl, S.go G2.go, m0, fun n H3 g3 n0 n1 => ?_⟩
    have G3 := G2.step g3
    refine ⟨_, _, rfl, rfl, _, rfl, (rng_of (by omega) (by omega)).1, (rng_of (by omega) (by omega)).2, for_range (n := (1 + n).toNat) (fun j σ H1 => ∃ (es : Es) (k4 k5 k6 : Option V), σ = [some (.ref a), some (.ref b), some (.ref vp), some (.ref dd), k4, k5, k6] ∧ EditsAt b H dd es H1)
        ⟨[], _, _, _, rfl, G3⟩ ?_ ?_⟩
    · rintro j σ H4 hj ⟨es, k4, k5, k6, rfl, G⟩
      refine ⟨_, rfl, _, rfl, a, b, ns, 12, rfl, S.go G.go, by decide, fun st H5 g5 s0 s1 => ?_⟩
      have G := G.step g5
      have hv5 : Rd H5 vp (.tup vs) := G.go.tk S.cell _ _ hvp
      refine ⟨_, rfl, vp, _, rfl, .inr (.inl hv5), _, _, rfl, rfl, _, rfl, ite2 (fun _ => ?_) (fun c => absurd (decide_eq_true (show (0 : Int) < (vs.length : Int) by omega)) c)⟩
      refine ⟨_, rfl, _, rfl, _, rfl, _, rfl, vp, _, rfl, .inr (.inl hv5), a, b, ns, _, rfl, S.go G.go, by omega, fun d H6 g6 d0 d1 => ?_⟩
      have G := G.step g6
      have tk6 : Tk H H6 := G.go.tk S.cell
      obtain ⟨d, rfl⟩ := Int.eq_ofNat_of_zero_le d0
      have hd : d < fs.length := by omega
      obtain ⟨x, hx, hxr⟩ := hvs.get (i := d) (d := pairD (fs[d])) (by rw [List.getElem?_map, List.getElem?_eq_getElem hd]; rfl)
      obtain ⟨t, rfl, ht⟩ := pair_of (hxr.keep tk6)
      have hp : (fs[d]).1 ∈ allPaths := fok.path _ (List.getElem_mem hd)
      refine ⟨vp, _, d, _, rfl, rfl, .inl (tk6 _ _ hvp), atI_nat hx, t, _, 0, _, rfl, rfl, .inl ht, rfl, ?_⟩
      generalize (fs[d]).1 = path at hp ⊢
      have fin : ∀ {es' : Es} {k4' k5' k6' : Option V} {H' : Hp}, EditsAt b H dd es' H' → ∃ (es : Es) (k4 k5 k6 : Option V), [some (V.ref a), some (V.ref b), some (V.ref vp), some (V.ref dd), k4', k5', k6'] = [some (V.ref a), some (V.ref b), some (V.ref vp), some (V.ref dd), k4, k5, k6] ∧ EditsAt b H dd es H' := fun g => ⟨_, _, _, _, rfl, g⟩
      refine ⟨_, rfl, _, _, rfl, rfl, _, rfl, ite2 (fun _ => ?_) (fun _ => ?_)⟩
      · refine ⟨_, rfl, _, rfl, a, b, ns, rfl, S.go G.go, fun x H7 g7 hx7 => ?_⟩
        have G := G.step g7
        refine ⟨_, rfl, (by show 6 ≤ sizeLine; decide), fun l hl => ⟨_, rfl, _, rfl, a, b, ns, 6, rfl, S.go (G.go.new hl), by decide, fun d H8 g8 d0 d1 => ?_⟩⟩
        obtain ⟨nm, hnm, enm⟩ := strs_at (xs := (["app/main", "app/side", "doc/note", "app/sub/deep", "doc/new", "appx/z"] : List Str)) d0 d1
        have hs := strs_new G.go.cell hl g8
        have G := (G.step ((Go.refl G.go.cell).new hl)).step g8
        exact ⟨l, _, d, _, rfl, rfl, SqL.of hs, enm, dd, _, rfl, G.dput (some x), fin (G.puts (mem_sub (by decide) hnm) (ct_mem hx7 (by decide +kernel)))⟩
      refine ⟨_, rfl, rfl, _, rfl, ite2 (fun _ => ?_) (fun _ => ?_)⟩
      · exact ⟨_, rfl, _, rfl, dd, _, rfl, G.dput none, fin (G.put hp fun _ e => nomatch e)⟩
      refine ⟨_, rfl, rfl, _, rfl, ite2 (fun _ => ?_) (fun _ => ?_)⟩
      · refine ⟨_, rfl, _, rfl, a, b, ns, rfl, S.go G.go, fun p xs H7 R => ⟨p, xs, rfl, R.at_, Nat.le_trans R.few (by decide), fun x hx => (R.sg x hx).mono (by decide), fun H8 s8 => ?_⟩⟩
        have G := (G.step R.go).step (Go.same R.go.cell s8)
        exact ⟨_, rfl, dd, _, rfl, G.dput (some _), fin (G.puts (p := "set/all") (by decide) (content_ct R.few R.sg (by decide)))⟩
      refine ⟨_, rfl, rfl, _, rfl, ite2 (fun _ => ?_) (fun _ => ?_)⟩
      · refine ⟨_, rfl, _, rfl, a, b, ns, rfl, S.go G.go, fun p xs H7 R => ⟨p, xs, rfl, R.at_, Nat.le_trans R.few (by decide), fun x hx => (R.sg x hx).mono (by decide), fun H8 s8 => ?_⟩⟩
        have G := (G.step R.go).step (Go.same R.go.cell s8)
        exact ⟨_, rfl, dd, _, rfl, G.dput (some _), fin (G.puts (p := "fleet/places") (by decide) (content_ct R.few R.sg (by decide)))⟩
      refine ⟨_, rfl, rfl, _, rfl, ite2 (fun _ => ?_) (fun _ => ?_)⟩
      · refine ⟨_, rfl, _, rfl, a, b, ns, rfl, S.go G.go, fun p xs H7 R => ⟨p, xs, rfl, R.at_, Nat.le_trans R.few (by decide), fun x hx => (R.sg x hx).mono (by decide), fun H8 s8 => ?_⟩⟩
        have G := (G.step R.go).step (Go.same R.go.cell s8)
        exact ⟨_, rfl, dd, _, rfl, G.dput (some _), fin (G.puts (p := "own/rules") (by decide) (content_ct R.few R.sg (by decide)))⟩
      refine ⟨_, rfl, rfl, _, rfl, ite2 (fun _ => ?_) (fun _ => ?_)⟩
      · refine ⟨_, rfl, _, rfl, a, b, ns, rfl, S.go G.go, fun p xs H7 R => ⟨p, xs, rfl, R.at_, Nat.le_trans R.few (by decide), fun x hx => (R.sg x hx).mono (by decide), fun H8 s8 => ?_⟩⟩
        have G := (G.step R.go).step (Go.same R.go.cell s8)
        exact ⟨_, rfl, dd, _, rfl, G.dput (some _), fin (G.puts (p := "pack/goals") (by decide) (content_ct R.few R.sg (by decide)))⟩
      refine ⟨_, rfl, rfl, _, rfl, ite2 (fun _ => ?_) (fun _ => ?_)⟩
      · refine ⟨_, rfl, _, rfl, a, b, ns, 3, rfl, S.go G.go, by decide, fun d H7 g7 d0 d1 => ?_⟩
        have G := G.step g7
        obtain ⟨d, rfl⟩ := Int.eq_ofNat_of_zero_le d0
        have kn : Sg 2 (toString (d : Int)) := sg_num (by omega)
        have q1 := (sg_of (m := 8) (x := "target n") (by decide +kernel)).cat kn
        have q2 := q1.cat (sg_of (m := 3) (x := " = ") (by decide +kernel))
        refine ⟨_, rfl, log_small (by omega), _, _, rfl, rfl, (sg_of (m := 8) (by decide +kernel)).sz kn, _, _, rfl, rfl, q1.sz (sg_of (m := 3) (by decide +kernel)), ⟨_, rfl⟩, ?_⟩
        refine ⟨_, rfl, _, rfl, (by show 0 ≤ sizeLine; decide), fun q hq => ⟨a, b, q, ns, [], 2, rfl, S.go (G.go.new hq), upd_same, by decide, by decide, fun p xs H8 g8 _ hs he => ?_⟩⟩
        obtain ⟨hab, hsum⟩ := he.about fun _ h => nomatch h
        have G := (G.step ((Go.refl G.go.cell).new hq)).step g8
        have nl : ctB 1 "\n" = true := by decide +kernel
        have c1 := (q2.cat hab).ct.cat (ct_of nl)
        exact ⟨_, p, xs, rfl, rfl, .inl (SqL.of hs), hsum, _, _, rfl, rfl, q2.sz hab, _, _, rfl, rfl, small_of (by have := (q2.cat hab).len; have := (ct_of nl).len; omega), _, rfl, dd, _, rfl, G.dput (some _), fin (G.puts (p := "build/c") (by decide) (c1.mono (by decide)))⟩
      · refine ⟨(by show 4 ≤ sizeLine; decide), fun l hl => ⟨_, rfl, _, rfl, a, b, ns, 4, rfl, S.go (G.go.new hl), by decide, fun d H7 g7 d0 d1 => ?_⟩⟩
        obtain ⟨x, hx, ex⟩ := strs_at (xs := (["wrong line\n", "\nend\n", "need util 2 1\n", "x =\n"] : List Str)) d0 d1
        have hs1 := strs_new G.go.cell hl g7
        have G := (G.step ((Go.refl G.go.cell).new hl)).step g7
        refine ⟨l, _, d, _, rfl, rfl, SqL.of hs1, ex, _, rfl, (by show 5 ≤ sizeLine; decide), fun l2 hl2 => ⟨_, rfl, _, rfl, a, b, ns, 5, rfl, S.go (G.go.new hl2), by decide, fun d H8 g8 d0 d1 => ?_⟩⟩
        obtain ⟨nm, hnm, enm⟩ := strs_at (xs := (["set/all", "build/b", "own/rules", "fleet/places", "pack/goals"] : List Str)) d0 d1
        have hs2 := strs_new G.go.cell hl2 g8
        have G := (G.step ((Go.refl G.go.cell).new hl2)).step g8
        exact ⟨l2, _, d, _, rfl, rfl, SqL.of hs2, enm, dd, _, rfl, G.dput (some x), fin (G.puts (mem_sub (by decide) hnm) (ct_mem hx (by decide +kernel)))⟩
    · rintro σ H4 ⟨fs, k4, k5, k6, rfl, G⟩
      have hl20 := G.ok.few
      refine ⟨_, rfl, dd, kvG encO fs, fs.map (·.1), rfl, .inl G.at_, kvF_keys encO fs, by rw [List.length_map]; omega, fun ks p perm srt hp => ?_⟩
      have gp := (Go.refl G.go.cell).new (o := .lst (ks.map V.str)) hp
      have G := G.step gp
      have asc : Asc ks := asc_of srt (perm.nodup_iff.mpr G.ok.nd)
      have hks : ks.length ≤ 20 := by
        rw [perm.length_eq, List.length_map]
        exact hl20
      have hP : upd H4 p (.lst (ks.map V.str)) p = some (.lst (ks.map V.str)) := upd_same
      have hpb : p ≠ b := fun z => by
        obtain ⟨i, _, q⟩ := gp.cell
        rw [← z, upd_same] at q
        have q' := HO.lst.inj (Option.some.inj q)
        cases ks with
        | nil => cases q'
        | cons y r => cases (List.cons.inj q').1
      clear gp
      generalize upd H4 p (.lst (ks.map V.str)) = H5 at G hP ⊢
      refine ⟨p, rfl, ⟨_, SqL.of hP⟩, fun D hD => ?_⟩
      have hbD : b ≠ D := fun z => by
        obtain ⟨i, _, q⟩ := G.go.cell
        rw [z, hD] at q
        cases q
      refine lc_list (K := K) (a := p) (xs := ks.map V.str) (fun i H6 => Go b H5 H6 ∧ ∃ vs : List V, H6 D = some (.lst vs) ∧ vs.length = i ∧ Reps H6 ((sortF fs (ks.take i)).map changeD) vs)
        ⟨(Go.refl G.go.cell).new hD, [], upd_same, rfl, rfl⟩ (fun i H6 _ q => SqL.of (q.1.keep _ _ hpb hP)) ?_ ?_
      · rintro i x H6 hx ⟨g6, vs, e, hl, hr⟩
        rw [List.getElem?_map] at hx
        obtain ⟨k, hk, rfl⟩ := Option.map_eq_some_iff.mp hx
        have hi : i < ks.length := (List.getElem?_eq_some_iff.mp hk).1
        have hkm : k ∈ fs.map (·.1) := perm.mem_iff.mp (List.mem_of_getElem? hk)
        obtain ⟨c, hc⟩ := Option.isSome_iff_exists.mp (valF_isSome.mpr hkm)
        have G6 := G.step g6
        have es : (sortF fs (ks.take (i + 1))).map changeD = (sortF fs (ks.take i)).map changeD ++ [changeD (k, c)] := by
          unfold sortF
          rw [List.take_add_one, hk, List.map_append, List.map_append]
          simp [hc]
        have nx : ∀ {t : Addr} {xs : List V}, H6 t = none → Rep (upd H6 t (.tup xs)) (changeD (k, c)) (.ref t) → ∃ acc, upd H6 t (.tup xs) D = some (.lst acc) ∧ acc.length < sizeLine ∧ Go b H5 (upd (upd H6 t (.tup xs)) D (.lst (acc ++ [.ref t]))) ∧ ∃ vs : List V, upd (upd H6 t (.tup xs)) D (.lst (acc ++ [.ref t])) D = some (.lst vs) ∧ vs.length = i + 1 ∧ Reps (upd (upd H6 t (.tup xs)) D (.lst (acc ++ [.ref t]))) ((sortF fs (ks.take (i + 1))).map changeD) vs := by
          intro t xs ht hrep
          have htD : D ≠ t := fun z => by
            rw [← z, e] at ht
            cases ht
          refine ⟨vs, by rw [upd_ne htD]; exact e, small_lt (by omega), (g6.new ht).mut hD hbD, vs ++ [.ref t], upd_same, by rw [List.length_append]; simp only [List.length_cons, List.length_nil]; omega, ?_⟩
          rw [es]
          have tk : Tk (upd H6 t (.tup xs)) (upd (upd H6 t (.tup xs)) D (.lst (vs ++ [.ref t]))) := Tk.lst (by rw [upd_ne htD]; exact e)
          exact Reps.snoc (Reps.keep tk (Reps.keep (Tk.new ht) hr)) (Rep.keep tk hrep)
        have dg := G6.dget hc
        cases c with
        | none =>
          refine ⟨rfl, _, rfl, _, rfl, dd, _, rfl, dg, _, rfl, ite2 (fun _ => ?_) (fun c => absurd rfl c)⟩
          exact ⟨_, rfl, (by show 2 ≤ sizeLine; decide), fun t ht => nx ht (drop_rep upd_same)⟩
        | some c =>
          refine ⟨rfl, _, rfl, _, rfl, dd, _, rfl, dg, _, rfl, ite2 (fun z => by cases (show V.str c = V.non from of_decide_eq_true z)) (fun _ => ?_)⟩
          exact ⟨_, rfl, _, rfl, _, rfl, dd, _, rfl, dg, (by show 3 ≤ sizeLine; decide), fun t ht => nx ht (put_rep upd_same)⟩
      · rintro H6 ⟨g6, vs, e, hl, hr⟩
        rw [List.length_map] at hl hr
        rw [List.take_length] at hr
        refine ⟨D, _, rfl, .inl ⟨SqL.of e, fun l hl2 => ?_⟩⟩
        exact kk (.ref l) (sortF fs ks) _ ((G.go.trans g6).new hl2) ⟨l, vs, rfl, .inl upd_same, small_of (by omega), Reps.keep (Tk.new hl2) hr⟩ (G.ok.sort perm) (by rw [sortF_keys]; exact asc)
end
end Kl

namespace Kl
open PySem L2 Kd
/-! dicts of files, and back -/
abbrev PairAt (K : PySem.W.Frag) (H : Hp) : Addr → Key × V → Prop := fun p kv => SqT K H p [kV kv.1, kv.2]
theorem SqT.same {K : PySem.W.Frag} {H H' : Hp} {p : Addr} {xs : List V} (s : Same H H') (h : SqT K H p xs) : SqT K H' p xs := by
  rcases h with (h | ⟨o, h⟩) | h
  · exact .inl (.inl (s _ _ h))
  · exact .inl (.inr ⟨o, s _ _ h⟩)
  · exact .inr h
theorem Same.tk {H H' : Hp} (s : Same H H') : Tk H H' := Tk.same s
theorem map_take_succ {α β : Type} (f : α → β) {l : List α} {i : Nat} {x : α} (h : l[i]? = some x) : (l.take (i + 1)).map f = (l.take i).map f ++ [f x] := by
  rw [List.take_add_one, h, List.map_append]
  rfl
/-- [(one[0], ..) for one in files]: a list of pairs -/
theorem lc_pairs {K : PySem.W.Frag} {j : Nat} {t2 : TE} {σ : L2.St} {H1 : Hp} {D : Addr} {Qd : Hp → Prop} {a : Addr} {vs : List V} {fs : Fs} {enc : Str → V}
    (hw : ∀ x, wipe ((wipe σ [j]).set j (some x)) [j] = wipe σ [j]) (hj : ∀ x, ((wipe σ [j]).set j (some x))[j]? = some (some x)) (ha : SqT K H1 a vs) (hr : Reps H1 (fs.map pairD) vs) (hl : fs.length ≤ 1000) (hD : H1 D = none)
    (h2 : ∀ (q : Str × Str) (t : Addr) (H2 : Hp) (Qv : VK), Rd H2 t (.tup [.str q.1, .str q.2]) → Qv (enc q.2) H2 → t2 ((wipe σ [j]).set j (some (.ref t))) H2 Qv)
    (hd : ∀ (H2 : Hp) (ps : List Addr), Same H1 H2 → H2 D = some (.lst (ps.map V.ref)) → Paired (PairAt K H2) ps (kvG enc fs) → Qd H2) :
    ∃ W : Nat → Nat → Hp → Prop, (∃ m, W 0 m (upd H1 D (.lst []))) ∧ ∀ i m H, W i m H →
      ((Itt K a).stop i H ∧ Qd H) ∨ ((Itt K a).go i H ∧ ∃ Nx : Hp → Prop, (∀ H', Nx H' → ∃ m', m' < m ∧ W (i + 1) m' H') ∧ ∀ x H', (Itt K a).yld i H x H' → gName j x (wipe σ [j]) H' fun σ2 H2 => wipe σ2 [j] = wipe σ [j] ∧ tYes σ2 H2 fun b H3 =>
        if b = true then (tTup (tCons (tOp (rIxT K) (tVar j) (tC (.int 0))) (tCons t2 tNil))) σ2 H3 fun y H4 => ∃ acc, H4 D = some (.lst acc) ∧ acc.length < sizeLine ∧ Nx (upd H4 D (.lst (acc ++ [y]))) else Nx H3) := by
  have hlen := hr.len
  rw [List.length_map] at hlen
  refine lc_tup (K := K) (a := a) (xs := vs) (fun i H => Same H1 H ∧ ∃ ps : List Addr, H D = some (.lst (ps.map V.ref)) ∧ ps.length = i ∧ Paired (PairAt K H) ps (kvG enc (fs.take i)))
    ⟨Same.new hD, [], upd_same, rfl, .nil⟩ (fun i H _ p => SqT.same p.1 ha) ?_ ?_
  · rintro i x H hx ⟨s, ps, e, hi, pr⟩
    have hil : i < fs.length := by
      have := (List.getElem?_eq_some_iff.mp hx).1
      omega
    have hq : fs[i]? = some fs[i] := List.getElem?_eq_getElem hil
    obtain ⟨v, hv, hrep⟩ := hr.get (i := i) (d := pairD fs[i]) (by rw [List.getElem?_map, hq]; rfl)
    obtain rfl : v = x := Option.some.inj (hv.symm.trans hx)
    obtain ⟨t, rfl, ht⟩ := pair_of (hrep.keep (Same.tk s))
    refine ⟨hw _, _, hj _, t, _, 0, _, rfl, rfl, .inl ht, rfl, h2 fs[i] t H _ ht ⟨(by show 2 ≤ sizeLine; decide), fun p hp => ?_⟩⟩
    have hDp : D ≠ p := fun z => by
      rw [← z, e] at hp
      cases hp
    refine ⟨ps.map V.ref, by rw [upd_ne hDp]; exact e, by rw [List.length_map]; exact small_lt (by omega), Same.mut (fun b o z => by rw [upd_ne (ne_of_none (s b o z) hp)]; exact s b o z) hD, ps ++ [p], by rw [upd_same, List.map_append]; rfl, by rw [List.length_append]; simp only [List.length_cons, List.length_nil]; omega, ?_⟩
    have en : kvG enc (fs.take (i + 1)) = kvG enc (fs.take i) ++ [(Sum.inr fs[i].1, enc fs[i].2)] := map_take_succ _ hq
    rw [en]
    have keep : ∀ (a : Addr) (kv : Key × V), PairAt K H a kv → PairAt K (upd (upd H p (.tup [.str fs[i].1, enc fs[i].2])) D (.lst (ps.map V.ref ++ [.ref p]))) a kv := fun a kv h => by
      rcases h with (h | ⟨o, h⟩) | h
      · refine .inl (.inl ?_)
        rw [upd_ne (ne_of h e (fun z => nomatch z)), upd_ne (ne_of_none h hp)]
        exact h
      · refine .inl (.inr ⟨o, ?_⟩)
        rw [upd_ne (ne_of h e (fun z => nomatch z)), upd_ne (ne_of_none h hp)]
        exact h
      · exact .inr h
    exact Paired.snoc (Paired.mono keep pr) (SqT.of (by rw [upd_ne (Ne.symm hDp)]; exact upd_same))
  · rintro H ⟨s, ps, e, hi, pr⟩
    rw [hlen, List.take_length] at pr
    exact hd H ps s e pr
/-- [(path, files[path]) for path in sorted(files)]: rising pairs -/
theorem lc_sorted {K : PySem.W.Frag} {i0 j : Nat} {σ : L2.St} {H1 : Hp} {D p dd : Addr} {Qd : Hp → Prop} {ks : List Str} {fs : Fs}
    (hw : ∀ x, wipe ((wipe σ [j]).set j (some x)) [j] = wipe σ [j]) (hj : ∀ x, ((wipe σ [j]).set j (some x))[j]? = some (some x)) (hi0 : ∀ x, ((wipe σ [j]).set j (some x))[i0]? = some (some (.ref dd)))
    (hp : H1 p = some (.lst (ks.map V.str))) (hdd : H1 dd = some (.dK (kvF fs))) (perm : ks.Perm (fs.map (·.1))) (hl : ks.length ≤ 1000) (hD : H1 D = none)
    (hd : ∀ (H2 : Hp) (vs : List V), Same H1 H2 → H2 D = some (.lst vs) → vs.length = ks.length → Reps H2 ((sortF fs ks).map pairD) vs → Qd H2) :
    ∃ W : Nat → Nat → Hp → Prop, (∃ m, W 0 m (upd H1 D (.lst []))) ∧ ∀ i m H, W i m H →
      ((Itl K p).stop i H ∧ Qd H) ∨ ((Itl K p).go i H ∧ ∃ Nx : Hp → Prop, (∀ H', Nx H' → ∃ m', m' < m ∧ W (i + 1) m' H') ∧ ∀ x H', (Itl K p).yld i H x H' → gName j x (wipe σ [j]) H' fun σ2 H2 => wipe σ2 [j] = wipe σ [j] ∧ tYes σ2 H2 fun b H3 =>
        if b = true then (tTup (tCons (tVar j) (tCons (tDGet (tVar i0) (tVar j)) tNil))) σ2 H3 fun y H4 => ∃ acc, H4 D = some (.lst acc) ∧ acc.length < sizeLine ∧ Nx (upd H4 D (.lst (acc ++ [y]))) else Nx H3) := by
  refine lc_list (K := K) (a := p) (xs := ks.map V.str) (fun i H => Same H1 H ∧ ∃ vs : List V, H D = some (.lst vs) ∧ vs.length = i ∧ Reps H ((sortF fs (ks.take i)).map pairD) vs)
    ⟨Same.new hD, [], upd_same, rfl, rfl⟩ (fun i H _ q => SqL.of (q.1 _ _ hp)) ?_ ?_
  · rintro i x H hx ⟨s, vs, e, hi, hr⟩
    rw [List.getElem?_map] at hx
    obtain ⟨k, hk, rfl⟩ := Option.map_eq_some_iff.mp hx
    have hil : i < ks.length := (List.getElem?_eq_some_iff.mp hk).1
    have hkm : k ∈ fs.map (·.1) := perm.mem_iff.mp (List.mem_of_getElem? hk)
    obtain ⟨c, hc⟩ := Option.isSome_iff_exists.mp (valF_isSome.mpr hkm)
    have dg : DGet H dd (.str k) (some (.str c)) := by
      have := DGet.k (k := Sum.inr k) (s _ _ hdd)
      rw [kvF_val', hc] at this
      exact this
    refine ⟨hw _, _, hj _, _, hi0 _, _, hj _, dd, _, rfl, dg, (by show 2 ≤ sizeLine; decide), fun t ht => ?_⟩
    have htD : D ≠ t := fun z => by
      rw [← z, e] at ht
      cases ht
    refine ⟨vs, by rw [upd_ne htD]; exact e, small_lt (by omega), Same.mut (fun b o z => by rw [upd_ne (ne_of_none (s b o z) ht)]; exact s b o z) hD, vs ++ [.ref t], upd_same, by rw [List.length_append]; simp only [List.length_cons, List.length_nil]; omega, ?_⟩
    have es : (sortF fs (ks.take (i + 1))).map pairD = (sortF fs (ks.take i)).map pairD ++ [pairD (k, c)] := by
      unfold sortF
      rw [List.take_add_one, hk, List.map_append, List.map_append]
      simp [hc]
    rw [es]
    have tk : Tk (upd H t (.tup [.str k, .str c])) (upd (upd H t (.tup [.str k, .str c])) D (.lst (vs ++ [.ref t]))) := Tk.lst (by rw [upd_ne htD]; exact e)
    exact Reps.snoc (Reps.keep tk (Reps.keep (Tk.new ht) hr)) (Rep.keep tk (pair_rep upd_same))
  · rintro H ⟨s, vs, e, hi, hr⟩
    rw [List.length_map] at hi hr
    rw [List.take_length] at hr
    exact hd H vs s e hi hr
/-- pairs of different paths, one by one -/
theorem merge_new {α : Type} (f : α → V) : ∀ (gs fs : List (Str × α)), ((fs ++ gs).map (·.1)).Nodup → mergeK (kvG f fs) (kvG f gs) = kvG f (fs ++ gs)
  | [], fs, _ => by rw [List.append_nil]; rfl
  | q :: r, fs, nd => by
    have hn : valV (kvG f fs) (Sum.inr q.1) = none := by
      rw [kvF_val]
      cases e : valF fs q.1 with
      | none => rfl
      | some c =>
        have h1 : q.1 ∈ fs.map (·.1) := valF_isSome.mp (by rw [e]; rfl)
        rw [List.map_append, List.map_cons, List.nodup_append] at nd
        exact absurd rfl (nd.2.2 _ h1 _ (List.mem_cons_self ..))
    have ih := merge_new f r (fs ++ [q]) (by rw [List.append_assoc]; exact nd)
    rw [List.append_assoc] at ih
    rw [← show fs ++ [q] ++ r = fs ++ q :: r by simp, List.append_assoc] 
    refine Eq.trans ?_ ih
    show mergeK (putK (kvG f fs) (Sum.inr q.1) (f q.2)) (kvG f r) = _
    rw [putK_new (f q.2) hn]
    unfold kvG
    rw [List.map_append]
    rfl
theorem merge_all {α : Type} (f : α → V) {fs : List (Str × α)} (nd : (fs.map (·.1)).Nodup) : mergeK [] (kvG f fs) = kvG f fs := merge_new f fs [] nd
end Kl

namespace Kl
open PySem L2 Kd
/-- the files after a change, after all -/
def stepE (fs : Fs) : Str × Option Str → Fs
  | (p, none) => dropF fs p
  | (p, some c) => putF fs p c
def applyE (fs : Fs) (es : Es) : Fs := es.foldl stepE fs
theorem FOk.stepE {fs : Fs} (h : FOk fs) {q : Str × Option Str} (hp : q.1 ∈ allPaths) (hc : ∀ c, q.2 = some c → Ct 1000 c) : FOk (stepE fs q) := by
  obtain ⟨p, o⟩ := q
  cases o with
  | none => exact h.drop
  | some c => exact h.put hp (hc c rfl)
theorem FOk.applyE : ∀ {es : Es} {fs : Fs}, FOk fs → EOk es → FOk (applyE fs es)
  | [], fs, h, _ => h
  | q :: r, fs, h, e => FOk.applyE (es := r) (h.stepE (e.path q (List.mem_cons_self ..)) (e.ct q (List.mem_cons_self ..)))
      ⟨(List.nodup_cons.mp e.nd).2, fun z hz => e.path z (List.mem_cons_of_mem _ hz), fun z hz => e.ct z (List.mem_cons_of_mem _ hz)⟩
theorem dropF_none {α : Type} {fs : List (Str × α)} {p : Str} (h : valF fs p = none) : dropF fs p = fs := by
  refine List.filter_eq_self.mpr fun q hq => decide_eq_true fun e => valF_none h (List.mem_map.mpr ⟨q, hq, e⟩)
theorem EOk.take {es : Es} (h : EOk es) (i : Nat) : EOk (es.take i) :=
  ⟨by rw [List.map_take]; exact (List.take_sublist _ _).nodup h.nd, fun q hq => h.path q (List.mem_of_mem_take hq), fun q hq => h.ct q (List.mem_of_mem_take hq)⟩
theorem change_of {H : Hp} {q : Str × Option Str} {v : V} (h : Rep H (changeD q) v) : ∃ t, v = .ref t ∧ match q with
    | (p, none) => Rd H t (.tup [.str "drop", .str p])
    | (p, some c) => Rd H t (.tup [.str "put", .str p, .str c]) := by
  obtain ⟨p, o⟩ := q
  cases o with
  | none =>
    obtain ⟨t, vs, rfl, ht, _, x, r, rfl, hx, y, r2, rfl, hy, hn⟩ := h
    cases (show r2 = [] from hn)
    cases (show x = V.str "drop" from hx)
    cases (show y = V.str p from hy)
    exact ⟨t, rfl, ht⟩
  | some c =>
    obtain ⟨t, vs, rfl, ht, _, x, r, rfl, hx, y, r2, rfl, hy, z, r3, rfl, hz, hn⟩ := h
    cases (show r3 = [] from hn)
    cases (show x = V.str "put" from hx)
    cases (show y = V.str p from hy)
    cases (show z = V.str c from hz)
    exact ⟨t, rfl, ht⟩
/-- a dict of files at dd, made since H0; all else stands -/
structure NewF (H0 : Hp) (dd : Addr) (fs : Fs) (H : Hp) : Prop where
  same : Same H0 H
  new : H0 dd = none
  at_ : H dd = some (.dK (kvF fs))
  ok : FOk fs
theorem NewF.put {H0 H : Hp} {dd : Addr} {fs gs : Fs} (r : NewF H0 dd fs H) (h : FOk gs) : NewF H0 dd gs (upd H dd (.dK (kvF gs))) :=
  ⟨Same.mut r.same r.new, r.new, upd_same, h⟩
theorem NewF.room {H0 H : Hp} {dd : Addr} {fs : Fs} (r : NewF H0 dd fs H) : (kvF fs).length < sizeLine := by
  unfold kvF kvG
  rw [List.length_map]
  exact small_lt (by have := r.ok.few; omega)
theorem NewF.dput {H0 H : Hp} {dd : Addr} {fs : Fs} (r : NewF H0 dd fs H) {p c : Str} : DPut H dd (.str p) (.str c) (upd H dd (.dK (kvF (putF fs p c)))) := by
  rw [← kvF_put']
  exact DPut.k (k := Sum.inr p) r.at_ r.room
/-- an edit told -/
def spEdited (_ : PySem.W.Frag) : Sp := fun vs H Q _ => ∃ (u v : V) (fs : Fs) (es : Es), vs = [u, v] ∧ Rep H (filesD fs) u ∧ FOk fs ∧ Rep H (editD es) v ∧ EOk es ∧
  ∀ (x : V) (gs : Fs) (H' : Hp), Same H H' → Rep H' (filesD gs) x → FOk gs → Asc (gs.map (·.1)) → (∀ p, valF gs p = valF (applyE fs es) p) → Q x H'
section
variable {P : Program} {w : World} {K : PySem.W.Frag} {mg : Str → Option Value} {base : Heap}
abbrev s_l_edited : Stmt := topS 45
theorem sc_l_edited : FnScope ["files", "edit", "one", "known", "path"] ["files", "edit"] (defScope s_l_edited) := ⟨rfl, rfl, rfl, by decide +kernel, rfl, by decide +kernel, by decide +kernel⟩
theorem ok_edited {f : Addr} {fd : FuncData} (F : Fun K "_law_edited" "_law_edited" s_l_edited f fd) (T : Glo mg) : FnOk P w K mg base CX0 1 f fd ["files", "edit"] (spEdited K) := by
  refine F.ok sc_l_edited (fun vs H Q E h => ?_) (fun cdv A outer s H vs Q E hr h => ?_)
  · obtain ⟨u, v, fs, es, rfl, _⟩ := h
    rfl
  · obtain ⟨u, v, fs, es, rfl, hU, fok, hV, eok, kk⟩ := h
    obtain ⟨up, us, rfl, hup, _, hus⟩ := hU
    obtain ⟨vp, vs, rfl, hvp, _, hvs⟩ := hV
    have hu := hu_of hr
    refine ⟨_, (pss_cons (ps_set (i := 3) sc_l_edited.nd rfl (.inr rfl) (pe_callTy (call_dictP rfl) (by rfl) T.dict (by decide +kernel) (pa_cons (pe_lc (own := [("one", 2)]) (g := gName 2) (tt := tYes) rfl sc_l_edited.nd (pi_tup (pv 0)) (blkOk_by (N := ["files", "edit", "one", "known", "path"]) (sc := defScope s_l_edited) (by decide +kernel)) (fun _ _ _ _ _ => (pg_name (i := 2) sc_l_edited.nd rfl (.inl rfl))) (fun _ _ _ _ _ => pts_nil) (fun _ _ _ _ _ => (pe_tup (pa_cons (pe_ix (r := rIxT K) ix_tup (pv 2) pe_int (fun _ _ => rfl)) (pa_cons (pe_ix (r := rIxT K) ix_tup (pv 2) pe_int (fun _ _ => rfl)) pa_nil))))) pa_nil)))
      (pss_cons (ps_for PassesOwn.never rfl (pi_tup (pv 1)) (pg_name (i := 2) sc_l_edited.nd rfl (.inl rfl))
      (pss_one (ps_if (pt_cmpR op_eq (pe_ix ix_tup (pv 2) pe_int (fun _ _ => rfl)) pe_str (nomark _))
        (pss_one (ps_dput hu (pv 3) (pe_ix ix_tup (pv 2) pe_int (fun _ _ => rfl)) (pe_ix ix_tup (pv 2) pe_int (fun _ _ => rfl)) rfl))
        (pss_one (ps_if (pt_cmp (pc_din hu (pe_ix ix_tup (pv 2) pe_int (fun _ _ => rfl)) (pv 3)))
          (pss_one (ps_expr (pe_dpop1 (pv 3) (pe_ix ix_tup (pv 2) pe_int (fun _ _ => rfl)) ⟨rfl, rfl, rfl, rfl⟩)))
          pss_nil)))))
      (pss_one (ps_ret (pe_callTy call_tuple_of (by rfl) T.tuple PyProof.Rows.boot_tuple (pa_cons (pe_lc (own := [("path", 4)]) (g := gName 4) (tt := tYes) rfl sc_l_edited.nd (pi_list (pe_callB (call_sortedD rfl) (by rfl) T.sorted (by decide +kernel) (pa_cons (pv 3) pa_nil))) (blkOk_by (N := ["files", "edit", "one", "known", "path"]) (sc := defScope s_l_edited) (by decide +kernel)) (fun _ _ _ _ _ => (pg_name (i := 4) sc_l_edited.nd rfl (.inl rfl))) (fun _ _ _ _ _ => pts_nil) (fun _ _ _ _ _ => (pe_tup (pa_cons (pv 4) (pa_cons (pe_dget hu (pv 3) (pv 4) (fun _ _ => rfl)) pa_nil))))) pa_nil)))))), ?_⟩
    have fl := fok.few
    refine ⟨_, rfl, up, rfl, ⟨_, .inl hup⟩, fun D hD => lc_pairs (vs := us) (fs := fs) (enc := V.str) (fun _ => rfl) (fun _ => rfl) (.inl hup) hus (by omega) hD (fun q t H2 Qv ht hq => ⟨_, rfl, t, _, 1, _, rfl, rfl, .inl ht, rfl, hq⟩) fun H1 ps s1 e1 pr => ?_⟩
    refine ⟨D, ps, _, rfl, SqL.of e1, pr, fun dd hdd => ?_⟩
    rw [merge_all V.str fok.nd]
    have hdd0 : H dd = none := by
      cases e : H dd with
      | none => rfl
      | some o =>
        rw [s1 _ _ e] at hdd
        cases hdd
    have N1 : NewF H dd fs (upd H1 dd (.dK (kvG V.str fs))) := ⟨Same.mut s1 hdd0, hdd0, upd_same, fok⟩
    clear pr e1
    generalize upd H1 dd (.dK (kvG V.str fs)) = H2 at N1 ⊢
    have hlen := hvs.len
    rw [List.length_map] at hlen
    have ne0 : ∀ {H3 : Hp} {gs : Fs}, NewF H dd gs H3 → Rd H3 vp (.tup vs) := fun n => Rd.same n.same hvp
    refine ⟨_, rfl, vp, rfl, ⟨_, .inl (ne0 N1)⟩, for_tup (K := K) (a := vp) (xs := vs) (fun i σ H3 => ∃ k2 : Option V, σ = [some (.ref up), some (.ref vp), k2, some (.ref dd), none] ∧ NewF H dd (applyE fs (es.take i)) H3)
      ⟨_, rfl, N1⟩ (fun i σ H3 _ ⟨_, _, n⟩ => .inl (ne0 n)) ?_ ?_⟩
    · rintro i x σ H3 hx ⟨k2, rfl, N⟩
      have hil : i < es.length := by
        have := (List.getElem?_eq_some_iff.mp hx).1
        omega
      have hq : es[i]? = some es[i] := List.getElem?_eq_getElem hil
      obtain ⟨v, hv, hrep⟩ := hvs.get (i := i) (d := changeD es[i]) (by rw [List.getElem?_map, hq]; rfl)
      obtain rfl : v = x := Option.some.inj (hv.symm.trans hx)
      have hrep := hrep.keep (Same.tk N.same)
      have hm := eok.path _ (List.getElem_mem hil)
      have hc := eok.ct _ (List.getElem_mem hil)
      have ea : applyE fs (es.take (i + 1)) = stepE (applyE fs (es.take i)) es[i] := by
        unfold applyE
        rw [List.take_add_one, hq, List.foldl_append]
        rfl
      rw [ea]
      generalize es[i] = q at hrep hm hc ⊢
      generalize applyE fs (es.take i) = gs at N ⊢
      obtain ⟨p, o⟩ := q
      obtain ⟨t, rfl, ht⟩ := change_of hrep
      cases o with
      | some c =>
        refine ⟨_, rfl, t, _, 0, _, rfl, rfl, .inl ht, rfl, rfl, _, rfl, ite2 (fun _ => ?_) (fun z => absurd rfl z)⟩
        exact ⟨_, rfl, t, _, 2, _, rfl, rfl, .inl ht, rfl, _, rfl, _, rfl, t, _, 1, _, rfl, rfl, .inl ht, rfl, dd, _, rfl, N.dput, _, rfl, N.put (N.ok.put hm (hc c rfl))⟩
      | none =>
        refine ⟨_, rfl, t, _, 0, _, rfl, rfl, .inl ht, rfl, rfl, _, rfl, ite2 (fun z => absurd (V.str.inj (of_decide_eq_true z)) (by decide)) (fun _ => ?_)⟩
        have dg : DGet H3 dd (.str p) ((valF gs p).map V.str) := by
          have := DGet.k (k := Sum.inr p) N.at_
          rw [kvF_val'] at this
          exact this
        refine ⟨_, rfl, t, _, 1, _, rfl, rfl, .inl ht, rfl, _, rfl, dd, _, rfl, dg, _, rfl, ite2 (fun z => ?_) (fun z => ?_)⟩
        · rw [Option.isSome_map] at z
          obtain ⟨c, hc⟩ := Option.isSome_iff_exists.mp z
          refine ⟨_, rfl, dd, rfl, .inl ⟨_, .inl N.at_⟩, _, rfl, t, _, 1, _, rfl, rfl, .inl ht, rfl, kvF gs, Sum.inr p, .str c, N.at_, rfl, by rw [kvF_val', hc]; rfl, ?_⟩
          rw [kvF_drop']
          exact ⟨_, rfl, N.put N.ok.drop⟩
        · rw [Option.isSome_map] at z
          have hn : valF gs p = none := by
            cases e : valF gs p with
            | none => rfl
            | some c => exact absurd (by rw [e]; rfl) z
          refine ⟨_, rfl, ?_⟩
          show NewF H dd (dropF gs p) H3
          rw [dropF_none hn]
          exact N
    · rintro σ H3 ⟨k2, rfl, N⟩
      have e1 : es.take vs.length = es := List.take_of_length_le (by omega)
      rw [e1] at N
      generalize hg : applyE fs es = gs at N kk
      have gl := N.ok.few
      refine ⟨_, rfl, dd, kvF gs, gs.map (·.1), rfl, .inl N.at_, kvF_keys' gs, by rw [List.length_map]; omega, fun ks p perm srt hp => ?_⟩
      have asc : Asc ks := asc_of srt (perm.nodup_iff.mpr N.ok.nd)
      have hks : ks.length ≤ 20 := by
        rw [perm.length_eq, List.length_map]
        exact gl
      have hp0 : dd ≠ p := fun z => by
        rw [← z, N.at_] at hp
        cases hp
      have s4 : Same H (upd H3 p (.lst (ks.map V.str))) := fun b o e => by rw [upd_ne (ne_of_none (N.same b o e) hp)]; exact N.same b o e
      refine ⟨p, rfl, ⟨_, SqL.of upd_same⟩, fun D2 hD2 => lc_sorted (fun _ => rfl) (fun _ => rfl) (fun _ => rfl) upd_same (by rw [upd_ne hp0]; exact N.at_) perm (by omega) hD2 fun H5 ws s5 e5 l5 r5 => ⟨D2, _, rfl, .inl ⟨SqL.of e5, fun l hl => ?_⟩⟩⟩
      have s6 : Same H (upd H5 l (.tup ws)) := fun b o e => by
        have := s5 b o (s4 b o e)
        rw [upd_ne (ne_of_none this hl)]
        exact this
      exact kk (.ref l) (sortF gs ks) _ s6 ⟨l, ws, rfl, .inl upd_same, small_of (by omega), Reps.keep (Tk.new hl) r5⟩ (N.ok.sort perm) (by rw [sortF_keys]; exact asc) (fun q => sortF_val perm q)
end
end Kl

namespace Kl
open PySem L2 Kd
def mergeF {α : Type} (a l : List (Str × α)) : List (Str × α) := l.foldl (fun acc q => putF acc q.1 q.2) a
theorem mergeK_F {α : Type} (f : α → V) : ∀ (l a : List (Str × α)), mergeK (kvG f a) (kvG f l) = kvG f (mergeF a l)
  | [], _ => rfl
  | q :: r, a => by
    have := mergeK_F f r (putF a q.1 q.2)
    rw [← kvF_put] at this
    exact this
theorem mergeF_nodup {α : Type} : ∀ (l a : List (Str × α)), (a.map (·.1)).Nodup → ((mergeF a l).map (·.1)).Nodup
  | [], _, h => h
  | q :: r, a, h => mergeF_nodup r (putF a q.1 q.2) (putF_nodup h)
theorem mergeF_mem {α : Type} (p : Str) : ∀ (l a : List (Str × α)), p ∈ (mergeF a l).map (·.1) ↔ p ∈ a.map (·.1) ∨ p ∈ l.map (·.1)
  | [], a => by simp [mergeF]
  | q :: r, a => by
    have ih := mergeF_mem p r (putF a q.1 q.2)
    have hk : p ∈ (putF a q.1 q.2).map (·.1) ↔ p ∈ a.map (·.1) ∨ p = q.1 := by
      rw [putF_keys]
      split
      · rename_i hm
        exact ⟨.inl, fun h => h.elim id fun e => by rw [e]; exact hm⟩
      · rw [List.mem_append, List.mem_singleton]
    show p ∈ (mergeF (putF a q.1 q.2) r).map (·.1) ↔ _
    rw [ih, hk, List.map_cons, List.mem_cons, or_assoc]
theorem Reps.append {H : Hp} : ∀ {ds es : List D} {vs ws : List V}, Reps H ds vs → Reps H es ws → Reps H (ds ++ es) (vs ++ ws)
  | [], _, _, _, h, k => by
    cases (show _ = [] from h)
    exact k
  | _ :: _, _, _, _, ⟨v, r, e, h, q⟩, k => by
    subst e
    exact ⟨v, r ++ _, rfl, h, Reps.append q k⟩
theorem catA_ok {K : PySem.W.Frag} {a b : Addr} {xs ys : List V} {H : Hp} {Q : VK} (ha : SqT K H a xs) (hb : SqT K H b ys) (hz : xs.length + ys.length ≤ sizeLine)
    (k : ∀ (p : Addr) (H' : Hp), Same H H' → SqT K H' p (xs ++ ys) → Q (.ref p) H') : rCatA K (.ref a) (.ref b) H Q := by
  refine ⟨a, b, xs, ys, rfl, rfl, ha, hb, hz, fun e => ?_, fun _ e => ?_, fun _ _ p hp => k p _ (Same.new hp) (SqT.of upd_same)⟩
  · subst e
    exact k b H (fun _ _ z => z) hb
  · subst e
    exact k a H (fun _ _ z => z) (by rw [List.append_nil]; exact ha)
/-- what changes between two -/
def betw (a b : Option Str) : Option (Option Str) :=
  match b with
  | none => if a.isSome = true then some none else none
  | some c => if a = some c then none else some (some c)
def betweenL (fs gs : Fs) (ks : List Str) : Es := ks.filterMap fun p => (betw (valF fs p) (valF gs p)).map fun o => (p, o)
theorem betweenL_snoc (fs gs : Fs) {ks : List Str} {i : Nat} {p : Str} (h : ks[i]? = some p) : betweenL fs gs (ks.take (i + 1)) = betweenL fs gs (ks.take i) ++ ((betw (valF fs p) (valF gs p)).map fun o => (p, o)).toList := by
  unfold betweenL
  rw [List.take_add_one, h, List.filterMap_append]
  congr 1
def spBetween (_ : PySem.W.Frag) : Sp := fun vs H Q _ => ∃ (u v : V) (fs gs : Fs), vs = [u, v] ∧ Rep H (filesD fs) u ∧ FOk fs ∧ Rep H (filesD gs) v ∧ FOk gs ∧
  ∀ (x : V) (ks : List Str) (H' : Hp), Same H H' → Rep H' (editD (betweenL fs gs ks)) x → Asc ks → (∀ p, p ∈ ks ↔ p ∈ fs.map (·.1) ∨ p ∈ gs.map (·.1)) → Q x H'
section
variable {P : Program} {w : World} {K : PySem.W.Frag} {mg : Str → Option Value} {base : Heap}
abbrev s_l_between : Stmt := topS 46
theorem sc_l_between : FnScope ["old", "new", "low", "high", "made", "path", "one"] ["old", "new"] (defScope s_l_between) := ⟨rfl, rfl, rfl, by decide +kernel, rfl, by decide +kernel, by decide +kernel⟩
theorem ok_between {f : Addr} {fd : FuncData} (F : Fun K "_law_between" "_law_between" s_l_between f fd) (T : Glo mg) : FnOk P w K mg base CX0 1 f fd ["old", "new"] (spBetween K) := by
  refine F.ok sc_l_between (fun vs H Q E h => ?_) (fun cdv A outer s H vs Q E hr h => ?_)
  · obtain ⟨u, v, fs, gs, rfl, _⟩ := h
    rfl
  · obtain ⟨u, v, fs, gs, rfl, hU, fok, hV, gok, kk⟩ := h
    obtain ⟨up, us, rfl, hup, _, hus⟩ := hU
    obtain ⟨vp, vs, rfl, hvp, _, hvs⟩ := hV
    have hu := hu_of hr
    refine ⟨_, (pss_cons (ps_set (i := 2) sc_l_between.nd rfl (.inl rfl) (pe_callTy (call_dictP rfl) (by rfl) T.dict (by decide +kernel) (pa_cons (pe_lc (own := [("one", 6)]) (g := gName 6) (tt := tYes) rfl sc_l_between.nd (pi_tup (pv 0)) (blkOk_by (N := ["old", "new", "low", "high", "made", "path", "one"]) (sc := defScope s_l_between) (by decide +kernel)) (fun _ _ _ _ _ => (pg_name (i := 6) sc_l_between.nd rfl (.inl rfl))) (fun _ _ _ _ _ => pts_nil) (fun _ _ _ _ _ => (pe_tup (pa_cons (pe_ix (r := rIxT K) ix_tup (pv 6) pe_int (fun _ _ => rfl)) (pa_cons (pe_ix (r := rIxT K) ix_tup (pv 6) pe_int (fun _ _ => rfl)) pa_nil))))) pa_nil)))
      (pss_cons (ps_set (i := 3) sc_l_between.nd rfl (.inl rfl) (pe_callTy (call_dictP rfl) (by rfl) T.dict (by decide +kernel) (pa_cons (pe_lc (own := [("one", 6)]) (g := gName 6) (tt := tYes) rfl sc_l_between.nd (pi_tup (pv 1)) (blkOk_by (N := ["old", "new", "low", "high", "made", "path", "one"]) (sc := defScope s_l_between) (by decide +kernel)) (fun _ _ _ _ _ => (pg_name (i := 6) sc_l_between.nd rfl (.inl rfl))) (fun _ _ _ _ _ => pts_nil) (fun _ _ _ _ _ => (pe_tup (pa_cons (pe_ix (r := rIxT K) ix_tup (pv 6) pe_int (fun _ _ => rfl)) (pa_cons (pe_ix (r := rIxT K) ix_tup (pv 6) pe_int (fun _ _ => rfl)) pa_nil))))) pa_nil)))
      (pss_cons (ps_set (i := 4) sc_l_between.nd rfl (.inl rfl) (pe_lst pa_nil))
      (pss_cons (ps_for PassesOwn.never rfl (pi_list (pe_callB (call_sortedD rfl) (by rfl) T.sorted (by decide +kernel) (pa_cons (pe_callTy (call_dictP rfl) (by rfl) T.dict (by decide +kernel) (pa_cons (pe_lc (own := [("one", 6)]) (g := gName 6) (tt := tYes) rfl sc_l_between.nd (pi_tup (pe_op op_catA (pv 0) (pv 1))) (blkOk_by (N := ["old", "new", "low", "high", "made", "path", "one"]) (sc := defScope s_l_between) (by decide +kernel)) (fun _ _ _ _ _ => (pg_name (i := 6) sc_l_between.nd rfl (.inl rfl))) (fun _ _ _ _ _ => pts_nil) (fun _ _ _ _ _ => (pe_tup (pa_cons (pe_ix (r := rIxT K) ix_tup (pv 6) pe_int (fun _ _ => rfl)) (pa_cons pe_int pa_nil))))) pa_nil)) pa_nil))) (pg_name (i := 5) sc_l_between.nd rfl (.inl rfl))
      (pss_one (ps_if (pt_cmp (pc_dnotin hu (pv 5) (pv 3)))
        (pss_one (ps_expr (pe_bm PySem.F.plainAttrs_list PySem.F.slot_list_append PySem.F.type_list_append mt_append (pv 4) (pa_cons (pe_tup (pa_cons pe_str (pa_cons (pv 5) pa_nil))) pa_nil))))
        (pss_one (ps_if (PW.pt (pw_or (pt_cmp (pc_dnotin hu (pv 5) (pv 2))) (pw_or1 (pt_cmpR op_ne (pe_dget hu (pv 2) (pv 5) (fun _ _ => rfl)) (pe_dget hu (pv 3) (pv 5) (fun _ _ => rfl)) (nomark _)))))
          (pss_one (ps_expr (pe_bm PySem.F.plainAttrs_list PySem.F.slot_list_append PySem.F.type_list_append mt_append (pv 4) (pa_cons (pe_tup (pa_cons pe_str (pa_cons (pv 5) (pa_cons (pe_dget hu (pv 3) (pv 5) (fun _ _ => rfl)) pa_nil)))) pa_nil))))
          pss_nil)))))
      (pss_one (ps_ret (pe_callTy call_tuple_of (by rfl) T.tuple PyProof.Rows.boot_tuple (pa_cons (pv 4) pa_nil)))))))), ?_⟩
    have fl := fok.few
    have gl := gok.few
    have ul := hus.len
    have vl := hvs.len
    rw [List.length_map] at ul vl
    refine ⟨_, rfl, up, rfl, ⟨_, .inl hup⟩, fun D hD => lc_pairs (vs := us) (fs := fs) (enc := V.str) (fun _ => rfl) (fun _ => rfl) (.inl hup) hus (by omega) hD (fun q t H2 Qv ht hq => ⟨_, rfl, t, _, 1, _, rfl, rfl, .inl ht, rfl, hq⟩) fun H1 ps s1 e1 pr => ?_⟩
    refine ⟨D, ps, _, rfl, SqL.of e1, pr, fun lo hlo => ?_⟩
    rw [merge_all V.str fok.nd]
    have hlo0 : H lo = none := by
      cases e : H lo with
      | none => rfl
      | some o =>
        rw [s1 _ _ e] at hlo
        cases hlo
    have N1 : NewF H lo fs (upd H1 lo (.dK (kvG V.str fs))) := ⟨Same.mut s1 hlo0, hlo0, upd_same, fok⟩
    clear pr e1
    generalize upd H1 lo (.dK (kvG V.str fs)) = H2 at N1 ⊢
    refine ⟨_, rfl, vp, rfl, ⟨_, .inl (Rd.same N1.same hvp)⟩, fun D2 hD2 => lc_pairs (vs := vs) (fs := gs) (enc := V.str) (fun _ => rfl) (fun _ => rfl) (.inl (Rd.same N1.same hvp)) (hvs.keep (Same.tk N1.same)) (by omega) hD2 (fun q t H2 Qv ht hq => ⟨_, rfl, t, _, 1, _, rfl, rfl, .inl ht, rfl, hq⟩) fun H3 ps2 s3 e3 pr => ?_⟩
    refine ⟨D2, ps2, _, rfl, SqL.of e3, pr, fun hi hhi => ?_⟩
    rw [merge_all V.str gok.nd]
    have s3' : Same H H3 := fun b o e => s3 b o (N1.same b o e)
    have hhi0 : H hi = none := by
      cases e : H hi with
      | none => rfl
      | some o =>
        rw [s3' _ _ e] at hhi
        cases hhi
    have lo3 := s3 _ _ N1.at_
    have N2 : NewF H hi gs (upd H3 hi (.dK (kvG V.str gs))) := ⟨Same.mut s3' hhi0, hhi0, upd_same, gok⟩
    have lo4 : upd H3 hi (.dK (kvG V.str gs)) lo = some (.dK (kvF fs)) := by rw [upd_ne (ne_of_none lo3 hhi)]; exact lo3
    clear pr e3
    generalize upd H3 hi (.dK (kvG V.str gs)) = H4 at N2 lo4 ⊢
    refine ⟨(by show 0 ≤ sizeLine; decide), fun md hmd => ?_⟩
    have md0 : H md = none := by
      cases e : H md with
      | none => rfl
      | some o =>
        rw [N2.same _ _ e] at hmd
        cases hmd
    have s5 : Same H4 (upd H4 md (.lst [])) := Same.new hmd
    have s5' : Same H (upd H4 md (.lst [])) := fun b o e => s5 b o (N2.same b o e)
    have lo5 := s5 _ _ lo4
    have hi5 := s5 _ _ N2.at_
    have md5 : upd H4 md (.lst []) md = some (.lst []) := upd_same
    generalize upd H4 md (.lst []) = H5 at s5' lo5 hi5 md5 ⊢
    refine ⟨_, rfl, _, rfl, ?_⟩
    refine catA_ok (.inl (Rd.same s5' hup)) (.inl (Rd.same s5' hvp)) (small_of (by omega)) fun cp H6 s6 hcp => ?_
    have s6' : Same H H6 := fun b o e => s6 b o (s5' b o e)
    refine ⟨cp, rfl, ⟨_, hcp⟩, fun D3 hD3 => lc_pairs (vs := us ++ vs) (fs := fs ++ gs) (enc := fun _ => V.int 1) (fun _ => rfl) (fun _ => rfl) hcp (by rw [List.map_append]; exact Reps.append (hus.keep (Same.tk s6')) (hvs.keep (Same.tk s6'))) (by rw [List.length_append]; omega) hD3 (fun q t H2 Qv ht hq => hq) fun H7 ps3 s7 e7 pr => ?_⟩
    refine ⟨D3, ps3, _, rfl, SqL.of e7, pr, fun du hdu => ?_⟩
    rw [show mergeK [] (kvG (fun _ : Str => V.int 1) (fs ++ gs)) = kvG (fun _ : Str => V.int 1) (mergeF [] (fs ++ gs)) from mergeK_F _ _ []]
    have mem : ∀ p, p ∈ (mergeF [] (fs ++ gs)).map (·.1) ↔ p ∈ fs.map (·.1) ∨ p ∈ gs.map (·.1) := fun p => by
      rw [mergeF_mem, List.map_append, List.mem_append]
      simp
    have mnd : ((mergeF [] (fs ++ gs)).map (·.1)).Nodup := mergeF_nodup _ _ List.nodup_nil
    have mlen : ((mergeF [] (fs ++ gs)).map (·.1)).length ≤ 20 := Nat.le_trans (nodup_le (ys := allPaths) mnd fun p hp => by
      rcases (mem p).mp hp with h | h
      · obtain ⟨q, hq, e⟩ := List.mem_map.mp h
        rw [← e]
        exact fok.path q hq
      · obtain ⟨q, hq, e⟩ := List.mem_map.mp h
        rw [← e]
        exact gok.path q hq) (by decide)
    generalize mergeF [] (fs ++ gs) = m at mem mnd mlen ⊢
    have s8 : Same H5 (upd H7 du (.dK (kvG (fun _ : Str => V.int 1) m))) := fun b o e => by
      have := s7 b o (s6 b o e)
      rw [upd_ne (ne_of_none this hdu)]
      exact this
    clear pr e7
    refine ⟨du, kvG (fun _ : Str => V.int 1) m, m.map (·.1), rfl, .inl upd_same, kvF_keys _ m, by omega, fun ks p perm srt hp => ?_⟩
    generalize upd H7 du (.dK (kvG (fun _ : Str => V.int 1) m)) = H8 at s8 hp ⊢
    have asc : Asc ks := asc_of srt (perm.nodup_iff.mpr mnd)
    have hks : ks.length ≤ 20 := by
      rw [perm.length_eq]
      exact mlen
    have memk : ∀ p, p ∈ ks ↔ p ∈ fs.map (·.1) ∨ p ∈ gs.map (·.1) := fun p => perm.mem_iff.trans (mem p)
    have md8 := s8 _ _ md5
    have hpm : p ≠ md := fun z => by
      rw [z, md8] at hp
      cases hp
    have s9 : Same H5 (upd H8 p (.lst (ks.map V.str))) := fun b o e => by
      have := s8 b o e
      rw [upd_ne (ne_of_none this hp)]
      exact this
    have p9 : upd H8 p (.lst (ks.map V.str)) p = some (.lst (ks.map V.str)) := upd_same
    generalize upd H8 p (.lst (ks.map V.str)) = H9 at s9 p9 ⊢
    refine ⟨p, rfl, ⟨_, SqL.of p9⟩, for_list (K := K) (a := p) (xs := ks.map V.str) (fun i σ Hi => ∃ (k5 : Option V) (ws : List V), σ = [some (.ref up), some (.ref vp), some (.ref lo), some (.ref hi), some (.ref md), k5, none] ∧ Same H Hi ∧ Hi lo = some (.dK (kvF fs)) ∧ Hi hi = some (.dK (kvF gs)) ∧ Hi p = some (.lst (ks.map V.str)) ∧ Hi md = some (.lst ws) ∧ ws.length ≤ i ∧ Reps Hi ((betweenL fs gs (ks.take i)).map changeD) ws)
      ⟨_, [], rfl, fun b o e => s9 b o (s5' b o e), s9 _ _ lo5, s9 _ _ hi5, p9, s9 _ _ md5, Nat.le_refl _, rfl⟩ (fun i σ Hi _ ⟨_, _, _, _, _, _, z, _⟩ => SqL.of z) ?_ ?_⟩
    · rintro i x σ Hi hx ⟨k5, ws, rfl, sH, lo_, hi_, p_, md_, wl, wr⟩
      rw [List.getElem?_map] at hx
      obtain ⟨k, hk, rfl⟩ := Option.map_eq_some_iff.mp hx
      have hil : i < ks.length := (List.getElem?_eq_some_iff.mp hk).1
      have snoc := betweenL_snoc fs gs hk
      have dl : DGet Hi lo (.str k) ((valF fs k).map V.str) := by
        have := DGet.k (k := Sum.inr k) lo_
        rw [kvF_val'] at this
        exact this
      have dh : DGet Hi hi (.str k) ((valF gs k).map V.str) := by
        have := DGet.k (k := Sum.inr k) hi_
        rw [kvF_val'] at this
        exact this
      have push : ∀ {t : Addr} {xs : List V} {o : Option Str} {k5 : Option V}, betw (valF fs k) (valF gs k) = some o → Hi t = none → Rep (upd Hi t (.tup xs)) (changeD (k, o)) (.ref t) → (∃ (k5' : Option V) (ws' : List V), [some (V.ref up), some (V.ref vp), some (V.ref lo), some (V.ref hi), some (V.ref md), k5, none] = [some (V.ref up), some (V.ref vp), some (V.ref lo), some (V.ref hi), some (V.ref md), k5', none] ∧ Same H (upd (upd Hi t (.tup xs)) md (.lst (ws ++ [.ref t]))) ∧ upd (upd Hi t (.tup xs)) md (.lst (ws ++ [.ref t])) lo = some (.dK (kvF fs)) ∧ upd (upd Hi t (.tup xs)) md (.lst (ws ++ [.ref t])) hi = some (.dK (kvF gs)) ∧ upd (upd Hi t (.tup xs)) md (.lst (ws ++ [.ref t])) p = some (.lst (ks.map V.str)) ∧ upd (upd Hi t (.tup xs)) md (.lst (ws ++ [.ref t])) md = some (.lst ws') ∧ ws'.length ≤ i + 1 ∧ Reps (upd (upd Hi t (.tup xs)) md (.lst (ws ++ [.ref t]))) ((betweenL fs gs (ks.take (i + 1))).map changeD) ws') ∧ upd Hi t (.tup xs) md = some (.lst ws) := by
        intro t xs o k5 hb ht hrep
        have tm : md ≠ t := fun z => by
          rw [← z, md_] at ht
          cases ht
        have md1 : upd Hi t (.tup xs) md = some (.lst ws) := by rw [upd_ne tm]; exact md_
        refine ⟨⟨_, ws ++ [.ref t], rfl, Same.mut (fun b o e => by rw [upd_ne (ne_of_none (sH b o e) ht)]; exact sH b o e) md0, ?_, ?_, ?_, upd_same, by rw [List.length_append]; simp only [List.length_cons, List.length_nil]; omega, ?_⟩, md1⟩
        · rw [upd_ne (ne_of lo_ md_ (fun z => nomatch z)), upd_ne (ne_of_none lo_ ht)]
          exact lo_
        · rw [upd_ne (ne_of hi_ md_ (fun z => nomatch z)), upd_ne (ne_of_none hi_ ht)]
          exact hi_
        · rw [upd_ne hpm, upd_ne (ne_of_none p_ ht)]
          exact p_
        · rw [snoc, hb, List.map_append]
          have tk : Tk (upd Hi t (.tup xs)) (upd (upd Hi t (.tup xs)) md (.lst (ws ++ [.ref t]))) := Tk.lst md1
          exact Reps.snoc (Reps.keep tk (Reps.keep (Tk.new ht) wr)) (Rep.keep tk hrep)
      have skip : ∀ {k5 : Option V}, betw (valF fs k) (valF gs k) = none → ∃ (k5' : Option V) (ws' : List V), [some (V.ref up), some (V.ref vp), some (V.ref lo), some (V.ref hi), some (V.ref md), k5, none] = [some (V.ref up), some (V.ref vp), some (V.ref lo), some (V.ref hi), some (V.ref md), k5', none] ∧ Same H Hi ∧ Hi lo = some (.dK (kvF fs)) ∧ Hi hi = some (.dK (kvF gs)) ∧ Hi p = some (.lst (ks.map V.str)) ∧ Hi md = some (.lst ws') ∧ ws'.length ≤ i + 1 ∧ Reps Hi ((betweenL fs gs (ks.take (i + 1))).map changeD) ws' := by
        intro k5 hb
        refine ⟨_, ws, rfl, sH, lo_, hi_, p_, md_, by omega, ?_⟩
        rw [snoc, hb, Option.map_none, Option.toList_none, List.append_nil]
        exact wr
      have wroom : ws.length < sizeLine := small_lt (by omega)
      have hin := (memk k).mp (List.mem_of_getElem? hk)
      refine ⟨_, rfl, _, rfl, hi, _, rfl, dh, _, rfl, ite2 (fun z => ?_) (fun z => ?_)⟩
      · have hg : valF gs k = none := by
          cases e : valF gs k with
          | none => rfl
          | some c => rw [e] at z; cases z
        have hf : (valF fs k).isSome = true := by
          rcases hin with h | h
          · exact valF_isSome.mpr h
          · rw [← valF_isSome, hg] at h
            cases h
        have hb : betw (valF fs k) (valF gs k) = some none := by
          rw [hg]
          show (if (valF fs k).isSome = true then some none else none) = _
          rw [if_pos hf]
        refine ⟨_, rfl, .inl ⟨rfl, _, SqL.of md_⟩, _, rfl, (by show 2 ≤ sizeLine; decide), fun t ht => ?_⟩
        have pu := push (k5 := some (.str k)) hb ht (drop_rep upd_same)
        exact ⟨md, _, _, rfl, rfl, pu.2, wroom, pu.1⟩
      · obtain ⟨c, hc⟩ : ∃ c, valF gs k = some c := by
          cases e : valF gs k with
          | none => rw [e] at z; exact absurd rfl z
          | some c => exact ⟨c, rfl⟩
        rw [hc] at dh
        cases hf : valF fs k with
        | none =>
          rw [hf] at dl
          have hb : betw (valF fs k) (valF gs k) = some (some c) := by
            rw [hf, hc]
            rfl
          refine ⟨_, rfl, _, rfl, lo, _, rfl, dl, _, rfl, iteT (iteT ?_)⟩
          refine ⟨_, rfl, .inl ⟨rfl, _, SqL.of md_⟩, _, rfl, _, rfl, _, rfl, hi, _, rfl, dh, (by show 3 ≤ sizeLine; decide), fun t ht => ?_⟩
          have pu := push (k5 := some (.str k)) hb ht (put_rep upd_same)
          exact ⟨md, _, _, rfl, rfl, pu.2, wroom, pu.1⟩
        | some d =>
          rw [hf] at dl
          refine ⟨_, rfl, _, rfl, lo, _, rfl, dl, _, rfl, iteF ?_⟩
          refine ⟨_, rfl, _, rfl, lo, _, rfl, dl, _, rfl, _, rfl, hi, _, rfl, dh, rfl, _, rfl, ite2 (fun z => ?_) (fun z => ?_)⟩
          · have hn : d ≠ c := fun e => by
              subst e
              simp at z
            have hb : betw (valF fs k) (valF gs k) = some (some c) := by
              rw [hf, hc]
              show (if some d = some c then none else some (some c)) = _
              rw [if_neg (fun e => hn (Option.some.inj e))]
            refine ⟨_, rfl, .inl ⟨rfl, _, SqL.of md_⟩, _, rfl, _, rfl, _, rfl, hi, _, rfl, dh, (by show 3 ≤ sizeLine; decide), fun t ht => ?_⟩
            have pu := push (k5 := some (.str k)) hb ht (put_rep upd_same)
            exact ⟨md, _, _, rfl, rfl, pu.2, wroom, pu.1⟩
          · have hn : d = c := by
              simpa using z
            refine skip ?_
            rw [hf, hc, hn]
            show (if some c = some c then none else some (some c)) = _
            rw [if_pos rfl]
    · rintro σ Hi ⟨k5, ws, rfl, sH, lo_, hi_, p_, md_, wl, wr⟩
      rw [List.length_map] at wl wr
      rw [List.take_length] at wr
      refine ⟨_, rfl, md, _, rfl, .inl ⟨SqL.of md_, fun l hl => ?_⟩⟩
      exact kk (.ref l) ks _ (fun b o e => by rw [upd_ne (ne_of_none (sH b o e) hl)]; exact sH b o e) ⟨l, ws, rfl, .inl upd_same, small_of (by omega), Reps.keep (Tk.new hl) wr⟩ asc memk
end
end Kl

namespace Kl
open PySem L2 Kd
/-! data of lists and tuples -/
mutual
def RepX (N : Addr → Prop) (H : Hp) : D → V → Prop
  | .non, v => v = .non
  | .bl b, v => v = .bl b
  | .int i, v => v = .int i
  | .str x, v => v = .str x
  | .tup ds, v => ∃ (a : Addr) (vs : List V), v = .ref a ∧ N a ∧ (Rd H a (.tup vs) ∨ H a = some (.lst vs)) ∧ vs.length ≤ sizeLine ∧ RepsX N H ds vs
def RepsX (N : Addr → Prop) (H : Hp) : List D → List V → Prop
  | [], vs => vs = []
  | d :: ds, vs => ∃ (v : V) (r : List V), vs = v :: r ∧ RepX N H d v ∧ RepsX N H ds r
end
mutual
theorem RepX.keep {N M : Addr → Prop} {H H' : Hp} (k : ∀ a, N a → M a) (g : ∀ a u, N a → H a = some u → H' a = some u) : ∀ {d : D} {v : V}, RepX N H d v → RepX M H' d v
  | .non, _, h => h
  | .bl _, _, h => h
  | .int _, _, h => h
  | .str _, _, h => h
  | .tup _, _, ⟨a, vs, e, n, h, l, r⟩ => ⟨a, vs, e, k a n, h.imp (fun h => h.imp (g a _ n) fun ⟨o, h⟩ => ⟨o, g a _ n h⟩) (g a _ n), l, RepsX.keep k g r⟩
theorem RepsX.keep {N M : Addr → Prop} {H H' : Hp} (k : ∀ a, N a → M a) (g : ∀ a u, N a → H a = some u → H' a = some u) : ∀ {ds : List D} {vs : List V}, RepsX N H ds vs → RepsX M H' ds vs
  | [], _, h => h
  | _ :: _, _, ⟨v, r, e, h, q⟩ => ⟨v, r, e, RepX.keep k g h, RepsX.keep k g q⟩
end
abbrev RepL : Hp → D → V → Prop := RepX (fun _ => True)
abbrev RepsL : Hp → List D → List V → Prop := RepsX (fun _ => True)
theorem RepX.same {N : Addr → Prop} {H H' : Hp} (s : Same H H') {d : D} {v : V} (r : RepX N H d v) : RepX N H' d v := r.keep (fun _ n => n) (fun a u _ e => s a u e)
theorem RepsX.same {N : Addr → Prop} {H H' : Hp} (s : Same H H') {d : List D} {v : List V} (r : RepsX N H d v) : RepsX N H' d v := r.keep (fun _ n => n) (fun a u _ e => s a u e)
theorem RepX.any {N : Addr → Prop} {H : Hp} {d : D} {v : V} (r : RepX N H d v) : RepL H d v := r.keep (fun _ _ => trivial) (fun _ _ _ e => e)
mutual
theorem Rep.loose {H : Hp} : ∀ {d : D} {v : V}, Rep H d v → RepL H d v
  | .non, _, h => h
  | .bl _, _, h => h
  | .int _, _, h => h
  | .str _, _, h => h
  | .tup _, _, ⟨a, vs, e, h, l, r⟩ => ⟨a, vs, e, trivial, .inl h, l, Reps.loose r⟩
theorem Reps.loose {H : Hp} : ∀ {ds : List D} {vs : List V}, Reps H ds vs → RepsL H ds vs
  | [], _, h => h
  | _ :: _, _, ⟨v, r, e, h, q⟩ => ⟨v, r, e, Rep.loose h, Reps.loose q⟩
end
theorem RepsX.len {N : Addr → Prop} {H : Hp} : ∀ {ds : List D} {vs : List V}, RepsX N H ds vs → vs.length = ds.length
  | [], _, h => by cases (show _ = [] from h); rfl
  | d :: ds, _, ⟨v, r, e, h, q⟩ => by subst e; exact congrArg (· + 1) (RepsX.len q)
theorem RepsX.get {N : Addr → Prop} {H : Hp} : ∀ {ds : List D} {vs : List V} {i : Nat} {d : D}, RepsX N H ds vs → ds[i]? = some d → ∃ v, vs[i]? = some v ∧ RepX N H d v
  | [], _, i, d, _, e => by simp at e
  | c :: ds, _, 0, d, ⟨v, r, e1, h, q⟩, e => by
    subst e1
    obtain rfl : c = d := Option.some.inj e
    exact ⟨v, rfl, h⟩
  | c :: ds, _, i + 1, d, ⟨v, r, e1, h, q⟩, e => by
    subst e1
    exact RepsX.get (ds := ds) (i := i) q e
theorem RepsX.snoc {N : Addr → Prop} {H : Hp} : ∀ {ds : List D} {vs : List V} {d : D} {v : V}, RepsX N H ds vs → RepX N H d v → RepsX N H (ds ++ [d]) (vs ++ [v])
  | [], _, d, v, h, r => by
    cases (show _ = [] from h)
    exact ⟨v, [], rfl, r, rfl⟩
  | c :: ds, _, d, v, ⟨u, r, e, h, q⟩, rv => by
    subst e
    exact ⟨u, r ++ [v], rfl, h, RepsX.snoc q rv⟩
def spLoose (_ : PySem.W.Frag) (n : Nat) : Sp := fun vs H Q _ => ∃ (d : D) (v : V) (t : Int), vs = [v, .int t] ∧ Rep H d v ∧ D.dep d < n ∧ ∀ (x : V) (H' : Hp), Same H H' → RepX (fun a => H a = none) H' d x → Q x H'
section
variable {P : Program} {w : World} {K : PySem.W.Frag} {mg : Str → Option Value} {base : Heap}
abbrev s_l_loose : Stmt := topS 33
theorem sc_l_loose : FnScope ["value", "turn", "made", "one"] ["value", "turn"] (defScope s_l_loose) := ⟨rfl, rfl, rfl, by decide +kernel, rfl, by decide +kernel, by decide +kernel⟩
theorem ok_loose {f : Addr} {fd : FuncData} (A : At K mg "_law_loose" s_l_loose ["value", "turn"] f fd) (T : Glo mg) : ∀ n : Nat, FnOk P w K mg base CX0 n f fd ["value", "turn"] (spLoose K n)
  | 0 => ⟨fun vs H Q E ⟨d, v, t, e, _⟩ => by subst e; rfl, fun A outer s H args us vs Q E hr he hb hv ⟨d, v, t, e, _, z, _⟩ => absurd z (Nat.not_lt_zero _)⟩
  | n + 1 => by
    have c_l_loose : C8.Cal P w K mg base n "_law_loose" (spLoose K n) [] := cal_of A (ok_loose A T n)
    refine A.fn.ok sc_l_loose (fun vs H Q E h => ?_) (fun cdv A outer s H vs Q E hr h => ?_)
    · obtain ⟨d, v, t, rfl, _⟩ := h
      rfl
    · obtain ⟨d, v, t, rfl, rv, hd, k⟩ := h
      refine ⟨_, (pss_cons (ps_if (pt_val (pe_callB call_isi (by rfl) T.isi PyProof.Rows.boot_isinstance (pa_cons (pv 0) (pa_cons (pe_bltn (v := .ty "tuple") (by rfl) T.tuple PyProof.Rows.boot_tuple rfl) pa_nil))))
        (pss_cons (ps_setLc (i := 2) (own := [("one", 3)]) (g := gName 3) (tt := tYes) rfl sc_l_loose.nd rfl rfl (sw_true rfl rfl rfl (by decide +kernel)) (pi_tup (pv 0)) (blkOk_by (N := ["value", "turn", "made", "one"]) (sc := defScope s_l_loose) (by decide +kernel)) (fun _ _ _ _ _ => (pg_name (i := 3) sc_l_loose.nd rfl (.inl rfl))) (fun _ _ _ _ _ => pts_nil) (fun _ _ _ _ _ => (C8.pe_c c_l_loose hr (by omega) (by rfl) (pa_cons (pv 3) (pa_cons (pe_op op_add (pv 1) pe_int) pa_nil)))))
          (pss_one (ps_ret (pe_ifExp (pt_cmpR op_eq (pe_op op_mod (pe_callTy call_int1 (by rfl) T.int PyProof.Rows.boot_int (pa_cons (pv 1) pa_nil)) pe_int) pe_int (nomark _)) (pv 2) (pe_callTy call_tuple_of (by rfl) T.tuple PyProof.Rows.boot_tuple (pa_cons (pv 2) pa_nil))))))
        pss_nil)
        (pss_one (ps_ret (pv 0)))), ?_⟩
      refine ⟨v, rfl, v, _, _, _, _, rfl, .ty _, rv.ty, D.kTup d, _, rfl, ?_⟩
      match d, rv, hd, k with
      | .non, rv, hd, k =>
        refine iteF ?_
        cases (show v = V.non from rv)
        exact ⟨_, rfl, k _ H (fun _ _ e => e) rfl⟩
      | .bl x, rv, hd, k =>
        refine iteF ?_
        cases (show v = V.bl x from rv)
        exact ⟨_, rfl, k _ H (fun _ _ e => e) rfl⟩
      | .int x, rv, hd, k =>
        refine iteF ?_
        cases (show v = V.int x from rv)
        exact ⟨_, rfl, k _ H (fun _ _ e => e) rfl⟩
      | .str x, rv, hd, k =>
        refine iteF ?_
        cases (show v = V.str x from rv)
        exact ⟨_, rfl, k _ H (fun _ _ e => e) rfl⟩
      | .tup ds, rv, hd, k =>
        obtain ⟨vp, vs, rfl, hvp, hz, hvs⟩ := rv
        refine iteT ?_
        have hlen := hvs.len
        refine ⟨_, rfl, vp, rfl, ⟨_, .inl hvp⟩, fun dl hD => lc_tup (K := K) (a := vp) (xs := vs) (fun i H1 => Same H H1 ∧ ∃ ws : List V, H1 dl = some (.lst ws) ∧ ws.length = i ∧ RepsX (fun a => H a = none ∧ a ≠ dl) H1 (ds.take i) ws)
          ⟨Same.new hD, [], upd_same, rfl, rfl⟩ (fun i H1 _ p => .inl (Rd.same p.1 hvp)) ?_ ?_⟩
        · rintro i x H1 hx ⟨s1, ws, e1, l1, r1⟩
          have hil : i < vs.length := (List.getElem?_eq_some_iff.mp hx).1
          have hq : ds[i]? = some (ds[i]'(by omega)) := List.getElem?_eq_getElem (by omega)
          obtain ⟨v, hv, hrep⟩ := hvs.get hq
          obtain rfl : v = x := Option.some.inj (hv.symm.trans hx)
          have hdep : D.dep (ds[i]'(by omega)) < n := by
            have := D.dep_mem hq
            simp only [D.dep] at hd
            omega
          refine ⟨rfl, _, rfl, _, rfl, _, _, rfl, rfl, ds[i]'(by omega), v, t + 1, rfl, hrep.keep (Same.tk s1), hdep, fun y H2 s2 r2 => ?_⟩
          have e2 := s2 _ _ e1
          have nD : ∀ {a : Addr}, H1 a = none → a ≠ dl := fun h z => by
            rw [z, e1] at h
            cases h
          have n0 : ∀ {a : Addr}, H1 a = none → H a = none := fun {a} h => by
            cases z : H a with
            | none => rfl
            | some o =>
              rw [s1 _ _ z] at h
              cases h
          refine ⟨ws, e2, by omega, Same.mut (fun b o e => s2 b o (s1 b o e)) hD, ws ++ [y], upd_same, by rw [List.length_append]; simp only [List.length_cons, List.length_nil]; omega, ?_⟩
          rw [List.take_add_one, hq]
          exact RepsX.snoc (RepsX.keep (fun _ m => m) (fun a u m e => by rw [upd_ne m.2]; exact s2 a u e) r1)
            (RepX.keep (fun a m => ⟨n0 m, nD m⟩) (fun a u m e => by rw [upd_ne (nD m)]; exact e) r2)
        · rintro H1 ⟨s1, ws, e1, l1, r1⟩
          rw [hlen, List.take_length] at r1
          have r1 : RepsX (fun a => H a = none) H1 ds ws := r1.keep (fun _ m => m.1) (fun _ _ _ e => e)
          refine ⟨_, rfl, .inl ⟨_, rfl, _, _, rfl, rfl, (by show (0 : Int) < 2; decide), rfl, _, rfl, ite2 (fun _ => ?_) (fun _ => ?_)⟩⟩
          · exact ⟨_, rfl, k _ H1 s1 ⟨dl, ws, rfl, hD, .inr e1, by omega, r1⟩⟩
          · refine ⟨_, rfl, dl, _, rfl, .inl ⟨SqL.of e1, fun l hl => ?_⟩⟩
            have hl0 : H l = none := by
              cases z : H l with
              | none => rfl
              | some o =>
                rw [s1 _ _ z] at hl
                cases hl
            exact k _ _ (Same.mut s1 hl0) ⟨l, ws, rfl, hl0, .inl (.inl upd_same), by omega, r1.keep (fun _ m => m) (fun a u _ e => by rw [upd_ne (ne_of_none e hl)]; exact e)⟩
end
end Kl

namespace Kl
open PySem L2 Kd
/-! a step at a time: the goal behind each stands as it is written -/
theorem st_g {i : Nat} {x : V} {σ : L2.St} {H : Hp} {k : L2.St → Hp → Prop} (h : k (σ.set i (some x)) H) : gName i x σ H k := h
theorem st_seq {t u : TS} {D : Ends} {σ : L2.St} {H : Hp} (h : t { D with nx := u D } σ H) : tSeq t u D σ H := h
theorem st_asg {te : TE} {g : TG} {D : Ends} {σ : L2.St} {H : Hp} (h : te σ H fun x H1 => g x σ H1 D.nx) : tAsg te g D σ H := h
theorem te_tup {t : TA} {σ : L2.St} {H : Hp} {Q : VK} (h : t σ H fun xs H1 => xs.length ≤ sizeLine ∧ ∀ p, H1 p = none → Q (.ref p) (upd H1 p (.tup xs))) : tTup t σ H Q := h
theorem ta_cons {ta : TE} {tr : TA} {σ : L2.St} {H : Hp} {Q : List V → Hp → Prop} (h : ta σ H fun x H1 => tr σ H1 fun xs H2 => Q (x :: xs) H2) : tCons ta tr σ H Q := h
theorem ta_nil {σ : L2.St} {H : Hp} {Q : List V → Hp → Prop} (h : Q [] H) : tNil σ H Q := h
/-- d[k] if k in d else None -/
theorem opt_get {a i : Nat} {σ : L2.St} {H : Hp} {Q : VK} {d : Addr} {k : Str} {o : Option Str} (ha : σ[a]? = some (some (.str k))) (hi : σ[i]? = some (some (.ref d))) (h : DGet H d (.str k) (o.map V.str)) (q : Q (encO o) H) :
    tIf (tB (tDIn (tVar a) (tVar i))) (tDGet (tVar i) (tVar a)) (tC .non) σ H Q := by
  refine ⟨_, ha, _, hi, d, _, rfl, h, _, rfl, ?_⟩
  cases o with
  | none => exact iteF q
  | some c => exact iteT ⟨_, hi, _, ha, d, _, rfl, h, q⟩
theorem encO_inj {a b : Option Str} (h : encO a = encO b) : a = b := by
  cases a with
  | none =>
    cases b with
    | none => rfl
    | some c => cases h
  | some c =>
    cases b with
    | none => cases h
    | some d => cases h; rfl
theorem encO_scal (a b : Option Str) : scal (encO a) (encO b) = true := by
  cases a <;> cases b <;> rfl
end Kl

namespace Kl
open PySem L2 Kd
/-- one path merged: none is a clash -/
def mergeOne (a m y : Option Str) : Option (Option Str) := if m = y ∨ y = a then some m else if m = a then some y else none
def madeL (fs gs hs : Fs) (ks : List Str) : Fs := ks.filterMap fun p => ((mergeOne (valF fs p) (valF gs p) (valF hs p)).getD none).map fun c => (p, c)
def clashL (fs gs hs : Fs) (ks : List Str) : List Str := ks.filter fun p => (mergeOne (valF fs p) (valF gs p) (valF hs p)).isNone
def mergedD (fs gs hs : Fs) (ks : List Str) : D :=
  if clashL fs gs hs ks = [] then .tup [.str "tree", filesD (madeL fs gs hs ks)] else .tup [.str "clash", .tup ((clashL fs gs hs ks).map .str)]
def spMerged (_ : PySem.W.Frag) : Sp := fun vs H Q _ => ∃ (u v z : V) (fs gs hs : Fs), vs = [u, v, z] ∧ Rep H (filesD fs) u ∧ FOk fs ∧ Rep H (filesD gs) v ∧ FOk gs ∧ Rep H (filesD hs) z ∧ FOk hs ∧
  ∀ (x : V) (ks : List Str) (H' : Hp), Same H H' → Rep H' (mergedD fs gs hs ks) x → Asc ks → (∀ p, p ∈ ks ↔ (p ∈ fs.map (·.1) ∨ p ∈ gs.map (·.1)) ∨ p ∈ hs.map (·.1)) → Q x H'
structure MSt (H : Hp) (lo mi yo p md cl : Addr) (fs gs hs : Fs) (ks : List Str) (ws cs : List V) (Hi : Hp) : Prop where
  same : Same H Hi
  lo_ : Hi lo = some (.dK (kvF fs))
  mi_ : Hi mi = some (.dK (kvF gs))
  yo_ : Hi yo = some (.dK (kvF hs))
  p_ : Hi p = some (.lst (ks.map V.str))
  md_ : Hi md = some (.lst ws)
  cl_ : Hi cl = some (.lst cs)
  pm : p ≠ md
  pc : p ≠ cl
  cm : cl ≠ md
  md0 : H md = none
  cl0 : H cl = none
section
variable {H Hi : Hp} {lo mi yo p md cl : Addr} {fs gs hs : Fs} {ks : List Str} {ws cs ws' cs' : List V}
theorem MSt.fresh {t : Addr} {o : HO} (h : MSt H lo mi yo p md cl fs gs hs ks ws cs Hi) (ht : Hi t = none) : MSt H lo mi yo p md cl fs gs hs ks ws cs (upd Hi t o) := by
  have k : ∀ {a : Addr} {u : HO}, Hi a = some u → upd Hi t o a = some u := fun e => by rw [upd_ne (ne_of_none e ht)]; exact e
  exact ⟨fun b u e => k (h.same b u e), k h.lo_, k h.mi_, k h.yo_, k h.p_, k h.md_, k h.cl_, h.pm, h.pc, h.cm, h.md0, h.cl0⟩
theorem MSt.toMd (h : MSt H lo mi yo p md cl fs gs hs ks ws cs Hi) : MSt H lo mi yo p md cl fs gs hs ks ws' cs (upd Hi md (.lst ws')) := by
  have k : ∀ {a : Addr} {kv : List (Key × V)}, Hi a = some (.dK kv) → upd Hi md (.lst ws') a = some (.dK kv) := fun e => by rw [upd_ne (ne_of e h.md_ (fun z => nomatch z))]; exact e
  exact ⟨Same.mut h.same h.md0, k h.lo_, k h.mi_, k h.yo_, by rw [upd_ne h.pm]; exact h.p_, upd_same, by rw [upd_ne h.cm]; exact h.cl_, h.pm, h.pc, h.cm, h.md0, h.cl0⟩
theorem MSt.toCl (h : MSt H lo mi yo p md cl fs gs hs ks ws cs Hi) : MSt H lo mi yo p md cl fs gs hs ks ws cs' (upd Hi cl (.lst cs')) := by
  have k : ∀ {a : Addr} {kv : List (Key × V)}, Hi a = some (.dK kv) → upd Hi cl (.lst cs') a = some (.dK kv) := fun e => by rw [upd_ne (ne_of e h.cl_ (fun z => nomatch z))]; exact e
  exact ⟨Same.mut h.same h.cl0, k h.lo_, k h.mi_, k h.yo_, by rw [upd_ne h.pc]; exact h.p_, by rw [upd_ne (Ne.symm h.cm)]; exact h.md_, upd_same, h.pm, h.pc, h.cm, h.md0, h.cl0⟩
end
theorem strs_reps {H : Hp} : ∀ xs : List Str, Reps H (xs.map D.str) (xs.map V.str)
  | [] => rfl
  | x :: r => ⟨_, _, rfl, rfl, strs_reps r⟩
theorem told_rep {H : Hp} {r l : Addr} {nm : Str} {ds : List D} {vs : List V} (hr : H r = some (.tup [.str nm, .ref l])) (hl : H l = some (.tup vs)) (hz : vs.length ≤ sizeLine) (h : Reps H ds vs) : Rep H (.tup [.str nm, .tup ds]) (.ref r) :=
  ⟨r, _, rfl, .inl hr, by show 2 ≤ sizeLine; decide, .str nm, [.ref l], rfl, rfl, .ref l, [], rfl, ⟨l, vs, rfl, .inl hl, hz, h⟩, rfl⟩
theorem madeL_snoc (fs gs hs : Fs) {ks : List Str} {i : Nat} {p : Str} (h : ks[i]? = some p) : madeL fs gs hs (ks.take (i + 1)) = madeL fs gs hs (ks.take i) ++ (((mergeOne (valF fs p) (valF gs p) (valF hs p)).getD none).map fun c => (p, c)).toList := by
  unfold madeL
  rw [List.take_add_one, h, List.filterMap_append]
  congr 1
theorem clashL_snoc (fs gs hs : Fs) {ks : List Str} {i : Nat} {p : Str} (h : ks[i]? = some p) : clashL fs gs hs (ks.take (i + 1)) = clashL fs gs hs (ks.take i) ++ if (mergeOne (valF fs p) (valF gs p) (valF hs p)).isNone = true then [p] else [] := by
  unfold clashL
  rw [List.take_add_one, h, List.filter_append]
  congr 1
  simp [List.filter_cons]
section
variable {P : Program} {w : World} {K : PySem.W.Frag} {mg : Str → Option Value} {base : Heap}
abbrev s_l_merged : Stmt := topS 47
theorem sc_l_merged : FnScope ["base", "ours", "theirs", "low", "mine", "yours", "made", "clash", "path", "here", "told", "one"] ["base", "ours", "theirs"] (defScope s_l_merged) := ⟨rfl, rfl, rfl, by decide +kernel, rfl, by decide +kernel, by decide +kernel⟩
theorem ok_merged {f : Addr} {fd : FuncData} (F : Fun K "_law_merged" "_law_merged" s_l_merged f fd) (T : Glo mg) : FnOk P w K mg base CX0 1 f fd ["base", "ours", "theirs"] (spMerged K) := by
  refine F.ok sc_l_merged (fun vs H Q E h => ?_) (fun cdv A outer s H vs Q E hr h => ?_)
  · obtain ⟨u, v, z, fs, gs, hs, rfl, _⟩ := h
    rfl
  · obtain ⟨u, v, z, fs, gs, hs, rfl, hU, fok, hV, gok, hZ, hok, kk⟩ := h
    obtain ⟨up, us, rfl, hup, _, hus⟩ := hU
    obtain ⟨vp, vs, rfl, hvp, _, hvs⟩ := hV
    obtain ⟨zp, zs, rfl, hzp, _, hzs⟩ := hZ
    have hu := hu_of hr
    refine ⟨_, (pss_cons (ps_set (i := 3) sc_l_merged.nd rfl (.inl rfl) (pe_callTy (call_dictP rfl) (by rfl) T.dict (by decide +kernel) (pa_cons (pe_lc (own := [("one", 11)]) (g := gName 11) (tt := tYes) rfl sc_l_merged.nd (pi_tup (pv 0)) (blkOk_by (N := ["base", "ours", "theirs", "low", "mine", "yours", "made", "clash", "path", "here", "told", "one"]) (sc := defScope s_l_merged) (by decide +kernel)) (fun _ _ _ _ _ => (pg_name (i := 11) sc_l_merged.nd rfl (.inl rfl))) (fun _ _ _ _ _ => pts_nil) (fun _ _ _ _ _ => (pe_tup (pa_cons (pe_ix (r := rIxT K) ix_tup (pv 11) pe_int (fun _ _ => rfl)) (pa_cons (pe_ix (r := rIxT K) ix_tup (pv 11) pe_int (fun _ _ => rfl)) pa_nil))))) pa_nil)))
      (pss_cons (ps_set (i := 4) sc_l_merged.nd rfl (.inl rfl) (pe_callTy (call_dictP rfl) (by rfl) T.dict (by decide +kernel) (pa_cons (pe_lc (own := [("one", 11)]) (g := gName 11) (tt := tYes) rfl sc_l_merged.nd (pi_tup (pv 1)) (blkOk_by (N := ["base", "ours", "theirs", "low", "mine", "yours", "made", "clash", "path", "here", "told", "one"]) (sc := defScope s_l_merged) (by decide +kernel)) (fun _ _ _ _ _ => (pg_name (i := 11) sc_l_merged.nd rfl (.inl rfl))) (fun _ _ _ _ _ => pts_nil) (fun _ _ _ _ _ => (pe_tup (pa_cons (pe_ix (r := rIxT K) ix_tup (pv 11) pe_int (fun _ _ => rfl)) (pa_cons (pe_ix (r := rIxT K) ix_tup (pv 11) pe_int (fun _ _ => rfl)) pa_nil))))) pa_nil)))
      (pss_cons (ps_set (i := 5) sc_l_merged.nd rfl (.inl rfl) (pe_callTy (call_dictP rfl) (by rfl) T.dict (by decide +kernel) (pa_cons (pe_lc (own := [("one", 11)]) (g := gName 11) (tt := tYes) rfl sc_l_merged.nd (pi_tup (pv 2)) (blkOk_by (N := ["base", "ours", "theirs", "low", "mine", "yours", "made", "clash", "path", "here", "told", "one"]) (sc := defScope s_l_merged) (by decide +kernel)) (fun _ _ _ _ _ => (pg_name (i := 11) sc_l_merged.nd rfl (.inl rfl))) (fun _ _ _ _ _ => pts_nil) (fun _ _ _ _ _ => (pe_tup (pa_cons (pe_ix (r := rIxT K) ix_tup (pv 11) pe_int (fun _ _ => rfl)) (pa_cons (pe_ix (r := rIxT K) ix_tup (pv 11) pe_int (fun _ _ => rfl)) pa_nil))))) pa_nil)))
      (pss_cons (ps_set (i := 6) sc_l_merged.nd rfl (.inl rfl) (pe_lst pa_nil))
      (pss_cons (ps_set (i := 7) sc_l_merged.nd rfl (.inl rfl) (pe_lst pa_nil))
      (pss_cons (ps_for PassesOwn.never rfl (pi_list (pe_callB (call_sortedD rfl) (by rfl) T.sorted (by decide +kernel) (pa_cons (pe_callTy (call_dictP rfl) (by rfl) T.dict (by decide +kernel) (pa_cons (pe_lc (own := [("one", 11)]) (g := gName 11) (tt := tYes) rfl sc_l_merged.nd (pi_tup (pe_op op_catA (pe_op op_catA (pv 0) (pv 1)) (pv 2))) (blkOk_by (N := ["base", "ours", "theirs", "low", "mine", "yours", "made", "clash", "path", "here", "told", "one"]) (sc := defScope s_l_merged) (by decide +kernel)) (fun _ _ _ _ _ => (pg_name (i := 11) sc_l_merged.nd rfl (.inl rfl))) (fun _ _ _ _ _ => pts_nil) (fun _ _ _ _ _ => (pe_tup (pa_cons (pe_ix (r := rIxT K) ix_tup (pv 11) pe_int (fun _ _ => rfl)) (pa_cons pe_int pa_nil))))) pa_nil)) pa_nil))) (pg_name (i := 8) sc_l_merged.nd rfl (.inl rfl))
      (pss_cons (ps_set (i := 9) sc_l_merged.nd rfl (.inl rfl) (pe_tup (pa_cons (pe_ifExp (pt_cmp (pc_din hu (pv 8) (pv 3))) (pe_dget hu (pv 3) (pv 8) (fun _ _ => rfl)) pe_non) (pa_cons (pe_ifExp (pt_cmp (pc_din hu (pv 8) (pv 4))) (pe_dget hu (pv 4) (pv 8) (fun _ _ => rfl)) pe_non) (pa_cons (pe_ifExp (pt_cmp (pc_din hu (pv 8) (pv 5))) (pe_dget hu (pv 5) (pv 8) (fun _ _ => rfl)) pe_non) pa_nil)))))
        (C8.pss_cut (ps_if (PW.pt (pw_or (pt_cmpR op_eq (pe_ix ix_tup (pv 9) pe_int (fun _ _ => rfl)) (pe_ix ix_tup (pv 9) pe_int (fun _ _ => rfl)) (nomark _)) (pw_or1 (pt_cmpR op_eq (pe_ix ix_tup (pv 9) pe_int (fun _ _ => rfl)) (pe_ix ix_tup (pv 9) pe_int (fun _ _ => rfl)) (nomark _)))))
        (pss_one (ps_set (i := 10) sc_l_merged.nd rfl (.inl rfl) (pe_ix ix_tup (pv 9) pe_int (fun _ _ => rfl))))
        (pss_one (ps_if (pt_cmpR op_eq (pe_ix ix_tup (pv 9) pe_int (fun _ _ => rfl)) (pe_ix ix_tup (pv 9) pe_int (fun _ _ => rfl)) (nomark _))
          (pss_one (ps_set (i := 10) sc_l_merged.nd rfl (.inl rfl) (pe_ix ix_tup (pv 9) pe_int (fun _ _ => rfl))))
          (pss_cons (ps_expr (pe_bm PySem.F.plainAttrs_list PySem.F.slot_list_append PySem.F.type_list_append mt_append (pv 7) (pa_cons (pv 8) pa_nil)))
            (pss_one (ps_set (i := 10) sc_l_merged.nd rfl (.inl rfl) pe_non))))))
        (pss_one (ps_if (pt_cmp (pc_notN (pv 10)))
        (pss_one (ps_expr (pe_bm PySem.F.plainAttrs_list PySem.F.slot_list_append PySem.F.type_list_append mt_append (pv 6) (pa_cons (pe_tup (pa_cons (pv 8) (pa_cons (pv 10) pa_nil))) pa_nil))))
        pss_nil)))))
      (C8.pss_cut (ps_if (PW.pt (pw_or (pt_cmpR op_gt (pe_callB call_len_seq (by rfl) T.len PySem.boot_len (pa_cons (pv 7) pa_nil)) pe_int (nomark _)) (pw_or1 (pt_cmpR op_gt (pe_callB call_len_seq (by rfl) T.len PySem.boot_len (pa_cons (pv 6) pa_nil)) pe_int (nomark _)))))
      (pss_one (ps_ret (pe_tup (pa_cons pe_str (pa_cons (pe_callTy call_tuple_of (by rfl) T.tuple PyProof.Rows.boot_tuple (pa_cons (pv 7) pa_nil)) pa_nil)))))
      pss_nil)
      (pss_one (ps_ret (pe_tup (pa_cons pe_str (pa_cons (pe_callTy call_tuple_of (by rfl) T.tuple PyProof.Rows.boot_tuple (pa_cons (pv 6) pa_nil)) pa_nil)))))))))))), ?_⟩
    have fl := fok.few
    have gl := gok.few
    have hl := hok.few
    have ul := hus.len
    have vl := hvs.len
    have zl := hzs.len
    rw [List.length_map] at ul vl zl
    have rd : ∀ (j : Nat) (σ : L2.St) (q : Str × Str) (t : Addr) (H2 : Hp) (Qv : VK), σ[j]? = some (some (.ref t)) → Rd H2 t (.tup [.str q.1, .str q.2]) → Qv (V.str q.2) H2 → tOp (rIxT K) (tVar j) (tC (.int 1)) σ H2 Qv := fun j σ q t H2 Qv hj ht hq => ⟨_, hj, t, _, 1, _, rfl, rfl, .inl ht, rfl, hq⟩
    refine ⟨_, rfl, up, rfl, ⟨_, .inl hup⟩, fun dl hdl => lc_pairs (vs := us) (fs := fs) (enc := V.str) (fun _ => rfl) (fun _ => rfl) (.inl hup) hus (by omega) hdl (fun q t H2 Qv ht hq => rd 11 _ q t H2 Qv rfl ht hq) fun H1 ps s1 e1 pr => ?_⟩
    refine ⟨dl, ps, _, rfl, SqL.of e1, pr, fun lo hlo => ?_⟩
    rw [merge_all V.str fok.nd]
    have lo0 := none_of s1 hlo
    have sA : Same H (upd H1 lo (.dK (kvG V.str fs))) := Same.mut s1 lo0
    have loA : upd H1 lo (.dK (kvG V.str fs)) lo = some (.dK (kvF fs)) := upd_same
    clear pr e1
    generalize upd H1 lo (.dK (kvG V.str fs)) = H2 at sA loA ⊢
    refine ⟨_, rfl, vp, rfl, ⟨_, .inl (Rd.same sA hvp)⟩, fun dl hdl => lc_pairs (vs := vs) (fs := gs) (enc := V.str) (fun _ => rfl) (fun _ => rfl) (.inl (Rd.same sA hvp)) (hvs.keep (Same.tk sA)) (by omega) hdl (fun q t H2 Qv ht hq => rd 11 _ q t H2 Qv rfl ht hq) fun H3 ps s3 e1 pr => ?_⟩
    refine ⟨dl, ps, _, rfl, SqL.of e1, pr, fun mi hmi => ?_⟩
    rw [merge_all V.str gok.nd]
    have sB0 : Same H H3 := fun b o e => s3 b o (sA b o e)
    have mi0 := none_of sB0 hmi
    have sB : Same H (upd H3 mi (.dK (kvG V.str gs))) := Same.mut sB0 mi0
    have loB : upd H3 mi (.dK (kvG V.str gs)) lo = some (.dK (kvF fs)) := by rw [upd_ne (ne_of_none (s3 _ _ loA) hmi)]; exact s3 _ _ loA
    have miB : upd H3 mi (.dK (kvG V.str gs)) mi = some (.dK (kvF gs)) := upd_same
    clear pr e1
    generalize upd H3 mi (.dK (kvG V.str gs)) = H4 at sB loB miB ⊢
    refine ⟨_, rfl, zp, rfl, ⟨_, .inl (Rd.same sB hzp)⟩, fun dl hdl => lc_pairs (vs := zs) (fs := hs) (enc := V.str) (fun _ => rfl) (fun _ => rfl) (.inl (Rd.same sB hzp)) (hzs.keep (Same.tk sB)) (by omega) hdl (fun q t H2 Qv ht hq => rd 11 _ q t H2 Qv rfl ht hq) fun H5 ps s5 e1 pr => ?_⟩
    refine ⟨dl, ps, _, rfl, SqL.of e1, pr, fun yo hyo => ?_⟩
    rw [merge_all V.str hok.nd]
    have sC0 : Same H H5 := fun b o e => s5 b o (sB b o e)
    have yo0 := none_of sC0 hyo
    have sC : Same H (upd H5 yo (.dK (kvG V.str hs))) := Same.mut sC0 yo0
    have loC : upd H5 yo (.dK (kvG V.str hs)) lo = some (.dK (kvF fs)) := by rw [upd_ne (ne_of_none (s5 _ _ loB) hyo)]; exact s5 _ _ loB
    have miC : upd H5 yo (.dK (kvG V.str hs)) mi = some (.dK (kvF gs)) := by rw [upd_ne (ne_of_none (s5 _ _ miB) hyo)]; exact s5 _ _ miB
    have yoC : upd H5 yo (.dK (kvG V.str hs)) yo = some (.dK (kvF hs)) := upd_same
    clear pr e1
    generalize upd H5 yo (.dK (kvG V.str hs)) = H6 at sC loC miC yoC ⊢
    refine ⟨(by show 0 ≤ sizeLine; decide), fun md hmd => ⟨(by show 0 ≤ sizeLine; decide), fun cl hcl => ?_⟩⟩
    have md0 := none_of sC hmd
    have s7 : Same H6 (upd H6 md (.lst [])) := Same.new hmd
    have md7 : upd H6 md (.lst []) md = some (.lst []) := upd_same
    generalize upd H6 md (.lst []) = H7 at s7 md7 hcl ⊢
    have sH7 : Same H H7 := fun b o e => s7 b o (sC b o e)
    have cl0 := none_of sH7 hcl
    have s8 : Same H7 (upd H7 cl (.lst [])) := Same.new hcl
    have cl8 : upd H7 cl (.lst []) cl = some (.lst []) := upd_same
    have hcm : cl ≠ md := fun z => by
      rw [z, md7] at hcl
      cases hcl
    generalize upd H7 cl (.lst []) = H8 at s8 cl8 ⊢
    have sH8 : Same H H8 := fun b o e => s8 b o (sH7 b o e)
    have lo8 := s8 _ _ (s7 _ _ loC)
    have mi8 := s8 _ _ (s7 _ _ miC)
    have yo8 := s8 _ _ (s7 _ _ yoC)
    have md8 := s8 _ _ md7
    refine ⟨_, rfl, _, rfl, ?_⟩
    refine catA_ok (.inl (Rd.same sH8 hup)) (.inl (Rd.same sH8 hvp)) (small_of (by omega)) fun c1 H9 s9 hc1 => ?_
    refine ⟨_, rfl, ?_⟩
    have sH9 : Same H H9 := fun b o e => s9 b o (sH8 b o e)
    refine catA_ok hc1 (.inl (Rd.same sH9 hzp)) (small_of (by rw [List.length_append]; omega)) fun cp HA sA2 hcp => ?_
    have sHA : Same H HA := fun b o e => sA2 b o (sH9 b o e)
    refine ⟨cp, rfl, ⟨_, hcp⟩, fun dl hdl => lc_pairs (vs := us ++ vs ++ zs) (fs := fs ++ gs ++ hs) (enc := fun _ => V.int 1) (fun _ => rfl) (fun _ => rfl) hcp (by rw [List.map_append, List.map_append]; exact Reps.append (Reps.append (hus.keep (Same.tk sHA)) (hvs.keep (Same.tk sHA))) (hzs.keep (Same.tk sHA))) (by rw [List.length_append, List.length_append]; omega) hdl (fun q t H2 Qv ht hq => hq) fun HB ps3 sB2 e7 pr => ?_⟩
    refine ⟨dl, ps3, _, rfl, SqL.of e7, pr, fun du hdu => ?_⟩
    rw [show mergeK [] (kvG (fun _ : Str => V.int 1) (fs ++ gs ++ hs)) = kvG (fun _ : Str => V.int 1) (mergeF [] (fs ++ gs ++ hs)) from mergeK_F _ _ []]
    have mem : ∀ p, p ∈ (mergeF [] (fs ++ gs ++ hs)).map (·.1) ↔ (p ∈ fs.map (·.1) ∨ p ∈ gs.map (·.1)) ∨ p ∈ hs.map (·.1) := fun p => by
      rw [mergeF_mem, List.map_append, List.map_append, List.mem_append, List.mem_append]
      simp
    have mnd : ((mergeF [] (fs ++ gs ++ hs)).map (·.1)).Nodup := mergeF_nodup _ _ List.nodup_nil
    have inAll : ∀ {l : Fs} {p : Str}, FOk l → p ∈ l.map (·.1) → p ∈ allPaths := fun ok h => by
      obtain ⟨q, hq, e⟩ := List.mem_map.mp h
      rw [← e]
      exact ok.path q hq
    have mlen : ((mergeF [] (fs ++ gs ++ hs)).map (·.1)).length ≤ 20 := Nat.le_trans (nodup_le (ys := allPaths) mnd fun p hp => by
      rcases (mem p).mp hp with (h | h) | h
      · exact inAll fok h
      · exact inAll gok h
      · exact inAll hok h) (by decide)
    generalize mergeF [] (fs ++ gs ++ hs) = m at mem mnd mlen ⊢
    have sC2 : Same H8 (upd HB du (.dK (kvG (fun _ : Str => V.int 1) m))) := fun b o e => by
      have := sB2 b o (sA2 b o (s9 b o e))
      rw [upd_ne (ne_of_none this hdu)]
      exact this
    clear pr e7
    refine ⟨du, kvG (fun _ : Str => V.int 1) m, m.map (·.1), rfl, .inl upd_same, kvF_keys _ m, by omega, fun ks p perm srt hp => ?_⟩
    generalize upd HB du (.dK (kvG (fun _ : Str => V.int 1) m)) = HC at sC2 hp ⊢
    have asc : Asc ks := asc_of srt (perm.nodup_iff.mpr mnd)
    have hks : ks.length ≤ 20 := by
      rw [perm.length_eq]
      exact mlen
    have memk : ∀ p, p ∈ ks ↔ (p ∈ fs.map (·.1) ∨ p ∈ gs.map (·.1)) ∨ p ∈ hs.map (·.1) := fun p => perm.mem_iff.trans (mem p)
    have hpm : p ≠ md := fun z => by
      rw [z, sC2 _ _ md8] at hp
      cases hp
    have hpc : p ≠ cl := fun z => by
      rw [z, sC2 _ _ cl8] at hp
      cases hp
    have sD : Same H8 (upd HC p (.lst (ks.map V.str))) := fun b o e => by
      have := sC2 b o e
      rw [upd_ne (ne_of_none this hp)]
      exact this
    have pD : upd HC p (.lst (ks.map V.str)) p = some (.lst (ks.map V.str)) := upd_same
    generalize upd HC p (.lst (ks.map V.str)) = HD at sD pD ⊢
    have M0 : MSt H lo mi yo p md cl fs gs hs ks [] [] HD := ⟨fun b o e => sD b o (sH8 b o e), sD _ _ lo8, sD _ _ mi8, sD _ _ yo8, pD, sD _ _ md8, sD _ _ cl8, hpm, hpc, hcm, md0, cl0⟩
    clear sD pD sC2 sHA sA2 sB2 sH9 s9 sH8 lo8 mi8 yo8 md8 cl8 s8 s7 md7 sH7 loC miC yoC sC sC0 loB miB sB sB0 sA loA
    refine ⟨p, rfl, ⟨_, SqL.of M0.p_⟩, for_list (K := K) (a := p) (xs := ks.map V.str) (fun i σ Hi => ∃ (k8 k9 k10 : Option V) (ws cs : List V), σ = [some (.ref up), some (.ref vp), some (.ref zp), some (.ref lo), some (.ref mi), some (.ref yo), some (.ref md), some (.ref cl), k8, k9, k10, none] ∧ MSt H lo mi yo p md cl fs gs hs ks ws cs Hi ∧ ws.length ≤ i ∧ Reps Hi ((madeL fs gs hs (ks.take i)).map pairD) ws ∧ cs = (clashL fs gs hs (ks.take i)).map V.str)
      ⟨_, _, _, [], [], rfl, M0, Nat.le_refl _, rfl, rfl⟩ (fun i σ Hi _ ⟨_, _, _, _, _, _, z, _⟩ => SqL.of z.p_) ?_ ?_⟩
    · rintro i x σ Hi hx ⟨k8, k9, k10, ws, cs, rfl, M, wl, wr, ec⟩
      rw [List.getElem?_map] at hx
      obtain ⟨k, hk, rfl⟩ := Option.map_eq_some_iff.mp hx
      have hil : i < ks.length := (List.getElem?_eq_some_iff.mp hk).1
      have sn1 := madeL_snoc fs gs hs hk
      have sn2 := clashL_snoc fs gs hs hk
      have dg : ∀ {a : Addr} {l : Fs}, Hi a = some (.dK (kvF l)) → DGet Hi a (.str k) ((valF l k).map V.str) := fun {a l} e => by
        have := DGet.k (k := Sum.inr k) e
        rw [kvF_val'] at this
        exact this
      generalize hA : valF fs k = oa at sn1 sn2
      generalize hM : valF gs k = om at sn1 sn2
      generalize hY : valF hs k = oy at sn1 sn2
      refine st_g ?_
      refine st_seq ?_
      refine st_asg ?_
      refine te_tup ?_
      refine ta_cons ?_
      refine opt_get rfl rfl (dg M.lo_) ?_
      refine ta_cons ?_
      refine opt_get rfl rfl (dg M.mi_) ?_
      refine ta_cons ?_
      refine opt_get rfl rfl (dg M.yo_) ?_
      rw [hA, hM, hY]
      refine ⟨(by show 3 ≤ sizeLine; decide), fun t ht => ?_⟩
      have M := M.fresh (o := .tup [encO oa, encO om, encO oy]) ht
      have htt : upd Hi t (.tup [encO oa, encO om, encO oy]) t = some (.tup [encO oa, encO om, encO oy]) := upd_same
      have wr := Reps.keep (Tk.new (o := .tup [encO oa, encO om, encO oy]) ht) wr
      generalize upd Hi t (.tup [encO oa, encO om, encO oy]) = Hj at M htt wr ⊢
      refine ⟨fun σ' H' => ∃ (told : Option Str) (cs' : List V), σ' = [some (.ref up), some (.ref vp), some (.ref zp), some (.ref lo), some (.ref mi), some (.ref yo), some (.ref md), some (.ref cl), some (.str k), some (.ref t), some (encO told), none] ∧ MSt H lo mi yo p md cl fs gs hs ks ws cs' H' ∧ Reps H' ((madeL fs gs hs (ks.take i)).map pairD) ws ∧ told = (mergeOne oa om oy).getD none ∧ cs' = (clashL fs gs hs (ks.take (i + 1))).map V.str, ?_, ?_⟩
      · have nil_ : ∀ {c : Prop}, mergeOne oa om oy ≠ none → (clashL fs gs hs (ks.take (i + 1))).map V.str = cs := fun h => by
          rw [sn2, if_neg (by cases e : mergeOne oa om oy with
            | none => exact absurd e h
            | some _ => simp), List.append_nil, ec]
        have same1 : ∀ {o : Option Str}, mergeOne oa om oy = some o → ∃ (told : Option Str) (cs' : List V), [some (V.ref up), some (V.ref vp), some (V.ref zp), some (V.ref lo), some (V.ref mi), some (V.ref yo), some (V.ref md), some (V.ref cl), some (V.str k), some (V.ref t), some (encO o), none] = [some (V.ref up), some (V.ref vp), some (V.ref zp), some (V.ref lo), some (V.ref mi), some (V.ref yo), some (V.ref md), some (V.ref cl), some (V.str k), some (V.ref t), some (encO told), none] ∧ MSt H lo mi yo p md cl fs gs hs ks ws cs' Hj ∧ Reps Hj ((madeL fs gs hs (ks.take i)).map pairD) ws ∧ told = (mergeOne oa om oy).getD none ∧ cs' = (clashL fs gs hs (ks.take (i + 1))).map V.str := fun {o} h =>
          ⟨o, cs, rfl, M, wr, by rw [h]; rfl, (nil_ (c := True) (by rw [h]; exact fun z => nomatch z)).symm⟩
        have mA : ∀ (_ : om = oy ∨ oy = oa), mergeOne oa om oy = some om := fun h => by
          unfold mergeOne
          rw [if_pos h]
        refine ⟨_, rfl, t, _, 1, _, rfl, rfl, SqT.of htt, rfl, _, rfl, t, _, 2, _, rfl, rfl, SqT.of htt, rfl, encO_scal _ _, _, rfl, ite2 (fun z => iteT ?_) (fun z => ?_)⟩
        · exact ⟨_, rfl, t, _, 1, _, rfl, rfl, SqT.of htt, rfl, same1 (mA (.inl (encO_inj (of_decide_eq_true z))))⟩
        · have z1 : om ≠ oy := fun e => z (decide_eq_true (by rw [e]))
          refine ⟨_, rfl, t, _, 2, _, rfl, rfl, SqT.of htt, rfl, _, rfl, t, _, 0, _, rfl, rfl, SqT.of htt, rfl, encO_scal _ _, _, rfl, ite2 (fun z => ?_) (fun z => ?_)⟩
          · exact ⟨_, rfl, t, _, 1, _, rfl, rfl, SqT.of htt, rfl, same1 (mA (.inr (encO_inj (of_decide_eq_true z))))⟩
          · have z2 : oy ≠ oa := fun e => z (decide_eq_true (by rw [e]))
            have z12 : ¬ (om = oy ∨ oy = oa) := fun h => h.elim z1 z2
            refine ⟨_, rfl, t, _, 1, _, rfl, rfl, SqT.of htt, rfl, _, rfl, t, _, 0, _, rfl, rfl, SqT.of htt, rfl, encO_scal _ _, _, rfl, ite2 (fun z => ?_) (fun z => ?_)⟩
            · refine ⟨_, rfl, t, _, 2, _, rfl, rfl, SqT.of htt, rfl, same1 ?_⟩
              unfold mergeOne
              rw [if_neg z12, if_pos (encO_inj (of_decide_eq_true z))]
            · have z3 : om ≠ oa := fun e => z (decide_eq_true (by rw [e]))
              have hn : mergeOne oa om oy = none := by
                unfold mergeOne
                rw [if_neg z12, if_neg z3]
              have cl1 : cs.length ≤ 20 := by
                rw [ec, List.length_map]
                exact Nat.le_trans (List.length_filter_le _ _) (Nat.le_trans (List.length_take_le' _ _) hks)
              refine ⟨_, rfl, .inl ⟨rfl, _, SqL.of M.cl_⟩, _, rfl, cl, _, _, rfl, rfl, M.cl_, small_lt (by omega), ?_⟩
              refine ⟨none, cs ++ [.str k], rfl, M.toCl, Reps.keep (Tk.lst M.cl_) wr, by rw [hn]; rfl, ?_⟩
              rw [sn2, hn, ec]
              simp
      · rintro σ' H' ⟨told, cs', rfl, M, wr, et, ec'⟩
        rw [← et] at sn1
        cases told with
        | none =>
          refine ⟨_, rfl, _, rfl, ite2 (fun z => ?_) (fun z => ?_)⟩
          · exact absurd z (by decide)
          · exact ⟨_, _, _, ws, cs', rfl, M, by omega, by rw [sn1, Option.map_none, Option.toList_none, List.append_nil]; exact wr, ec'⟩
        | some c =>
          refine ⟨_, rfl, _, rfl, ite2 (fun z => ?_) (fun z => ?_)⟩
          · refine ⟨_, rfl, .inl ⟨rfl, _, SqL.of M.md_⟩, _, rfl, _, rfl, (by show 2 ≤ sizeLine; decide), fun q hq => ?_⟩
            have M2 := M.fresh (o := .tup [.str k, .str c]) hq
            refine ⟨md, _, _, rfl, rfl, M2.md_, small_lt (by omega), _, _, _, ws ++ [.ref q], cs', rfl, M2.toMd, by rw [List.length_append]; simp only [List.length_cons, List.length_nil]; omega, ?_, ec'⟩
            rw [sn1, List.map_append]
            have tk : Tk (upd H' q (.tup [.str k, .str c])) (upd (upd H' q (.tup [.str k, .str c])) md (.lst (ws ++ [.ref q]))) := Tk.lst M2.md_
            exact Reps.snoc (Reps.keep tk (Reps.keep (Tk.new hq) wr)) (Rep.keep tk (pair_rep upd_same))
          · exact absurd (show (!decide (V.str c = V.non)) = true by simp) z
    · rintro σ Hi ⟨k8, k9, k10, ws, cs, rfl, M, wl, wr, ec⟩
      rw [List.length_map] at wl wr ec
      rw [List.take_length] at wr ec
      refine ⟨fun σ' H' => σ' = [some (.ref up), some (.ref vp), some (.ref zp), some (.ref lo), some (.ref mi), some (.ref yo), some (.ref md), some (.ref cl), k8, k9, k10, none] ∧ H' = Hi ∧ cs = [], ?_, ?_⟩
      · refine ⟨_, rfl, cl, _, rfl, .inl (SqL.of M.cl_), _, _, rfl, rfl, _, rfl, ite2 (fun z => iteT ?_) (fun z => ?_)⟩
        · have z := of_decide_eq_true z
          have hne : clashL fs gs hs ks ≠ [] := fun e => by
            rw [ec, e] at z
            exact absurd z (by decide)
          have cl1 : cs.length ≤ 20 := by
            rw [ec, List.length_map]
            exact Nat.le_trans (List.length_filter_le _ _) hks
          refine ⟨_, rfl, cl, _, rfl, .inl ⟨SqL.of M.cl_, fun l hl => ⟨(by show 2 ≤ sizeLine; decide), fun r hr => ?_⟩⟩⟩
          have M2 := (M.fresh (o := .tup cs) hl).fresh (o := .tup [.str "clash", .ref l]) hr
          refine kk (.ref r) ks _ M2.same ?_ asc memk
          unfold mergedD
          rw [if_neg hne]
          exact told_rep upd_same (by rw [upd_ne (ne_of_none upd_same hr)]; exact upd_same) (small_of (by omega)) (by rw [ec]; exact strs_reps _)
        · have hcs : cs = [] := by
            cases cs with
            | nil => rfl
            | cons a b => exact absurd (decide_eq_true (show (0 : Int) < ((a :: b).length : Int) by simp only [List.length_cons]; omega)) z
          exact ⟨_, rfl, md, _, rfl, .inl (SqL.of M.md_), _, _, rfl, rfl, _, rfl, ite2 (fun z => absurd (of_decide_eq_true z) (by omega)) (fun _ => ⟨rfl, rfl, hcs⟩)⟩
      · rintro σ' H' ⟨rfl, rfl, rfl⟩
        have hnil : clashL fs gs hs ks = [] := by
          cases e : clashL fs gs hs ks with
          | nil => rfl
          | cons a b => rw [e] at ec; cases ec
        refine ⟨_, rfl, md, _, rfl, .inl ⟨SqL.of M.md_, fun l hl => ⟨(by show 2 ≤ sizeLine; decide), fun r hr => ?_⟩⟩⟩
        have M2 := (M.fresh (o := .tup ws) hl).fresh (o := .tup [.str "tree", .ref l]) hr
        refine kk (.ref r) ks _ M2.same ?_ asc memk
        unfold mergedD
        rw [if_pos hnil]
        exact told_rep upd_same (by rw [upd_ne (ne_of_none upd_same hr)]; exact upd_same) (small_of (by omega)) (Reps.keep (Tk.new hr) (Reps.keep (Tk.new hl) wr))
end
end Kl

namespace Kl
open PySem L2 Kd
def spSet (_ : PySem.W.Frag) : Sp := fun vs H Q _ => ∃ (u x : V) (i : Nat) (ds : List D) (e : D), vs = [u, .int (i : Int), x] ∧ Rep H (.tup ds) u ∧ Rep H e x ∧ i < ds.length ∧ ∀ (y : V) (H' : Hp), Same H H' → Rep H' (.tup (ds.set i e)) y → Q y H'
theorem Reps.set {H : Hp} : ∀ {ds : List D} {vs : List V} {i : Nat} {d : D} {v : V}, Reps H ds vs → Rep H d v → Reps H (ds.set i d) (vs.set i v)
  | [], _, i, d, v, h, r => by
    cases (show _ = [] from h)
    exact rfl
  | c :: ds, _, 0, d, v, ⟨u, r, e, h, q⟩, rv => by
    subst e
    exact ⟨v, r, rfl, rv, q⟩
  | c :: ds, _, i + 1, d, v, ⟨u, r, e, h, q⟩, rv => by
    subst e
    exact ⟨u, r.set i v, rfl, h, Reps.set q rv⟩
section
variable {P : Program} {w : World} {K : PySem.W.Frag} {mg : Str → Option Value} {base : Heap}
abbrev s_l_set : Stmt := topS 34
theorem sc_l_set : FnScope ["values", "at", "value", "made"] ["values", "at", "value"] (defScope s_l_set) := ⟨rfl, rfl, rfl, by decide +kernel, rfl, by decide +kernel, by decide +kernel⟩
theorem ok_set {f : Addr} {fd : FuncData} (F : Fun K "_law_set" "_law_set" s_l_set f fd) (T : Glo mg) : FnOk P w K mg base CX0 1 f fd ["values", "at", "value"] (spSet K) := by
  refine F.ok sc_l_set (fun vs H Q E h => ?_) (fun cdv A outer s H vs Q E hr h => ?_)
  · obtain ⟨u, x, i, ds, e, rfl, _⟩ := h
    rfl
  · obtain ⟨u, x, i, ds, e, rfl, hU, hx, hi, kk⟩ := h
    obtain ⟨up, us, rfl, hup, hz, hus⟩ := hU
    have ul := hus.len
    refine ⟨_, (pss_cons (ps_set (i := 3) sc_l_set.nd rfl (.inl rfl) (pe_callTy call_list_of (by rfl) T.list PyProof.Rows.boot_list (pa_cons (pv 0) pa_nil)))
      (pss_cons (ps_asg (pv 2) (pg_sub (pv 3) (pv 1) set_list))
      (pss_one (ps_ret (pe_callTy call_tuple_of (by rfl) T.tuple PyProof.Rows.boot_tuple (pa_cons (pv 3) pa_nil)))))), ?_⟩
    refine ⟨_, rfl, up, _, rfl, .inr (.inl hup), fun l hl => ?_⟩
    have s1 : Same H (upd H l (.lst us)) := Same.new hl
    have hix : ixN us.length (i : Int) = some i := by
      unfold ixN
      rw [if_pos (Int.natCast_nonneg i), if_pos (by omega)]
      rfl
    refine ⟨_, rfl, _, rfl, _, rfl, l, us, _, i, rfl, rfl, upd_same, hix, ?_⟩
    refine ⟨_, rfl, l, _, rfl, .inl ⟨SqL.of upd_same, fun p hp => ?_⟩⟩
    have s2 : Same H (upd (upd H l (.lst us)) l (.lst (us.set i x))) := Same.mut s1 hl
    have s3 : Same H (upd (upd (upd H l (.lst us)) l (.lst (us.set i x))) p (.tup (us.set i x))) := fun b o e => by
      rw [upd_ne (ne_of_none (s2 b o e) hp)]
      exact s2 b o e
    exact kk (.ref p) _ s3 ⟨p, _, rfl, .inl upd_same, by rw [List.length_set]; exact hz, Reps.keep (Same.tk s3) (Reps.set hus hx)⟩
end
end Kl

namespace Kl
open PySem L2 Kd
/-! a list or a tuple, walked, read, measured -/
theorem pi_or {X : Cx} {tg l : Expr} {w1 w2 : TI} (a : PI X tg l w1) (b : PI X tg l w2) : PI X tg l (fun σ H R => w1 σ H R ∨ w2 σ H R) := ⟨fun pins s σ H R I h => h.elim (a.run pins s σ H R I) (b.run pins s σ H R I)⟩
theorem ps_never {X : Cx} {st : Stmt} : PS X st (fun _ _ _ => False) := ⟨fun _ _ _ _ _ _ h => h.elim⟩
abbrev SeqAt (H : Hp) (a : Addr) (vs : List V) : Prop := Rd H a (.tup vs) ∨ H a = some (.lst vs)
theorem SeqAt.sq {K : PySem.W.Frag} {H : Hp} {a : Addr} {vs : List V} (h : SeqAt H a vs) : SqL K H a vs ∨ SqT K H a vs := h.elim (fun e => .inr (.inl e)) (fun e => .inl (SqL.of e))
theorem SeqAt.same {H H' : Hp} {a : Addr} {vs : List V} (s : Same H H') (h : SeqAt H a vs) : SeqAt H' a vs := h.imp (Rd.same s) (s _ _)
abbrev iSeq (K : PySem.W.Frag) (tl : TE) : TI := fun σ H R => iTup K tl σ H R ∨ iList K tl σ H R
theorem pi_seq {X : Cx} {tg l : Expr} {tl : TE} (hl : PE X l tl) : PI X tg l (iSeq X.K tl) := pi_or (pi_tup hl) (pi_list hl)
theorem seq_walk {K : PySem.W.Frag} {tl : TE} {σ : L2.St} {H H1 : Hp} {R : It → Hp → Prop} {a : Addr} {vs : List V} (h : SeqAt H1 a vs) (ht : ∀ Q : VK, Q (.ref a) H1 → tl σ H Q) (k : ∀ (J : It) (G : Hp → Prop), Walk J vs.length G (YAt vs) → (∀ H' : Hp, Same H1 H' → G H') → R J H1) : iSeq K tl σ H R := by
  rcases h with h | h
  · exact .inl (ht _ ⟨a, rfl, ⟨_, .inl h⟩, k _ (fun H => SqT K H a vs) walk_tup fun H' s => .inl (Rd.same s h)⟩)
  · exact .inr (ht _ ⟨a, rfl, ⟨_, SqL.of h⟩, k _ (fun H => SqL K H a vs) walk_list fun H' s => SqL.of (s _ _ h)⟩)
/-- xs[i] of a list or a tuple -/
theorem ix_any {K : PySem.W.Frag} {H : Hp} {a : Addr} {vs : List V} {i : Int} {x : V} {Q : VK} (h : SeqAt H a vs) (e : atI vs i = some x) (q : Q x H) : rIx K (.ref a) (.int i) H Q := by
  rcases h with h | h
  · exact .inr (.inl ⟨a, vs, i, x, rfl, rfl, .inl h, e, q⟩)
  · exact .inl ⟨a, vs, i, x, rfl, rfl, SqL.of h, e, q⟩
theorem ty_seq {K : PySem.W.Frag} {H : Hp} {a : Addr} {vs : List V} (h : SeqAt H a vs) : ∃ t : Value, TyX K H (.ref a) t ∧ PySem.W.kitAny K t [.type "list", .type "tuple"] = some true := by
  rcases h with h | h
  · exact ⟨_, h.elim (fun h => .base (.tup h)) (fun ⟨_, h⟩ => .fTuple h), kitAny_cons (b := false) (kit_ty (by decide +kernel)) (fun _ => kitAny_cons (b := true) (kit_ty (by decide +kernel)) (fun z => nomatch z) (fun _ => rfl)) (fun z => nomatch z)⟩
  · exact ⟨_, .base (.lst h), kitAny_cons (b := true) (kit_ty (by decide +kernel)) (fun z => nomatch z) (fun _ => rfl)⟩
theorem st_if {c : TT} {t u : TS} {D : Ends} {σ : L2.St} {H : Hp} (h : c σ H fun b H1 => if b = true then t D σ H1 else u D σ H1) : tIfS c t u D σ H := h
theorem st_next {D : Ends} {σ : L2.St} {H : Hp} (h : D.nx σ H) : tNext D σ H := h
theorem tt_not {t : TT} {σ : L2.St} {H : Hp} {Q : Bool → Hp → Prop} (h : t σ H fun c H1 => Q (!c) H1) : tNot t σ H Q := h
theorem tt_b {t : TE} {σ : L2.St} {H : Hp} {Q : Bool → Hp → Prop} (h : t σ H fun x H1 => ∃ c, x = .bl c ∧ Q c H1) : tB t σ H Q := h
theorem te_cb {r : List V → Hp → VK → Prop} {t : TA} {σ : L2.St} {H : Hp} {Q : VK} (h : t σ H fun vs H1 => r vs H1 Q) : tCB r t σ H Q := h
theorem te_call {sp : Sp} {dvs : List V} {E : XK} {t : TA} {σ : L2.St} {H : Hp} {Q : VK} (h : t σ H fun vs H1 => sp (vs ++ dvs) H1 Q E) : tCall sp dvs E t σ H Q := h
theorem st_ret {te : TE} {D : Ends} {σ : L2.St} {H : Hp} (h : te σ H D.rt) : tRet te D σ H := h
theorem te_lc {wi : TI} {g : TG} {tt : TT} {te : TE} {vs : List Nat} {σ : L2.St} {H : Hp} {Q : VK} (h : wi σ H fun J H1 => ∀ D, H1 D = none → ∃ W : Nat → Nat → Hp → Prop, (∃ m, W 0 m (upd H1 D (.lst []))) ∧ ∀ i m H, W i m H →
    (J.stop i H ∧ Q (.ref D) H) ∨ (J.go i H ∧ ∃ Nx : Hp → Prop, (∀ H', Nx H' → ∃ m', m' < m ∧ W (i + 1) m' H') ∧ ∀ x H', J.yld i H x H' → g x (wipe σ vs) H' fun σ2 H2 => wipe σ2 vs = wipe σ vs ∧ tt σ2 H2 fun b H3 =>
    if b = true then te σ2 H3 fun y H4 => ∃ acc, H4 D = some (.lst acc) ∧ acc.length < sizeLine ∧ Nx (upd H4 D (.lst (acc ++ [y]))) else Nx H3)) : tLc wi g tt te vs σ H Q := h
/-- a list or a tuple: yes -/
def spSeq (_ : PySem.W.Frag) : Sp := fun vs H Q _ => ∃ (a : Addr) (ws : List V), vs = [.ref a] ∧ SeqAt H a ws ∧ ∀ H' : Hp, Same H H' → Q (.bl true) H'
def spRow (_ : PySem.W.Frag) : Sp := fun vs H Q _ => ∃ (a : Addr) (ws : List V) (n : Int), vs = [.ref a, .int n] ∧ SeqAt H a ws ∧ ∀ H' : Hp, Same H H' → Q (.bl (decide (V.int (ws.length : Int) = V.int n))) H'
section
variable {P : Program} {w : World} {K : PySem.W.Frag} {mg : Str → Option Value} {base : Heap}
abbrev s_is_sequence : Stmt := topS 5
theorem sc_is_sequence : FnScope ["value"] ["value"] (defScope s_is_sequence) := ⟨rfl, rfl, rfl, by decide +kernel, rfl, by decide +kernel, by decide +kernel⟩
theorem ok_sequence {f : Addr} {fd : FuncData} (F : Fun K "is_sequence" "is_sequence" s_is_sequence f fd) (T : Glo mg) : FnOk P w K mg base CX0 1 f fd ["value"] (spSeq K) := by
  refine F.ok sc_is_sequence (fun vs H Q E h => ?_) (fun cdv A outer s H vs Q E hr h => ?_)
  · obtain ⟨a, ws, rfl, _⟩ := h
    rfl
  · obtain ⟨a, ws, rfl, hs, k⟩ := h
    refine ⟨_, (pss_one (ps_ret (pe_callB call_isiT (by rfl) T.isi PyProof.Rows.boot_isinstance (pa_cons (pv 0) (pa_cons (pe_tup (pa_cons (pe_bltn (v := .ty "list") (by rfl) T.list PyProof.Rows.boot_list rfl) (pa_cons (pe_bltn (v := .ty "tuple") (by rfl) T.tuple PyProof.Rows.boot_tuple rfl) pa_nil))) pa_nil))))), ?_⟩
    obtain ⟨t, ty, kt⟩ := ty_seq (K := K) hs
    refine ⟨_, rfl, (by show 2 ≤ sizeLine; decide), fun p hp => ?_⟩
    have s1 : Same H (upd H p (.tup [.ty "list", .ty "tuple"])) := Same.new hp
    obtain ⟨t, ty, kt⟩ := ty_seq (K := K) (hs.same s1)
    exact ⟨_, p, _, t, [.type "list", .type "tuple"], true, rfl, upd_same, .cons (.ty "list") (.cons (.ty "tuple") .nil), ty, kt, k _ s1⟩
abbrev s_is_row : Stmt := topS 6
theorem sc_is_row : FnScope ["value", "length"] ["value", "length"] (defScope s_is_row) := ⟨rfl, rfl, rfl, by decide +kernel, rfl, by decide +kernel, by decide +kernel⟩
theorem ok_row {f : Addr} {fd : FuncData} (F : Fun K "is_row" "is_row" s_is_row f fd) (T : Glo mg) (c_is_sequence : C8.Cal P w K mg base 1 "is_sequence" (spSeq K) []) : FnOk P w K mg base CX0 2 f fd ["value", "length"] (spRow K) := by
  refine F.ok sc_is_row (fun vs H Q E h => ?_) (fun cdv A outer s H vs Q E hr h => ?_)
  · obtain ⟨a, ws, n, rfl, _⟩ := h
    rfl
  · obtain ⟨a, ws, n, rfl, hs, k⟩ := h
    refine ⟨_, (pss_one (ps_ret (pe_and (C8.pe_c c_is_sequence hr (by omega) (by rfl) (pa_cons (pv 0) pa_nil)) (pe_one (pe_cmpR op_eq (pe_callB call_len_seq (by rfl) T.len PySem.boot_len (pa_cons (pv 0) pa_nil)) (pv 1) (nomark _)))))), ?_⟩
    refine ⟨_, rfl, a, ws, rfl, hs, fun H1 s1 => ⟨_, rfl, iteT ?_⟩⟩
    exact ⟨_, rfl, a, ws, rfl, (hs.same s1).sq, _, rfl, rfl, k H1 s1⟩
end
end Kl

namespace Kl
open PySem L2 Kd
def wordB (x : Str) : Bool := decide (1 ≤ x.length) && (decide (x.length ≤ 12) && (Txt.isascii x && (Txt.isalnum x && (Txt.isalpha ⟨#[x.cps.getD 0 0]⟩ && decide (Txt.lower x = x)))))
def pathB (p : Str) : Bool := decide ((Txt.split p "/").length ≤ 4) && (Txt.split p "/").all wordB
structure WordOk (x : Str) : Prop where
  lo : 1 ≤ x.length
  hi : x.length ≤ 12
  ascii : Txt.isascii x = true
  alnum : Txt.isalnum x = true
  alpha : Txt.isalpha ⟨#[x.cps.getD 0 0]⟩ = true
  lower : Txt.lower x = x
theorem word_of {x : Str} (h : wordB x = true) : WordOk x := by
  unfold wordB at h
  simp only [Bool.and_eq_true, decide_eq_true_eq] at h
  exact ⟨h.1, h.2.1, h.2.2.1, h.2.2.2.1, h.2.2.2.2.1, h.2.2.2.2.2⟩
theorem allPaths_ok : allPaths.all pathB = true := by decide +kernel
def spWord (_ : PySem.W.Frag) : Sp := fun vs H Q _ => ∃ x : Str, vs = [.str x] ∧ wordB x = true ∧ Q (.bl true) H
def spPath (_ : PySem.W.Frag) : Sp := fun vs H Q _ => ∃ x : Str, vs = [.str x] ∧ pathB x = true ∧ x.length ≤ 1000 ∧ ∀ H' : Hp, Same H H' → Q (.bl true) H'
theorem isi_str {K : PySem.W.Frag} {H : Hp} {x : Str} {Q : VK} (q : Q (.bl true) H) : rIsi K [.str x, .ty "str"] H Q := ⟨.str x, .ty "str", .type "str", .type "str", true, rfl, .ty "str", .base (.str _), kit_ty (by decide +kernel), q⟩
section
variable {P : Program} {w : World} {K : PySem.W.Frag} {mg : Str → Option Value} {base : Heap}
abbrev s_is_word : Stmt := topS 8
theorem sc_is_word : FnScope ["value"] ["value"] (defScope s_is_word) := ⟨rfl, rfl, rfl, by decide +kernel, rfl, by decide +kernel, by decide +kernel⟩
theorem ok_word {f : Addr} {fd : FuncData} (F : Fun K "is_word" "is_word" s_is_word f fd) (T : Glo mg) {t12 : Tok} (m_MOST_WORD_SIGNS : mg "MOST_WORD_SIGNS" = some (.int 12 t12)) : FnOk P w K mg base CX0 1 f fd ["value"] (spWord K) := by
  refine F.ok sc_is_word (fun vs H Q E h => ?_) (fun cdv A outer s H vs Q E hr h => ?_)
  · obtain ⟨x, rfl, _⟩ := h
    rfl
  · obtain ⟨x, rfl, hx, k⟩ := h
    have W := word_of hx
    refine ⟨_, (C8.pss_cut (ps_if (PW.pt (pw_or (pt_not (pt_val (pe_callB call_isi (by rfl) T.isi PyProof.Rows.boot_isinstance (pa_cons (pv 0) (pa_cons (pe_bltn (v := .ty "str") (by rfl) T.str (by decide +kernel) rfl) pa_nil))))) (pw_or1 (pt_not (pt_chain op_le op_le pe_int (pe_callB call_len_str (by rfl) T.len PySem.boot_len (pa_cons (pv 0) pa_nil)) (pe_glob (v := .int 12) (by rfl) m_MOST_WORD_SIGNS ⟨_, rfl⟩))))))
      (pss_one ps_never)
      pss_nil)
      (C8.pss_cut (ps_if (PW.pt (pw_or (pt_not (pt_val (pe_m0 PySem.F.slot_str_isascii PySem.F.type_str_isascii mt_isascii (pv 0)))) (pw_or (pt_not (pt_val (pe_m0 PySem.F.slot_str_isalnum PySem.F.type_str_isalnum mt_isalnum (pv 0)))) (pw_or1 (pt_not (pt_val (pe_m0 PySem.F.slot_str_isalpha PySem.F.type_str_isalpha mt_isalpha (pe_ix ix_str (pv 0) pe_int (fun _ _ => rfl)))))))))
      (pss_one ps_never)
      pss_nil)
      (pss_one (ps_ret (pe_cmpR op_eq (pv 0) (pe_lower (pv 0)) (nomark _)))))), ?_⟩
    have h1 := W.lo
    have h2 := W.hi
    refine ⟨fun σ' H' => σ' = [some (.str x)] ∧ H' = H, ?_, ?_⟩
    · refine ⟨_, rfl, .str x, .ty "str", .type "str", .type "str", true, rfl, .ty "str", .base (.str _), kit_ty (by decide +kernel), _, rfl, iteF ?_⟩
      refine ⟨_, rfl, _, rfl, small_of (by omega), _, _, rfl, rfl, _, rfl, ite2 (fun _ => ?_) (fun z => absurd (decide_eq_true (show (1 : Int) ≤ (x.length : Int) by omega)) z)⟩
      refine ⟨_, _, rfl, rfl, _, rfl, ite2 (fun z => ?_) (fun _ => ⟨rfl, rfl⟩)⟩
      rw [decide_eq_true (show (x.length : Int) ≤ 12 by omega)] at z
      cases z
    rintro σ' H' ⟨rfl, rfl⟩
    refine ⟨fun σ' H'' => σ' = [some (.str x)] ∧ H'' = H', ?_, ?_⟩
    · have hc : atI x.cps.toList 0 = some (x.cps.getD 0 0) := by
        have hp : 0 < x.cps.size := h1
        refine atI_nat (j := 0) ?_
        rw [Array.getElem?_toList, Array.getD_eq_getD_getElem?, Array.getElem?_eq_getElem hp]
        rfl
      refine ⟨_, rfl, ⟨_, rfl⟩, _, rfl, rfl, trivial, _, rfl, ?_⟩
      rw [W.ascii]
      refine iteF ⟨_, rfl, ⟨_, rfl⟩, _, rfl, rfl, trivial, _, rfl, ?_⟩
      rw [W.alnum]
      refine iteF ⟨_, rfl, x, 0, _, rfl, rfl, small_of (by omega), hc, ⟨_, rfl⟩, _, rfl, rfl, trivial, _, rfl, ?_⟩
      rw [W.alpha]
      exact iteF ⟨rfl, rfl⟩
    rintro σ' H'' ⟨rfl, rfl⟩
    refine ⟨_, rfl, _, rfl, ⟨_, rfl⟩, _, rfl, rfl, Nat.le_trans h2 (by decide), rfl, ?_⟩
    rw [W.lower, decide_eq_true rfl]
    exact k
abbrev s_is_path : Stmt := topS 9
theorem sc_is_path : FnScope ["value", "words", "word"] ["value"] (defScope s_is_path) := ⟨rfl, rfl, rfl, by decide +kernel, rfl, by decide +kernel, by decide +kernel⟩
theorem ok_path {f : Addr} {fd : FuncData} (F : Fun K "is_path" "is_path" s_is_path f fd) (T : Glo mg) {t4 : Tok} (m_MOST_PATH_WORDS : mg "MOST_PATH_WORDS" = some (.int 4 t4)) (c_is_word : C8.Cal P w K mg base 1 "is_word" (spWord K) []) : FnOk P w K mg base CX0 2 f fd ["value"] (spPath K) := by
  refine F.ok sc_is_path (fun vs H Q E h => ?_) (fun cdv A outer s H vs Q E hr h => ?_)
  · obtain ⟨x, rfl, _⟩ := h
    rfl
  · obtain ⟨x, rfl, hx, hz, k⟩ := h
    unfold pathB at hx
    rw [Bool.and_eq_true] at hx
    have h4 := of_decide_eq_true hx.1
    have hw := List.all_eq_true.mp hx.2
    refine ⟨_, (pss_cons (ps_if (pt_not (pt_val (pe_callB call_isi (by rfl) T.isi PyProof.Rows.boot_isinstance (pa_cons (pv 0) (pa_cons (pe_bltn (v := .ty "str") (by rfl) T.str (by decide +kernel) rfl) pa_nil)))))
      (pss_one ps_never)
      pss_nil)
      (pss_cons (ps_set (i := 1) sc_is_path.nd rfl (.inl rfl) (pe_split (pv 0) pe_str))
      (pss_one (ps_ret (pe_and (pe_cmpR op_le (pe_callB call_len_seq (by rfl) T.len PySem.boot_len (pa_cons (pv 1) pa_nil)) (pe_glob (v := .int 4) (by rfl) m_MOST_PATH_WORDS ⟨_, rfl⟩) (nomark _)) (pe_one (pe_callB (cr_all rfl) (by rfl) T.all (by decide +kernel) (pa_cons (pe_lc (own := [("word", 2)]) (g := gName 2) (tt := tYes) rfl sc_is_path.nd (pi_list (pv 1)) (blkOk_by (N := ["value", "words", "word"]) (sc := defScope s_is_path) (by decide +kernel)) (fun _ _ _ _ _ => (pg_name (i := 2) sc_is_path.nd rfl (.inl rfl))) (fun _ _ _ _ _ => pts_nil) (fun _ _ _ _ _ => (C8.pe_c c_is_word hr (by omega) (by rfl) (pa_cons (pv 2) pa_nil)))) pa_nil)))))))), ?_⟩
    refine ⟨_, rfl, .str x, .ty "str", .type "str", .type "str", true, rfl, .ty "str", .base (.str _), kit_ty (by decide +kernel), _, rfl, iteF ?_⟩
    refine ⟨_, rfl, ⟨_, rfl⟩, x, "/", rfl, rfl, by decide +kernel, small_of (by omega), fun p hp => ?_⟩
    have s1 : Same H (upd H p (.lst ((Txt.split x "/").map V.str))) := Same.new hp
    have p1 : upd H p (.lst ((Txt.split x "/").map V.str)) p = some (.lst ((Txt.split x "/").map V.str)) := upd_same
    generalize upd H p (.lst ((Txt.split x "/").map V.str)) = H1 at s1 p1 ⊢
    refine ⟨_, rfl, p, _, rfl, .inl (SqL.of p1), _, _, rfl, rfl, _, rfl, ite2 (fun _ => ?_) (fun z => absurd (decide_eq_true (show (((Txt.split x "/").map V.str).length : Int) ≤ 4 by rw [List.length_map]; omega)) z)⟩
    refine ⟨_, rfl, p, rfl, ⟨_, SqL.of p1⟩, fun D hD => lc_list (K := K) (xs := (Txt.split x "/").map V.str) (fun i H2 => Same H1 H2 ∧ H2 D = some (.lst ((List.replicate i true).map V.bl))) ⟨Same.new hD, upd_same⟩ (fun i H2 _ q => SqL.of (q.1 _ _ p1)) ?_ ?_⟩
    · rintro i y H2 hy ⟨s2, e2⟩
      rw [List.getElem?_map] at hy
      obtain ⟨w0, hw0, rfl⟩ := Option.map_eq_some_iff.mp hy
      have hil : i < (Txt.split x "/").length := (List.getElem?_eq_some_iff.mp hw0).1
      refine ⟨rfl, _, rfl, w0, rfl, hw w0 (List.mem_of_getElem? hw0), _, e2, ?_, Same.mut s2 hD, ?_⟩
      · rw [List.length_map, List.length_replicate]
        exact small_lt (by omega)
      · rw [upd_same, List.replicate_succ', List.map_append]
        rfl
    · rintro H2 ⟨s2, e2⟩
      refine ⟨D, _, rfl, SqL.of e2, ?_⟩
      have : (List.replicate ((Txt.split x "/").map V.str).length true).all id = true := List.all_eq_true.mpr fun b hb => (List.mem_replicate.mp hb).2
      rw [this]
      exact k H2 fun b o e => s2 b o (s1 b o e)
end
end Kl

namespace Kl
open PySem L2 Kd
/-! what may stand in a file -/
def okx (c : Nat) : Bool := 32 ≤ c && (c ≤ 126 && c != 37)
structure Shown (x : Str) : Prop where
  len : x.length ≤ 1000
  all : ∀ c ∈ x.cps.toList, okx c = true
structure Cont (x : Str) : Prop where
  len : x.length ≤ 1000
  all : ∀ c ∈ x.cps.toList, c = 10 ∨ okx c = true
theorem okx_of {c : Nat} (h : okx c = true) : 32 ≤ c ∧ c ≤ 126 ∧ c ≠ 37 := by
  unfold okx at h
  simp only [Bool.and_eq_true, decide_eq_true_eq, bne_iff_ne] at h
  exact ⟨h.1, h.2.1, h.2.2⟩
theorem Ct.cont {x : Str} (h : Ct 1000 x) : Cont x := ⟨h.len, fun c hc => by
  have := h.all c hc
  unfold ctc okc at this
  rw [Bool.or_eq_true] at this
  rcases this with e | e
  · exact .inl (eq_of_beq e)
  · refine .inr ?_
    unfold okx
    simp only [Bool.or_eq_true, Bool.and_eq_true, decide_eq_true_eq, bne_iff_ne, beq_iff_eq] at e ⊢
    omega⟩
theorem Shown.ascii {x : Str} (h : Shown x) : Txt.isascii x = true := by
  unfold Txt.isascii
  rw [← Array.all_toList, List.all_eq_true]
  intro c hc
  have := okx_of (h.all c hc)
  exact decide_eq_true (by omega)
theorem print_fact : ∀ c : Nat, 32 ≤ c → c ≤ 126 → Unicode.isPrintable c = true := by
  intro c h1 h2
  have : ∀ c : Fin 127, 32 ≤ c.val → Unicode.isPrintable c.val = true := by decide +kernel
  exact this ⟨c, by omega⟩ h1
theorem Shown.print {x : Str} (h : Shown x) : Txt.isprintable x = true := by
  unfold Txt.isprintable
  rw [← Array.all_toList, List.all_eq_true]
  intro c hc
  have := okx_of (h.all c hc)
  exact print_fact c this.1 this.2.1
theorem Cont.strike {x : Str} (h : Cont x) : Shown (Txt.replace x "\n" "") := by
  have e : (Txt.replace x "\n" "").cps.toList = x.cps.toList.filter (· != 10) := PyProof.Rows.replace_strikes x 10
  refine ⟨?_, fun c hc => ?_⟩
  · rw [← len_tl, e]
    exact Nat.le_trans (List.length_filter_le _ _) (by rw [len_tl]; exact h.len)
  · rw [e, List.mem_filter] at hc
    rcases h.all c hc.1 with e | e
    · rw [e] at hc
      exact absurd hc.2 (by decide)
    · exact e
/-- a def whose body wants a token -/
theorem Fun.okT {P : Program} {w : World} {K : PySem.W.Frag} {mg : Str → Option Value} {base : Heap} {x qual : Str} {st : Stmt} {f : Addr} {fd : FuncData} {N ps : List Str} {k : Nat} {sp : Sp} (F : Fun K x qual st f fd) (S : FnScope N ps (defScope st)) (hnc : ∀ y ∈ (defScope st).names, y.2 ≠ .cell) (hps : 1 ≤ ps.length) (len : ∀ vs H Q E, sp vs H Q E → vs.length = ps.length)
    (hbody : ∀ (cdv : Value) (A : Around) (outer : List Env) (s : Shared) (H : Hp) (vs : List V) (Q : VK) (E : XK), Room k (A.deeper (PyProof.Rows.envOfC qual (defScope st) s.heap.objs.size f cdv)) → sp vs H Q E →
      ∃ t, PSsT (cxOf CX0 P w K mg base N qual (defScope st) f cdv A outer s H E) (defBody st) t ∧ t { nx := fun _ H' => Q .non H', rt := Q } (start N vs) H) : FnOk P w K mg base CX0 (k + 1) f fd ps sp := by
  obtain ⟨oc, od, kV, doc, pm, an, cdv, ct, osl, rfl, lk, hcd⟩ := F.ex
  exact fn_ofT lk hcd S hnc hps len fun A outer s H vs Q E hr hsp => hbody cdv A outer s H vs Q E hr hsp
/-- an own def called, its arguments want a token -/
theorem pet_c {X : Cx} {k j : Nat} {x : Str} {sp : Sp} {dvs : List V} {p pos : Pos} {e : Expr} {es : List Expr} {t : TA} (c : C8.Cal X.prog X.w X.K X.mg X.base k x sp dvs) (hr : Room j X.A) (hk : k ≤ j) (hg : Gl X x) (ha : PAT X (e :: es) t)
    (hdb : (x == ("__debug__" : Str)) = false := by decide) (he : starEach (e :: es) X.env = (false, eval e X.env) :: starEach es X.env := by rfl) (hpl : (backTo pos (starEach es X.env)).any (·.1) = false := by rfl) :
    PET X (.Call (.Name x p) (e :: es) [] pos) (tCall sp dvs E0 t) := by
  obtain ⟨f, fd, ps, ds, F, hm, kp, b, d⟩ := c.ex
  intro pins s σ H Q h0 I h
  refine wpAny_Call_Name_kw (ld_glob I hg hm ?_ hdb)
  refine PySem.W.callWith_K (h₀ := X.base) I.ok.mod.kin kp (thn (ha pos pins s σ H _ h0 I h) fun us s1 ⟨vs, H1, I1, r, q⟩ => ⟨I1.kIn, ?_⟩) he hpl
  exact run_fn F (hr.mono hk) b d pass0 I1 r q
open PySem.Spec PyProof.Rows in
/-- a and b, where b wants a token -/
theorem pet_and {X : Cx} {a b : Expr} {rest : List Expr} {ta tb : TE} {pos : Pos} (ha : PE X a ta) (hb : PET X (.BoolOp .And (b :: rest) pos) tb) : PET X (.BoolOp .And (a :: b :: rest) pos) (tAndV ta tb) := by
  intro pins s σ H Q h0 I h
  refine BoolOp_and (wpAny_mono (PySem.wpAny_toks (ha.run pins s σ H _ I h)) (fun v s1 q => ?_) fun _ _ z => z.2)
  obtain ⟨hk, x, H1, I1, r1, c, rfl, q1⟩ := q
  cases r1
  refine wpAny_truthy_bool ?_
  cases c with
  | true => exact hb pins s1 σ H1 Q (Nat.le_trans h0 hk) I1 q1
  | false => exact ⟨.bl false, H1, I1, rfl, q1⟩
open PySem.Spec PyProof.Rows in
theorem pet_one {X : Cx} {op : BoolOp} {a : Expr} {t : TE} {pos : Pos} (h : PET X a t) : PET X (.BoolOp op [a] pos) t := fun pins s σ H Q h0 I hw => BoolOp_one (h pins s σ H Q h0 I hw)
def spShown (_ : PySem.W.Frag) : Sp := fun vs H Q _ => ∃ x : Str, vs = [.str x] ∧ Shown x ∧ ∀ H' : Hp, Same H H' → Q (.bl true) H'
def spCont (_ : PySem.W.Frag) : Sp := fun vs H Q _ => ∃ x : Str, vs = [.str x] ∧ Cont x ∧ ∀ H' : Hp, Same H H' → Q (.bl true) H'
section
variable {P : Program} {w : World} {K : PySem.W.Frag} {mg : Str → Option Value} {base : Heap}
abbrev s_is_shown : Stmt := topS 7
theorem sc_is_shown : FnScope ["value", "sign"] ["value"] (defScope s_is_shown) := ⟨rfl, rfl, rfl, by decide +kernel, rfl, by decide +kernel, by decide +kernel⟩
theorem ok_shown {f : Addr} {fd : FuncData} (F : Fun K "is_shown" "is_shown" s_is_shown f fd) (T : Glo mg) {t37 : Tok} (m_PERCENT_NUMBER : mg "PERCENT_NUMBER" = some (.int 37 t37)) : FnOk P w K mg base CX0 1 f fd ["value"] (spShown K) := by
  refine F.ok sc_is_shown (fun vs H Q E h => ?_) (fun cdv A outer s H vs Q E hr h => ?_)
  · obtain ⟨x, rfl, _⟩ := h
    rfl
  · obtain ⟨x, rfl, hx, k⟩ := h
    have hl := hx.len
    refine ⟨_, (C8.pss_cut (ps_if (PW.pt (pw_or (pt_not (pt_val (pe_callB call_isi (by rfl) T.isi PyProof.Rows.boot_isinstance (pa_cons (pv 0) (pa_cons (pe_bltn (v := .ty "str") (by rfl) T.str (by decide +kernel) rfl) pa_nil))))) (pw_or (pt_not (pt_val (pe_m0 PySem.F.slot_str_isascii PySem.F.type_str_isascii mt_isascii (pv 0)))) (pw_or1 (pt_not (pt_val (pe_m0 PySem.F.slot_str_isprintable PySem.F.type_str_isprintable mt_isprintable (pv 0))))))))
      (pss_one ps_never)
      pss_nil)
      (pss_one (ps_ret (pe_cmpR op_notIn_seq (pe_glob (v := .int 37) (by rfl) m_PERCENT_NUMBER ⟨_, rfl⟩) (pe_lc (own := [("sign", 1)]) (g := gName 1) (tt := tYes) rfl sc_is_shown.nd (pi_str (pv 0)) (blkOk_by (N := ["value", "sign"]) (sc := defScope s_is_shown) (by decide +kernel)) (fun _ _ _ _ _ => (pg_name (i := 1) sc_is_shown.nd rfl (.inl rfl))) (fun _ _ _ _ _ => pts_nil) (fun _ _ _ _ _ => (pe_callB call_ord (by rfl) T.ord (by decide +kernel) (pa_cons (pv 1) pa_nil)))) (by rfl))))), ?_⟩
    refine ⟨fun σ' H' => σ' = [some (.str x), none] ∧ H' = H, ?_, ?_⟩
    · refine ⟨_, rfl, .str x, .ty "str", .type "str", .type "str", true, rfl, .ty "str", .base (.str _), kit_ty (by decide +kernel), _, rfl, iteF ?_⟩
      refine ⟨_, rfl, ⟨_, rfl⟩, _, rfl, rfl, trivial, _, rfl, ?_⟩
      rw [hx.ascii]
      refine iteF ⟨_, rfl, ⟨_, rfl⟩, _, rfl, rfl, trivial, _, rfl, ?_⟩
      rw [hx.print]
      exact iteF ⟨rfl, rfl⟩
    rintro σ' H' ⟨rfl, rfl⟩
    refine ⟨_, rfl, x, rfl, fun D hD => lc_it walk_str (fun i H2 => Same H' H2 ∧ H2 D = some (.lst (((x.cps.toList.take i).map fun c : Nat => V.int ((c : Nat) : Int))))) ⟨Same.new hD, upd_same⟩ (fun _ _ _ _ => trivial) ?_ ?_⟩
    · rintro i y H2 H3 hi ⟨s2, e2⟩ ⟨rfl, c, hc, rfl⟩
      have hc' : x.cps.toList[i]? = some c := by rw [Array.getElem?_toList]; exact hc
      refine ⟨rfl, _, rfl, _, rfl, rfl, _, e2, ?_, Same.mut s2 hD, ?_⟩
      · rw [List.length_map, List.length_take]
        exact small_lt (by have : x.cps.size = x.length := rfl; omega)
      · rw [upd_same, List.take_add_one, hc', List.map_append]
        rfl
    · rintro H2 ⟨s2, e2⟩
      have e3 : x.cps.toList.take x.cps.size = x.cps.toList := List.take_of_length_le (by rw [Array.length_toList]; exact Nat.le_refl _)
      rw [e3] at e2
      refine ⟨D, _, rfl, .inl (SqL.of e2), rfl, ?_, ?_⟩
      · rw [List.all_eq_true]
        intro v hv
        obtain ⟨c, _, rfl⟩ := List.mem_map.mp hv
        rfl
      · have : inV (.int 37) (x.cps.toList.map fun c : Nat => V.int ((c : Nat) : Int)) = false := by
          unfold inV
          rw [List.any_eq_false]
          intro v hv
          obtain ⟨c, hc, rfl⟩ := List.mem_map.mp hv
          have := okx_of (hx.all c hc)
          intro z
          have z' : ((c : Nat) : Int) = 37 := by simpa [eqV] using z
          omega
        rw [this]
        exact k H2 s2
/-- a text of at most so many signs: yes -/
def spSigns (_ : PySem.W.Frag) : Sp := fun vs H Q _ => ∃ (x : Str) (n : Int), vs = [.str x, .int n] ∧ Cont x ∧ (x.length : Int) ≤ n ∧ ∀ H' : Hp, Same H H' → Q (.bl true) H'
abbrev s_is_signs : Stmt := topS 10
theorem sc_is_signs : FnScope ["value", "most"] ["value", "most"] (defScope s_is_signs) := ⟨rfl, rfl, rfl, by decide +kernel, rfl, by decide +kernel, by decide +kernel⟩
theorem ok_signs {f : Addr} {fd : FuncData} (F : Fun K "is_signs" "is_signs" s_is_signs f fd) (T : Glo mg) (c_is_shown : C8.Cal P w K mg base 1 "is_shown" (spShown K) []) : FnOk P w K mg base CX0 2 f fd ["value", "most"] (spSigns K) := by
  refine Fun.okT F sc_is_signs (by decide +kernel) (by decide) (fun vs H Q E h => ?_) (fun cdv A outer s H vs Q E hr h => ?_)
  · obtain ⟨x, n, rfl, _⟩ := h
    rfl
  · obtain ⟨x, n, rfl, hx, hn, k⟩ := h
    have hl := hx.len
    refine ⟨_, CwR.psst_one (CwR.pst_ret (pet_and (pe_callB call_isi (by rfl) T.isi PyProof.Rows.boot_isinstance (pa_cons (pv 0) (pa_cons (pe_bltn (v := .ty "str") (by rfl) T.str (by decide +kernel) rfl) pa_nil)))
      (pet_and (pe_cmpR op_le (pe_callB call_len_str (by rfl) T.len PySem.boot_len (pa_cons (pv 0) pa_nil)) (pv 1) (nomark _))
      (pet_one (pet_c c_is_shown hr (by omega) (by rfl) (pat_cons (CwR.pet_replC (pv 0)) pat_nil)))))), ?_⟩
    refine ⟨_, rfl, .str x, .ty "str", .type "str", .type "str", true, rfl, .ty "str", .base (.str _), kit_ty (by decide +kernel), _, rfl, iteT ?_⟩
    refine ⟨_, rfl, _, rfl, small_of (by omega), _, rfl, _, _, rfl, rfl, _, rfl, ?_⟩
    rw [decide_eq_true hn]
    refine iteT ?_
    have e0 : ("" : Str).length = 0 := by decide +kernel
    exact ⟨_, rfl, x, rfl, by rw [e0]; omega, _, rfl, hx.strike, k⟩
abbrev s_is_content : Stmt := topS 11
theorem sc_is_content : FnScope ["value"] ["value"] (defScope s_is_content) := ⟨rfl, rfl, rfl, by decide +kernel, rfl, by decide +kernel, by decide +kernel⟩
theorem ok_cont {f : Addr} {fd : FuncData} (F : Fun K "is_content" "is_content" s_is_content f fd) {t1000 : Tok} (m_MOST_CONTENT_SIGNS : mg "MOST_CONTENT_SIGNS" = some (.int 1000 t1000)) (c_is_signs : C8.Cal P w K mg base 2 "is_signs" (spSigns K) []) : FnOk P w K mg base CX0 3 f fd ["value"] (spCont K) := by
  refine F.ok sc_is_content (fun vs H Q E h => ?_) (fun cdv A outer s H vs Q E hr h => ?_)
  · obtain ⟨x, rfl, _⟩ := h
    rfl
  · obtain ⟨x, rfl, hx, k⟩ := h
    have hl := hx.len
    refine ⟨_, (pss_one (ps_ret (C8.pe_c c_is_signs hr (by omega) (by rfl) (pa_cons (pv 0) (pa_cons (pe_glob (v := .int 1000) (by rfl) m_MOST_CONTENT_SIGNS ⟨_, rfl⟩) pa_nil))))), ?_⟩
    exact ⟨_, rfl, x, 1000, rfl, hx, by omega, k⟩
end
end Kl

namespace Kl
open PySem L2 Kd
def spAsc (_ : PySem.W.Frag) : Sp := fun vs H Q _ => ∃ (p : Addr) (ks : List Str), vs = [.ref p] ∧ Strs H p ks ∧ Asc ks ∧ ks.length ≤ 1000 ∧ ∀ H' : Hp, Same H H' → Q (.bl true) H'
section
variable {P : Program} {w : World} {K : PySem.W.Frag} {mg : Str → Option Value} {base : Heap}
abbrev s_is_ascending : Stmt := topS 12
theorem sc_is_ascending : FnScope ["keys", "key", "later"] ["keys"] (defScope s_is_ascending) := ⟨rfl, rfl, rfl, by decide +kernel, rfl, by decide +kernel, by decide +kernel⟩
theorem ok_asc {f : Addr} {fd : FuncData} (F : Fun K "is_ascending" "is_ascending" s_is_ascending f fd) (T : Glo mg) : FnOk P w K mg base CX0 1 f fd ["keys"] (spAsc K) := by
  refine F.ok sc_is_ascending (fun vs H Q E h => ?_) (fun cdv A outer s H vs Q E hr h => ?_)
  · obtain ⟨p, ks, rfl, _⟩ := h
    rfl
  · obtain ⟨p, ks, rfl, hp, asc, hl, k⟩ := h
    refine ⟨_, (pss_one (ps_ret (pe_callB (cr_all rfl) (by rfl) T.all (by decide +kernel) (pa_cons (pe_lc (own := [("key", 1), ("later", 2)]) (g := gTup K 2 (gCons (gName 1) (gCons (gName 2) gNil))) (tt := tYes) rfl sc_is_ascending.nd (pi_zip (by rfl) T.zip (pa_cons (pv 0) (pa_cons (pe_slice sl_list (pv 0) (po_some pe_int) po_none) pa_nil))) (blkOk_by (N := ["keys", "key", "later"]) (sc := defScope s_is_ascending) (by decide +kernel)) (fun _ _ _ _ _ => (pg_tup rfl (pgs_cons (pg_name (i := 1) sc_is_ascending.nd rfl (.inl rfl)) (pgs_cons (pg_name (i := 2) sc_is_ascending.nd rfl (.inl rfl)) pgs_nil)))) (fun _ _ _ _ _ => pts_nil) (fun _ _ _ _ _ => (pe_cmpR op_lt_str (pv 1) (pv 2) (nomark _)))) pa_nil)))), ?_⟩
    refine ⟨_, rfl, _, rfl, _, rfl, p, _, rfl, SqL.of hp, fun q hq => ?_⟩
    rw [show ((1 : Int)) = ((1 : Nat) : Int) from rfl, cut_drop]
    have s1 : Same H (upd H q (.lst ((ks.drop 1).map V.str))) := Same.new hq
    have q1 : upd H q (.lst ((ks.drop 1).map V.str)) q = some (.lst ((ks.drop 1).map V.str)) := upd_same
    have p1 := s1 _ _ hp
    generalize upd H q (.lst ((ks.drop 1).map V.str)) = H1 at s1 q1 p1 ⊢
    refine ⟨p, q, _, _, rfl, SqL.of p1, SqL.of q1, fun D hD => lc_it (walk_zip (xs := ks.map V.str) (ys := (ks.drop 1).map V.str) (n := ks.length - 1) (by rw [List.length_map, List.length_map, List.length_drop]; omega)) (fun i H2 => Same H1 H2 ∧ H2 D = some (.lst ((List.replicate i true).map V.bl))) ⟨Same.new hD, upd_same⟩ (fun i H2 _ z => ⟨SqL.of (z.1 _ _ p1), SqL.of (z.1 _ _ q1)⟩) ?_ ?_⟩
    · rintro i v H2 H3 hi ⟨s2, e2⟩ ⟨t, x, y, rfl, ht, rfl, hx, hy⟩
      replace hx : (ks.map V.str)[i]? = some x := hx
      replace hy : ((ks.drop 1).map V.str)[i]? = some y := hy
      rw [List.getElem?_map] at hx hy
      obtain ⟨k1, hk1, rfl⟩ := Option.map_eq_some_iff.mp hx
      obtain ⟨k2, hk2, rfl⟩ := Option.map_eq_some_iff.mp hy
      rw [List.getElem?_drop] at hk2
      have lt : k1.cps.toList < k2.cps.toList := by
        have h1 := (List.getElem?_eq_some_iff.mp hk1)
        have h2 := (List.getElem?_eq_some_iff.mp hk2)
        obtain ⟨i1, e1⟩ := h1
        obtain ⟨i2, e2⟩ := h2
        have := (List.pairwise_iff_getElem.mp asc) i (1 + i) i1 i2 (by omega)
        rw [e1, e2] at this
        exact this
      have tD : D ≠ t := fun z => by
        rw [← z, e2] at ht
        cases ht
      have s3 : Same H1 (upd H2 t (.tup [.str k1, .str k2])) := fun b o e => by
        rw [upd_ne (ne_of_none (s2 b o e) ht)]
        exact s2 b o e
      refine ⟨t, _, rfl, SqT.of upd_same, rfl, _, _, rfl, _, _, rfl, rfl, rfl, _, rfl, _, rfl, _, _, rfl, rfl, ?_⟩
      rw [decide_eq_true lt]
      refine ⟨_, by rw [upd_ne tD]; exact e2, ?_, Same.mut s3 hD, ?_⟩
      · rw [List.length_map, List.length_replicate]
        exact small_lt (by omega)
      · rw [upd_same, List.replicate_succ', List.map_append]
        rfl
    · rintro H2 ⟨s2, e2⟩
      refine ⟨D, _, rfl, SqL.of e2, ?_⟩
      have : (List.replicate (ks.length - 1) true).all id = true := List.all_eq_true.mpr fun b hb => (List.mem_replicate.mp hb).2
      rw [this]
      exact k H2 fun b o e => s2 b o (s1 b o e)
end
end Kl

namespace Kl
open PySem L2 Kd
def changeV : Str × Option Str → List V
  | (p, none) => [.str "drop", .str p]
  | (p, some c) => [.str "put", .str p, .str c]
theorem changeL_of {H : Hp} {q : Str × Option Str} {v : V} (h : RepL H (changeD q) v) : ∃ a, v = .ref a ∧ SeqAt H a (changeV q) := by
  obtain ⟨p, o⟩ := q
  cases o with
  | none =>
    obtain ⟨a, vs, rfl, _, ha, _, x, r, rfl, hx, y, r2, rfl, hy, hn⟩ := h
    cases (show r2 = [] from hn)
    cases (show x = V.str "drop" from hx)
    cases (show y = V.str p from hy)
    exact ⟨a, rfl, ha⟩
  | some c =>
    obtain ⟨a, vs, rfl, _, ha, _, x, r, rfl, hx, y, r2, rfl, hy, z, r3, rfl, hz, hn⟩ := h
    cases (show r3 = [] from hn)
    cases (show x = V.str "put" from hx)
    cases (show y = V.str p from hy)
    cases (show z = V.str c from hz)
    exact ⟨a, rfl, ha⟩
theorem pairL_of {H : Hp} {q : Str × Str} {v : V} (h : RepL H (pairD q) v) : ∃ a, v = .ref a ∧ SeqAt H a [.str q.1, .str q.2] := by
  obtain ⟨a, vs, rfl, _, ha, _, x, r, rfl, hx, y, r2, rfl, hy, hn⟩ := h
  cases (show r2 = [] from hn)
  cases (show x = V.str q.1 from hx)
  cases (show y = V.str q.2 from hy)
  exact ⟨a, rfl, ha⟩
structure ChOk (q : Str × Option Str) : Prop where
  path : pathB q.1 = true
  len : q.1.length ≤ 1000
  cont : ∀ c, q.2 = some c → Cont c
structure PairOk (q : Str × Str) : Prop where
  path : pathB q.1 = true
  len : q.1.length ≤ 1000
  cont : Cont q.2
  lay : PyData.canLay0 (.str q.1) = true
end Kl

namespace Kl
open PySem L2 Kd
def spChange (_ : PySem.W.Frag) : Sp := fun vs H Q _ => ∃ (v : V) (q : Str × Option Str), vs = [v] ∧ RepL H (changeD q) v ∧ ChOk q ∧ ∀ H' : Hp, Same H H' → Q (.bl true) H'
section
variable {P : Program} {w : World} {K : PySem.W.Frag} {mg : Str → Option Value} {base : Heap}
abbrev s_is_change : Stmt := topS 21
theorem sc_is_change : FnScope ["value"] ["value"] (defScope s_is_change) := ⟨rfl, rfl, rfl, by decide +kernel, rfl, by decide +kernel, by decide +kernel⟩
theorem ok_change {f : Addr} {fd : FuncData} (F : Fun K "is_change" "is_change" s_is_change f fd) (T : Glo mg) (c_is_row : C8.Cal P w K mg base 2 "is_row" (spRow K) []) (c_is_path : C8.Cal P w K mg base 2 "is_path" (spPath K) []) (c_is_content : C8.Cal P w K mg base 3 "is_content" (spCont K) []) :
    FnOk P w K mg base CX0 4 f fd ["value"] (spChange K) := by
  refine F.ok sc_is_change (fun vs H Q E h => ?_) (fun cdv A outer s H vs Q E hr h => ?_)
  · obtain ⟨v, q, rfl, _⟩ := h
    rfl
  · obtain ⟨v, q, rfl, hv, hq, k⟩ := h
    obtain ⟨a, rfl, ha⟩ := changeL_of hv
    refine ⟨_, (C8.pss_cut (ps_if (PW.pt (pw_and (pt_val (C8.pe_c c_is_row hr (by omega) (by rfl) (pa_cons (pv 0) (pa_cons pe_int pa_nil)))) (pw_and1 (pt_cmpR op_eq (pe_ix ix_seq (pv 0) pe_int (fun _ _ => rfl)) pe_str (nomark _)))))
      (pss_one (ps_ret (pe_and (C8.pe_c c_is_path hr (by omega) (by rfl) (pa_cons (pe_ix ix_seq (pv 0) pe_int (fun _ _ => rfl)) pa_nil)) (pe_one (C8.pe_c c_is_content hr (by omega) (by rfl) (pa_cons (pe_ix ix_seq (pv 0) pe_int (fun _ _ => rfl)) pa_nil))))))
      pss_nil)
      (pss_one (ps_ret (pe_and (C8.pe_c c_is_row hr (by omega) (by rfl) (pa_cons (pv 0) (pa_cons pe_int pa_nil))) (pe_and (pe_cmpR op_eq (pe_ix ix_seq (pv 0) pe_int (fun _ _ => rfl)) pe_str (nomark _)) (pe_one (C8.pe_c c_is_path hr (by omega) (by rfl) (pa_cons (pe_ix ix_seq (pv 0) pe_int (fun _ _ => rfl)) pa_nil)))))))), ?_⟩
    obtain ⟨p, o⟩ := q
    cases o with
    | none =>
      refine ⟨fun σ' H' => σ' = [some (.ref a)] ∧ Same H H', ?_, ?_⟩
      · exact ⟨_, rfl, a, _, 3, rfl, ha, fun H1 s1 => ⟨_, rfl, iteF (iteF ⟨rfl, s1⟩)⟩⟩
      rintro σ' H' ⟨rfl, s1⟩
      refine ⟨_, rfl, a, _, 2, rfl, ha.same s1, fun H2 s2 => ⟨_, rfl, iteT ?_⟩⟩
      have s12 : Same H H2 := fun b o e => s2 b o (s1 b o e)
      refine ⟨_, rfl, ix_any (ha.same s12) rfl ?_⟩
      refine ⟨rfl, _, rfl, iteT ⟨_, rfl, ix_any (ha.same s12) rfl ?_⟩⟩
      exact ⟨p, rfl, hq.path, hq.len, fun H3 s3 => k H3 fun b o e => s3 b o (s12 b o e)⟩
    | some c =>
      refine ⟨fun σ' H' => False, ?_, fun _ _ h => h.elim⟩
      refine ⟨_, rfl, a, _, 3, rfl, ha, fun H1 s1 => ⟨_, rfl, iteT ⟨_, rfl, ix_any (ha.same s1) rfl ?_⟩⟩⟩
      refine ⟨rfl, _, rfl, iteT ⟨_, rfl, ix_any (ha.same s1) rfl ?_⟩⟩
      refine ⟨p, rfl, hq.path, hq.len, fun H2 s2 => ⟨_, rfl, iteT ?_⟩⟩
      have s12 : Same H H2 := fun b o e => s2 b o (s1 b o e)
      refine ⟨_, rfl, ix_any (ha.same s12) rfl ?_⟩
      exact ⟨c, rfl, hq.cont c rfl, fun H3 s3 => k H3 fun b o e => s3 b o (s12 b o e)⟩
def spIsEdit (_ : PySem.W.Frag) : Sp := fun vs H Q _ => ∃ (v : V) (es : Es), vs = [v] ∧ RepL H (editD es) v ∧ (∀ q ∈ es, ChOk q) ∧ Asc (es.map (·.1)) ∧ es.length ≤ 1000 ∧ ∀ H' : Hp, Same H H' → Q (.bl true) H'
abbrev s_is_edit : Stmt := topS 22
theorem sc_is_edit : FnScope ["value", "change"] ["value"] (defScope s_is_edit) := ⟨rfl, rfl, rfl, by decide +kernel, rfl, by decide +kernel, by decide +kernel⟩
theorem ok_isedit {f : Addr} {fd : FuncData} (F : Fun K "is_edit" "is_edit" s_is_edit f fd) (T : Glo mg) (c_is_sequence : C8.Cal P w K mg base 1 "is_sequence" (spSeq K) []) (c_is_change : C8.Cal P w K mg base 4 "is_change" (spChange K) []) (c_is_ascending : C8.Cal P w K mg base 1 "is_ascending" (spAsc K) []) :
    FnOk P w K mg base CX0 5 f fd ["value"] (spIsEdit K) := by
  refine F.ok sc_is_edit (fun vs H Q E h => ?_) (fun cdv A outer s H vs Q E hr h => ?_)
  · obtain ⟨v, es, rfl, _⟩ := h
    rfl
  · obtain ⟨v, es, rfl, hv, hq, asc, hl, k⟩ := h
    obtain ⟨a, vs, rfl, _, ha, _, hvs⟩ := hv
    have vl := hvs.len
    rw [List.length_map] at vl
    refine ⟨_, (C8.pss_cut (ps_if (PW.pt (pw_or (pt_not (pt_val (C8.pe_c c_is_sequence hr (by omega) (by rfl) (pa_cons (pv 0) pa_nil)))) (pw_or1 (pt_not (pt_val (pe_callB (cr_all rfl) (by rfl) T.all (by decide +kernel) (pa_cons (pe_lc (own := [("change", 1)]) (g := gName 1) (tt := tYes) rfl sc_is_edit.nd (pi_seq (pv 0)) (blkOk_by (N := ["value", "change"]) (sc := defScope s_is_edit) (by decide +kernel)) (fun _ _ _ _ _ => (pg_name (i := 1) sc_is_edit.nd rfl (.inl rfl))) (fun _ _ _ _ _ => pts_nil) (fun _ _ _ _ _ => (C8.pe_c c_is_change hr (by omega) (by rfl) (pa_cons (pv 1) pa_nil)))) pa_nil)))))))
      (pss_one ps_never)
      pss_nil)
      (pss_one (ps_ret (C8.pe_c c_is_ascending hr (by omega) (by rfl) (pa_cons (pe_lc (own := [("change", 1)]) (g := gName 1) (tt := tYes) rfl sc_is_edit.nd (pi_seq (pv 0)) (blkOk_by (N := ["value", "change"]) (sc := defScope s_is_edit) (by decide +kernel)) (fun _ _ _ _ _ => (pg_name (i := 1) sc_is_edit.nd rfl (.inl rfl))) (fun _ _ _ _ _ => pts_nil) (fun _ _ _ _ _ => (pe_ix (r := rIx K) ix_seq (pv 1) pe_int (fun _ _ => rfl)))) pa_nil))))), ?_⟩
    refine ⟨fun σ' H' => σ' = [some (.ref a), none] ∧ Same H H', ?_, ?_⟩
    · refine ⟨_, rfl, a, _, rfl, ha, fun H1 s1 => ⟨_, rfl, iteF ?_⟩⟩
      refine tt_not (tt_b (te_cb (ta_cons (te_lc ?_))))
      refine seq_walk (SeqAt.same s1 ha) (fun Q q => ⟨_, rfl, q⟩) fun J G w hG D hD => ?_
      refine lc_it w (fun i H2 => Same H1 H2 ∧ H2 D = some (.lst ((List.replicate i true).map V.bl))) ⟨Same.new hD, upd_same⟩ (fun i H2 _ q => hG H2 q.1) ?_ ?_
      · rintro i y Hx H2 hi ⟨s2, e2⟩ ⟨rfl, hy⟩
        have hil : i < es.length := by omega
        have hqi : es[i]? = some es[i] := List.getElem?_eq_getElem hil
        obtain ⟨v, hv, hrep⟩ := hvs.get (i := i) (d := changeD es[i]) (by rw [List.getElem?_map, hqi]; rfl)
        obtain rfl : v = y := Option.some.inj (hv.symm.trans hy)
        have s12 : Same H H2 := fun b o e => s2 b o (s1 b o e)
        refine ⟨rfl, _, rfl, v, es[i], rfl, hrep.same s12, hq _ (List.getElem_mem hil), fun H4 s4 => ?_⟩
        have e4 := s4 _ _ e2
        refine ⟨_, e4, ?_, Same.mut (fun b o e => s4 b o (s2 b o e)) hD, ?_⟩
        · rw [List.length_map, List.length_replicate]
          exact small_lt (by omega)
        · rw [upd_same, List.replicate_succ', List.map_append]
          rfl
      · rintro H2 ⟨s2, e2⟩
        have : (List.replicate vs.length true).all id = true := List.all_eq_true.mpr fun b hb => (List.mem_replicate.mp hb).2
        refine ⟨D, _, rfl, SqL.of e2, _, rfl, ?_⟩
        rw [this]
        exact iteF ⟨rfl, fun b o e => s2 b o (s1 b o e)⟩
    rintro σ' H' ⟨rfl, s1⟩
    refine st_ret (te_call (ta_cons (te_lc ?_)))
    refine seq_walk (SeqAt.same s1 ha) (fun Q q => ⟨_, rfl, q⟩) fun J G w hG D hD => ?_
    refine lc_it w (fun i H2 => Same H' H2 ∧ H2 D = some (.lst (((es.map (·.1)).take i).map V.str))) ⟨Same.new hD, upd_same⟩ (fun i H2 _ q => hG H2 q.1) ?_ ?_
    · rintro i y Hx H2 hi ⟨s2, e2⟩ ⟨rfl, hy⟩
      have hil : i < es.length := by omega
      have hqi : es[i]? = some es[i] := List.getElem?_eq_getElem hil
      obtain ⟨v, hv, hrep⟩ := hvs.get (i := i) (d := changeD es[i]) (by rw [List.getElem?_map, hqi]; rfl)
      obtain rfl : v = y := Option.some.inj (hv.symm.trans hy)
      have s12 : Same H H2 := fun b o e => s2 b o (s1 b o e)
      obtain ⟨c, rfl, hc⟩ := changeL_of (hrep.same s12)
      have at1 : atI (changeV es[i]) 1 = some (.str es[i].1) := by
        obtain ⟨p, o⟩ := es[i]
        cases o <;> rfl
      refine ⟨rfl, _, rfl, ix_any hc at1 ⟨_, e2, ?_, Same.mut s2 hD, ?_⟩⟩
      · rw [List.length_map, List.length_take, List.length_map]
        exact small_lt (by omega)
      · rw [upd_same, List.take_add_one, List.getElem?_map, hqi, List.map_append]
        rfl
    · rintro H2 ⟨s2, e2⟩
      rw [List.take_of_length_le (by rw [List.length_map]; omega)] at e2
      exact ⟨D, _, rfl, e2, asc, by rw [List.length_map]; omega, fun H3 s3 => k H3 fun b o e => s3 b o (s2 b o (s1 b o e))⟩
end
end Kl

namespace Kl
open PySem L2 Kd
section
variable {P : Program} {w : World} {K : PySem.W.Frag} {mg : Str → Option Value} {base : Heap}
def spIsFiles (_ : PySem.W.Frag) : Sp := fun vs H Q _ => ∃ (v : V) (fs : Fs), vs = [v] ∧ RepL H (filesD fs) v ∧ (∀ q ∈ fs, PairOk q) ∧ Asc (fs.map (·.1)) ∧ fs.length ≤ 60 ∧ ∀ H' : Hp, Same H H' → Q (.bl true) H'
abbrev s_is_files : Stmt := topS 19
theorem sc_is_files : FnScope ["value", "pair"] ["value"] (defScope s_is_files) := ⟨rfl, rfl, rfl, by decide +kernel, rfl, by decide +kernel, by decide +kernel⟩
theorem ok_isfiles {f : Addr} {fd : FuncData} (F : Fun K "is_files" "is_files" s_is_files f fd) (T : Glo mg) {t60 : Tok} (m_MOST_FILES : mg "MOST_FILES" = some (.int 60 t60)) (c_is_sequence : C8.Cal P w K mg base 1 "is_sequence" (spSeq K) []) (c_is_row : C8.Cal P w K mg base 2 "is_row" (spRow K) []) (c_is_path : C8.Cal P w K mg base 2 "is_path" (spPath K) []) (c_is_content : C8.Cal P w K mg base 3 "is_content" (spCont K) [])
    (c_is_ascending : C8.Cal P w K mg base 1 "is_ascending" (spAsc K) []) : FnOk P w K mg base CX0 4 f fd ["value"] (spIsFiles K) := by
  refine F.ok sc_is_files (fun vs H Q E h => ?_) (fun cdv A outer s H vs Q E hr h => ?_)
  · obtain ⟨v, fs, rfl, _⟩ := h
    rfl
  · obtain ⟨v, fs, rfl, hv, hq, asc, hl, k⟩ := h
    obtain ⟨a, vs, rfl, _, ha, _, hvs⟩ := hv
    have vl := hvs.len
    rw [List.length_map] at vl
    refine ⟨_, (C8.pss_cut (ps_if (PW.pt (pw_or (pt_not (pt_val (C8.pe_c c_is_sequence hr (by omega) (by rfl) (pa_cons (pv 0) pa_nil)))) (pw_or1 (pt_cmpR op_gt (pe_callB call_len_seq (by rfl) T.len PySem.boot_len (pa_cons (pv 0) pa_nil)) (pe_glob (v := .int 60) (by rfl) m_MOST_FILES ⟨_, rfl⟩) (nomark _)))))
      (pss_one ps_never)
      pss_nil)
      (pss_cons (ps_if (pt_not (pt_val (pe_callB (cr_all rfl) (by rfl) T.all (by decide +kernel) (pa_cons (pe_lc (own := [("pair", 1)]) (g := gName 1) (tt := tYes) rfl sc_is_files.nd (pi_seq (pv 0)) (blkOk_by (N := ["value", "pair"]) (sc := defScope s_is_files) (by decide +kernel)) (fun _ _ _ _ _ => (pg_name (i := 1) sc_is_files.nd rfl (.inl rfl))) (fun _ _ _ _ _ => pts_nil) (fun _ _ _ _ _ => (pe_and (C8.pe_c c_is_row hr (by omega) (by rfl) (pa_cons (pv 1) (pa_cons pe_int pa_nil))) (pe_and (C8.pe_c c_is_path hr (by omega) (by rfl) (pa_cons (pe_ix (r := rIx K) ix_seq (pv 1) pe_int (fun _ _ => rfl)) pa_nil)) (pe_one (C8.pe_c c_is_content hr (by omega) (by rfl) (pa_cons (pe_ix (r := rIx K) ix_seq (pv 1) pe_int (fun _ _ => rfl)) pa_nil))))))) pa_nil))))
      (pss_one ps_never)
      pss_nil)
      (pss_one (ps_ret (C8.pe_c c_is_ascending hr (by omega) (by rfl) (pa_cons (pe_lc (own := [("pair", 1)]) (g := gName 1) (tt := tYes) rfl sc_is_files.nd (pi_seq (pv 0)) (blkOk_by (N := ["value", "pair"]) (sc := defScope s_is_files) (by decide +kernel)) (fun _ _ _ _ _ => (pg_name (i := 1) sc_is_files.nd rfl (.inl rfl))) (fun _ _ _ _ _ => pts_nil) (fun _ _ _ _ _ => (pe_ix (r := rIx K) ix_seq (pv 1) pe_int (fun _ _ => rfl)))) pa_nil)))))), ?_⟩
    refine ⟨fun σ' H' => σ' = [some (.ref a), none] ∧ Same H H', ?_, ?_⟩
    · refine ⟨_, rfl, a, _, rfl, ha, fun H1 s1 => ⟨_, rfl, iteF ?_⟩⟩
      refine ⟨_, rfl, a, _, rfl, SeqAt.sq (SeqAt.same s1 ha), _, _, rfl, rfl, _, rfl, ite2 (fun z => ?_) (fun _ => ⟨rfl, s1⟩)⟩
      have := of_decide_eq_true z
      omega
    rintro σ' H' ⟨rfl, s1⟩
    refine st_seq ?_
    refine st_if (tt_not (tt_b (te_cb (ta_cons (te_lc ?_)))))
    refine seq_walk (SeqAt.same s1 ha) (fun Q q => ⟨_, rfl, q⟩) fun J G w hG D hD => ?_
    refine lc_it w (fun i H2 => Same H' H2 ∧ H2 D = some (.lst ((List.replicate i true).map V.bl))) ⟨Same.new hD, upd_same⟩ (fun i H2 _ q => hG H2 q.1) ?_ ?_
    · rintro i y Hx H2 hi ⟨s2, e2⟩ ⟨rfl, hy⟩
      have hil : i < fs.length := by omega
      have hqi : fs[i]? = some fs[i] := List.getElem?_eq_getElem hil
      obtain ⟨v, hv, hrep⟩ := hvs.get (i := i) (d := pairD fs[i]) (by rw [List.getElem?_map, hqi]; rfl)
      obtain rfl : v = y := Option.some.inj (hv.symm.trans hy)
      have s12 : Same H H2 := fun b o e => s2 b o (s1 b o e)
      obtain ⟨c, rfl, hc⟩ := pairL_of (hrep.same s12)
      have ok := hq _ (List.getElem_mem hil)
      refine ⟨rfl, _, rfl, c, _, 2, rfl, hc, fun H4 s4 => ⟨_, rfl, iteT ?_⟩⟩
      refine ⟨_, rfl, ix_any (SeqAt.same s4 hc) rfl ⟨_, rfl, ok.path, ok.len, fun H5 s5 => ⟨_, rfl, iteT ?_⟩⟩⟩
      refine ⟨_, rfl, ix_any (SeqAt.same s5 (SeqAt.same s4 hc)) rfl ⟨_, rfl, ok.cont, fun H6 s6 => ?_⟩⟩
      have e6 := s6 _ _ (s5 _ _ (s4 _ _ e2))
      refine ⟨_, e6, ?_, Same.mut (fun b o e => s6 b o (s5 b o (s4 b o (s2 b o e)))) hD, ?_⟩
      · rw [List.length_map, List.length_replicate]
        exact small_lt (by omega)
      · rw [upd_same, List.replicate_succ', List.map_append]
        rfl
    · rintro H2 ⟨s2, e2⟩
      have : (List.replicate vs.length true).all id = true := List.all_eq_true.mpr fun b hb => (List.mem_replicate.mp hb).2
      refine ⟨D, _, rfl, SqL.of e2, _, rfl, ?_⟩
      rw [this]
      refine iteF ?_
      have s1 : Same H H2 := fun b o e => s2 b o (s1 b o e)
      refine st_next ?_
      dsimp only
      refine st_ret (te_call (ta_cons (te_lc ?_)))
      refine seq_walk (SeqAt.same s1 ha) (fun Q q => ⟨_, rfl, q⟩) fun J G w hG D hD => ?_
      refine lc_it w (fun i H3 => Same H2 H3 ∧ H3 D = some (.lst (((fs.map (·.1)).take i).map V.str))) ⟨Same.new hD, upd_same⟩ (fun i H2 _ q => hG H2 q.1) ?_ ?_
      · rintro i y Hx H3 hi ⟨s3, e3⟩ ⟨rfl, hy⟩
        have hil : i < fs.length := by omega
        have hqi : fs[i]? = some fs[i] := List.getElem?_eq_getElem hil
        obtain ⟨v, hv, hrep⟩ := hvs.get (i := i) (d := pairD fs[i]) (by rw [List.getElem?_map, hqi]; rfl)
        obtain rfl : v = y := Option.some.inj (hv.symm.trans hy)
        have s12 : Same H H3 := fun b o e => s3 b o (s1 b o e)
        obtain ⟨c, rfl, hc⟩ := pairL_of (hrep.same s12)
        refine ⟨rfl, _, rfl, ix_any hc rfl ⟨_, e3, ?_, Same.mut s3 hD, ?_⟩⟩
        · rw [List.length_map, List.length_take, List.length_map]
          exact small_lt (by omega)
        · rw [upd_same, List.take_add_one, List.getElem?_map, hqi, List.map_append]
          rfl
      · rintro H3 ⟨s3, e3⟩
        rw [List.take_of_length_le (by rw [List.length_map]; omega)] at e3
        exact ⟨D, _, rfl, e3, asc, by rw [List.length_map]; omega, fun H4 s4 => k H4 fun b o e => s4 b o (s3 b o (s1 b o e))⟩
end
end Kl

namespace Ks
open PySem L2
/-! {**a, **b, ..}: each dict poured into the new one -/
section
variable {P : Program} {w : World} {T : Type} [DecidableEq T] {kd : KeyKind P w T} {A : Around} {E : Value → Shared → Prop} {s : Shared}
theorem put_wp {a : Addr} {l : List (T × Value)} {k : T} {u v : Value} {Q : Unit → Shared → Prop} (hu : kd.is k u = true) (m : s.heap.DictOf kd a l) (z : l.length ≤ sizeLine)
    (q : ∀ h2, h2.DictOf kd a (stored l k v) → Heap.SameBut a s.heap h2 → Q () { s with heap := h2 }) : wpAny (model P w) A (dictPut a (kd.hash k) u v) Q E s := by
  obtain ⟨ob, ents, n, g1, g2, g3, g4, g5, g6⟩ := m
  have sz : ents.size ≤ sizeLine := by
    have a1 := g5.length
    have a2 : ents.toList.length = ents.size := by simp
    omega
  unfold dictPut
  refine wpAny_bind (wpAny_dictFind_of hu g1 g3 g4 ?_)
  have ix : (ents.findIdx? fun e => kd.is k e.key) = l.findIdx? fun kv => decide (kv.1 = k) := by
    rw [← g5.findIdx k]
    obtain ⟨ls⟩ := ents
    simp
  cases c : ents.findIdx? fun e => kd.is k e.key with
  | some i =>
    refine wpAny_updateDict g1 g3 (q _ ⟨_, _, n, Heap.get?_update_self _ g1 (Obj.isFreed_of_dict (Obj.data_mapDict g3 _)), g2.mapDict _, Obj.data_mapDict g3 _, g4.modify _ _, ?_, ?_⟩ (Heap.SameBut.update ..))
    · rw [stored, if_pos (any_of_findIdx_some (ix ▸ c))]
      have c2 : (ents.toList.findIdx? fun e => kd.is k e.key) = some i := by
        rw [← c]
        obtain ⟨ls⟩ := ents
        simp
      have := g5.modify g6 c2 v
      obtain ⟨ls⟩ := ents
      simpa using this
    · rw [stored, if_pos (any_of_findIdx_some (ix ▸ c)), keys_map_store]
      exact g6
  | none =>
    have c1 : k ∉ l.map (·.1) := not_mem_of_findIdx_none (ix ▸ c)
    have c2 : ¬ (l.any fun kv => decide (kv.1 = k)) = true := fun e => by
      obtain ⟨kv, h1, h2⟩ := List.any_eq_true.mp e
      exact c1 (List.mem_map.mpr ⟨kv, h1, of_decide_eq_true h2⟩)
    refine wpAny_updateDictKeys (hz := sz) g1 g3 (q _ ⟨_, _, n + 1, Heap.get?_update_self _ g1 (Obj.isFreed_of_dict (Obj.data_mapDictKeys g3 _)), g2.mapDictKeys _, Obj.data_mapDictKeys g3 _, g4.push hu _, ?_, ?_⟩ (Heap.SameBut.update ..))
    · rw [stored, if_neg c2]
      have := g5.append hu (kd.hash k) v
      obtain ⟨ls⟩ := ents
      simpa using this
    · rw [stored, if_neg c2, List.map_append, List.nodup_append]
      refine ⟨g6, by simp, fun x hx y hy => ?_⟩
      simp only [List.map_cons, List.map_nil, List.mem_singleton] at hy
      subst hy
      exact fun e => c1 (e ▸ hx)
theorem pour_wp {a o : Addr} {l m : List (T × Value)} {Q : Unit → Shared → Prop} (ne : a ≠ o) (ns : (o == sysModules) = false) (ha : s.heap.DictOf kd a l) (ho : s.heap.DictOf kd o m) (z : l.length + m.length ≤ sizeLine)
    (q : ∀ h2, h2.DictOf kd a (merged l m) → h2.DictOf kd o m → Heap.SameBut a s.heap h2 → Q () { s with heap := h2 }) : wpAny (model P w) A (mergeMapping a (.ref o) false) Q E s := by
  obtain ⟨oa, ea, na, ga1, ga2, ga3, ga4, ga5, ga6⟩ := id ha
  obtain ⟨oo, eo, no, go1, go2, go3, go4, go5, go6⟩ := id ho
  have len : m.length = eo.size := by
    rw [← go5.length]
    simp
  unfold mergeMapping
  refine wpAny_bind (wpAny_isInstance ho.typeIs isSubtype_dict_dict ?_)
  rw [if_pos rfl]
  refine wpAny_bind (wpAny_specialOf ho.typeIs F.slot_dict_iter.lookup (wpAny_bind (wpAny_pure ?_)))
  dsimp only
  rw [show ((some (Value.builtin "dict.__iter__") == some (Value.builtin "dict.__iter__")) = true) from rfl]
  dsimp only
  rw [if_neg (by rw [ns]; exact Bool.false_ne_true)]
  refine wpAny_bind (wpAny_dictEntries ga1 ga3 ?_)
  have stay : ∀ x ∈ eo, ∀ b, x.key ≠ .ref b := fun x hx b e => by
    obtain ⟨k, hk, _⟩ := go4 x hx
    have := kd.byValue k _ hk
    rw [e] at this
    cases this
  refine dite (ea.isEmpty = true) (fun c => ?one) (fun c => ?two)
  case' one =>
    rw [if_pos c]
    refine wpAny_bind (wpAny_dictEntries go1 go3 (wpAny_bind ?_))
    rw [← Array.forIn_toList]
    refine wpAny_forIn_list _ (fun rest _ s' => s' = s ∧ ∀ x ∈ rest, x ∈ eo) _ ?turn ?fin eo.toList _ ⟨rfl, fun x hx => Array.mem_toList_iff.mp hx⟩
  case turn =>
    rintro x rest b s' ⟨rfl, h⟩
    have hk := stay x (h x (List.mem_cons_self ..))
    split
    · rename_i b e
      exact absurd e (hk b)
    · exact wpAny_pure ⟨rfl, fun y hy => h y (List.mem_cons_of_mem _ hy)⟩
  case' fin =>
    rintro b s' ⟨e, _⟩
    rw [e]
  case' two => rw [if_neg c]
  all_goals
    refine wpAny_bind (wpAny_dictEntries go1 go3 ?_)
    refine wpAny_bind (wpAny_dictEpoch go1 go3 ?_)
    refine wpAny_bind ?_
    refine wpAny_forIn_list _ (fun rest _ st => ∃ (h2 : Heap) (i : Nat), st = { s with heap := h2 } ∧ rest = (List.range eo.size).drop i ∧ i ≤ eo.size ∧ h2.DictOf kd a (merged l (m.take i)) ∧ h2.get? o = some oo ∧ Heap.SameBut a s.heap h2) _ ?_ ?_ _ _
      ⟨s.heap, 0, rfl, List.drop_zero.symm, Nat.zero_le _, ha, go1, Heap.SameBut.refl _ _⟩
    · rintro x rest b st ⟨h2, i, rfl, er, le, d2, o2, sb⟩
      have hi : i < eo.size := by
        rcases Nat.lt_or_ge i eo.size with h | h
        · exact h
        · rw [List.drop_eq_nil_of_le (by rw [List.length_range]; exact h)] at er
          cases er
      rw [List.drop_eq_getElem_cons (by rw [List.length_range]; exact hi), List.getElem_range] at er
      obtain ⟨rfl, rfl⟩ := List.cons.inj er
      refine wpAny_bind (wpAny_dictEntries o2 go3 ?_)
      rw [Array.getElem?_eq_getElem hi]
      have hm : m[x]? = some (m[x]'(by rw [len]; exact hi)) := List.getElem?_eq_getElem _
      generalize m[x]'(by rw [len]; exact hi) = kv at hm
      obtain ⟨k, v⟩ := kv
      obtain ⟨hk, hv⟩ := go5.get? (e := eo[x]) (by simp [hi]) hm
      obtain ⟨k2, hk2, hh⟩ := go4 eo[x] (Array.getElem_mem hi)
      obtain rfl : k2 = k := kd.inj _ _ _ hk2 hk
      have zz : (merged l (m.take x)).length ≤ sizeLine := by
        have a1 := merged_length_le l (m.take x)
        have a2 : (m.take x).length ≤ m.length := by
          rw [List.length_take]
          omega
        omega
      dsimp only
      rw [hh, hv]
      refine wpAny_bind (wpAny_holding ?_)
      rw [if_neg Bool.false_ne_true]
      refine put_wp hk d2 zz fun h3 d3 sb3 => ?_
      have o3 : h3.get? o = some oo := (sb3.2 o (Ne.symm ne)).trans o2
      refine wpAny_bind (wpAny_dictEpoch o3 go3 ?_)
      rw [if_neg (by simp)]
      exact wpAny_pure ⟨h3, x + 1, rfl, rfl, hi, by rw [merged_take_succ l m x (k2, v) hm]; exact d3, o3, sb.trans sb3⟩
    · rintro b st ⟨h2, i, rfl, er, le, d2, o2, sb⟩
      have hi : i = eo.size := by
        rcases Nat.lt_or_ge i eo.size with h | h
        · rw [List.drop_eq_getElem_cons (by rw [List.length_range]; exact h)] at er
          cases er
        · exact Nat.le_antisymm le h
      refine wpAny_pure (q h2 ?_ (ho.sameBut sb (Ne.symm ne)) sb)
      rw [hi, ← len, List.take_length] at d2
      exact d2
end
end Ks

namespace Ks
open PySem L2
section
variable {X : Cx} {e1 e2 e3 : Expr} {t1 t2 t3 : TE} {pos : Pos}
theorem inv_pour {pins : List (Addr × Obj)} {σ : L2.St} {H : Hp} {s : Shared} {E : Value → Shared → Prop} {A : Around} {a o : Addr} {ka ko : List (Key × V)} {Q : Unit → Shared → Prop} (I : Inv X pins σ H s) (ha : H a = some (.dK ka)) (ho : H o = some (.dK ko)) (ne : a ≠ o) (z : ka.length + ko.length ≤ sizeLine)
    (q : ∀ s', Inv X pins σ (upd H a (.dK (mergeK ka ko))) s' → Q () s') : wpAny (model X.prog X.w) A (mergeMapping a (.ref o) false) Q E s := by
  obtain ⟨z1, n1, va, ra, da⟩ := dk_of I.hok ha
  obtain ⟨z2, n2, vo, ro, dd⟩ := dk_of I.hok ho
  have l1 := ra.length
  have l2 := ro.length
  refine pour_wp ne n2 da dd (by omega) fun h2 d2 o2 sb => q _ ?_
  have he : ∃ y, h2.get? a = some y := let ⟨y, _, _, hy, _⟩ := d2; ⟨y, hy⟩
  exact d_write I (by rw [ha]; exact True.intro) sb he (dk_new (Nat.le_trans (length_mergeK ko ka) z) n1 (KV.merge ro ra) d2)
/-- one dict more, poured into the one at p that holds acc -/
def tPour (p : Addr) (acc : List (Key × V)) (t : TE) (k : List (Key × V) → St → Hp → Prop) : St → Hp → Prop := fun σ H => t σ H fun x H1 => ∃ (a : Addr) (ka : List (Key × V)), x = .ref a ∧ H1 p = some (.dK acc) ∧ H1 a = some (.dK ka) ∧ p ≠ a ∧ acc.length + ka.length ≤ sizeLine ∧ k (mergeK acc ka) σ (upd H1 p (.dK (mergeK acc ka)))
/-- {**e1, **e2} -/
def tStar2 (t1 t2 : TE) : TE := fun σ H Q => ∀ p, H p = none → tPour p [] t1 (fun acc => tPour p acc t2 fun _ _ H1 => Q (.ref p) H1) σ (upd H p (.dK []))
def tStar3 (t1 t2 t3 : TE) : TE := fun σ H Q => ∀ p, H p = none → tPour p [] t1 (fun acc => tPour p acc t2 fun acc => tPour p acc t3 fun _ _ H1 => Q (.ref p) H1) σ (upd H p (.dK []))
theorem pe_star2 (h1 : PE X e1 t1) (h2 : PE X e2 t2) : PE X (.Dict [none, none] [e1, e2] pos) (tStar2 t1 t2) := by
  refine ⟨fun pins s σ H Q I h => ?_⟩
  rw [arm_eval_Dict]
  have e : (evalEachOpt [none, none] X.env).zip ((evalEach [e1, e2] X.env).map fun v => do let x ← v; standAt pos; pure x) = [(none, do let x ← eval e1 X.env; standAt pos; pure x), (none, do let x ← eval e2 X.env; standAt pos; pure x)] := rfl
  rw [e]
  unfold dictDisplay
  refine wpAny_bind (wpAny_standAt ?_)
  dsimp only
  refine wpAny_bind ?_
  rw [List.forIn_cons]
  refine wpAny_bind ?_
  dsimp only
  refine wpAny_bind (wpAny_pure (a := none) ?_)
  dsimp only
  refine wpAny_bind (wpAny_alloc ?_)
  have big := I.big
  have fr := I.hok.fresh (Nat.le_refl s.heap.objs.size)
  have I1 := I.laid (a := s.heap.objs.size) (o := .dK []) (h' := s.heap.push { cls := .type "dict", data := .dict #[] }) (t' := s.toks) (fun _ _ y => Heap.get?_push_of_some _ y) (Nat.le_refl _) (dk_empty s.heap big)
  refine wpAny_bind (wpAny_holding (wpAny_bind (thn (h1.run pins _ σ _ _ I1 (h _ fr)) fun v s1 ⟨x, H1, J1, r1, a, ka, ex, p1, a1, ne1, z1, h⟩ => ?_)))
  subst ex
  cases r1
  refine wpAny_bind (wpAny_standAt (wpAny_pure ?_))
  refine wpAny_bind (wpAny_onRaise (wpAny_tryCatch (wpAny_onRaise (wpAny_holding (inv_pour J1 p1 a1 ne1 z1 fun s2 J => ?_)))))
  refine wpAny_pure ?_
  dsimp only
  rw [List.forIn_cons]
  refine wpAny_bind ?_
  dsimp only
  refine wpAny_bind (wpAny_pure (a := some s.heap.objs.size) ?_)
  dsimp only
  refine wpAny_bind (wpAny_pure ?_)
  refine wpAny_bind (wpAny_holding (wpAny_bind (thn (h2.run pins _ σ _ _ J h) fun v s1 ⟨x, H1, J1, r1, a, ka, ex, p1, a1, ne1, z1, h⟩ => ?_)))
  subst ex
  cases r1
  refine wpAny_bind (wpAny_standAt (wpAny_pure ?_))
  refine wpAny_bind (wpAny_onRaise (wpAny_tryCatch (wpAny_onRaise (wpAny_holding (inv_pour J1 p1 a1 ne1 z1 fun s2 J => ?_)))))
  refine wpAny_pure ?_
  dsimp only
  rw [List.forIn_nil]
  refine wpAny_pure ?_
  dsimp only
  refine wpAny_bind (wpAny_pure (a := some s.heap.objs.size) ?_)
  dsimp only
  exact wpAny_pure ⟨.ref s.heap.objs.size, _, J, rfl, h⟩
theorem pe_star3 (h1 : PE X e1 t1) (h2 : PE X e2 t2) (h3 : PE X e3 t3) : PE X (.Dict [none, none, none] [e1, e2, e3] pos) (tStar3 t1 t2 t3) := by
  refine ⟨fun pins s σ H Q I h => ?_⟩
  rw [arm_eval_Dict]
  have e : (evalEachOpt [none, none, none] X.env).zip ((evalEach [e1, e2, e3] X.env).map fun v => do let x ← v; standAt pos; pure x) = [(none, do let x ← eval e1 X.env; standAt pos; pure x), (none, do let x ← eval e2 X.env; standAt pos; pure x), (none, do let x ← eval e3 X.env; standAt pos; pure x)] := rfl
  rw [e]
  unfold dictDisplay
  refine wpAny_bind (wpAny_standAt ?_)
  dsimp only
  refine wpAny_bind ?_
  rw [List.forIn_cons]
  refine wpAny_bind ?_
  dsimp only
  refine wpAny_bind (wpAny_pure (a := none) ?_)
  dsimp only
  refine wpAny_bind (wpAny_alloc ?_)
  have big := I.big
  have fr := I.hok.fresh (Nat.le_refl s.heap.objs.size)
  have I1 := I.laid (a := s.heap.objs.size) (o := .dK []) (h' := s.heap.push { cls := .type "dict", data := .dict #[] }) (t' := s.toks) (fun _ _ y => Heap.get?_push_of_some _ y) (Nat.le_refl _) (dk_empty s.heap big)
  refine wpAny_bind (wpAny_holding (wpAny_bind (thn (h1.run pins _ σ _ _ I1 (h _ fr)) fun v s1 ⟨x, H1, J1, r1, a, ka, ex, p1, a1, ne1, z1, h⟩ => ?_)))
  subst ex
  cases r1
  refine wpAny_bind (wpAny_standAt (wpAny_pure ?_))
  refine wpAny_bind (wpAny_onRaise (wpAny_tryCatch (wpAny_onRaise (wpAny_holding (inv_pour J1 p1 a1 ne1 z1 fun s2 J => ?_)))))
  refine wpAny_pure ?_
  dsimp only
  rw [List.forIn_cons]
  refine wpAny_bind ?_
  dsimp only
  refine wpAny_bind (wpAny_pure (a := some s.heap.objs.size) ?_)
  dsimp only
  refine wpAny_bind (wpAny_pure ?_)
  refine wpAny_bind (wpAny_holding (wpAny_bind (thn (h2.run pins _ σ _ _ J h) fun v s1 ⟨x, H1, J1, r1, a, ka, ex, p1, a1, ne1, z1, h⟩ => ?_)))
  subst ex
  cases r1
  refine wpAny_bind (wpAny_standAt (wpAny_pure ?_))
  refine wpAny_bind (wpAny_onRaise (wpAny_tryCatch (wpAny_onRaise (wpAny_holding (inv_pour J1 p1 a1 ne1 z1 fun s2 J => ?_)))))
  refine wpAny_pure ?_
  dsimp only
  rw [List.forIn_cons]
  refine wpAny_bind ?_
  dsimp only
  refine wpAny_bind (wpAny_pure (a := some s.heap.objs.size) ?_)
  dsimp only
  refine wpAny_bind (wpAny_pure ?_)
  refine wpAny_bind (wpAny_holding (wpAny_bind (thn (h3.run pins _ σ _ _ J h) fun v s1 ⟨x, H1, J1, r1, a, ka, ex, p1, a1, ne1, z1, h⟩ => ?_)))
  subst ex
  cases r1
  refine wpAny_bind (wpAny_standAt (wpAny_pure ?_))
  refine wpAny_bind (wpAny_onRaise (wpAny_tryCatch (wpAny_onRaise (wpAny_holding (inv_pour J1 p1 a1 ne1 z1 fun s2 J => ?_)))))
  refine wpAny_pure ?_
  dsimp only
  rw [List.forIn_nil]
  refine wpAny_pure ?_
  dsimp only
  refine wpAny_bind (wpAny_pure (a := some s.heap.objs.size) ?_)
  dsimp only
  exact wpAny_pure ⟨.ref s.heap.objs.size, _, J, rfl, h⟩
end
end Ks

namespace Ks
open PySem PySem.Spec PyProof.Rows L2
section
variable {X : Cx}
/-- the pairs as they stand, and what the dict makes of them -/
theorem stand_pairs {pins : List (Addr × Obj)} {σ : L2.St} {H : Hp} {s : Shared} (I : Inv X pins σ H s) : ∀ {ps : List Addr} {kvs : List (Key × V)}, Paired (fun p kv => SqT X.K H p [kV kv.1, kv.2]) ps kvs →
    ∃ (us : List (Value × Value)) (prs : List (Key × Value)), KV kvs prs ∧ us.length = ps.length ∧ prs.length = ps.length ∧ ∀ (j : Nat) (k v : Value), us[j]? = some (k, v) → ∃ (b : Addr) (kk : Key), ps[j]? = some b ∧ IsTup s.heap b #[k, v] ∧ prs[j]? = some (kk, v) ∧ keyIs kk k = true
  | _, _, .nil => ⟨[], [], .nil, rfl, rfl, fun j k v e => by simp at e⟩
  | _, _, .cons (a := p) (b := kv) h t => by
    obtain ⟨us, prs, r, l1, l2, w⟩ := stand_pairs I t
    obtain ⟨its, rv, tp, _⟩ := I.tuple h
    obtain ⟨u, y, ei, ru, ry⟩ := vals2 rv
    subst ei
    refine ⟨(u, y) :: us, (kv.1, y) :: prs, .cons ⟨rfl, ry⟩ r, by rw [List.length_cons, List.length_cons, l1], by rw [List.length_cons, List.length_cons, l2], fun j k v e => ?_⟩
    cases j with
    | zero =>
      have e' : (u, y) = (k, v) := Option.some.inj e
      cases e'
      exact ⟨p, kv.1, rfl, tp, rfl, kV_is (P := X.prog) (w := X.w) ru⟩
    | succ j =>
      obtain ⟨b, kk, e1, e2, e3, e4⟩ := w j k v (by simpa using e)
      exact ⟨b, kk, by simpa using e1, e2, by simpa using e3, e4⟩
/-- dict(t), t a tuple of pairs that is known to have no dict of its own -/
theorem call_dict_tup (hc : X.calm = true) : CallR X (.type "dict") (fun xs H Q => ∃ (a : Addr) (o : Obj) (ps : List Addr) (kvs : List (Key × V)), xs = [.ref a] ∧ H a = some (.frz o (.tup (ps.map V.ref))) ∧ o.dict = none ∧ Paired (fun p kv => SqT X.K H p [kV kv.1, kv.2]) ps kvs ∧
    ∀ p, H p = none → Q (.ref p) (upd H p (.dK (mergeK [] kvs)))) := by
  intro pins s σ H xs us Q I r q
  obtain ⟨a, o, ps, kvs, ex, ha, hd, hp, q⟩ := q
  subst ex
  obtain ⟨u, eu, rx⟩ := vals1 r
  subst eu
  cases rx
  obtain ⟨go, z, its, rv, o2, go2, gc, n, gd⟩ : s.heap.get? a = some o ∧ ObjOk X.prog X.w H s.heap a (.tup (ps.map V.ref)) := I.hok a _ ha
  obtain rfl : o = o2 := Option.some.inj (go.symm.trans go2)
  have ei := refs_at rv
  subst ei
  obtain ⟨us, prs, rel, l1, l2, w⟩ := stand_pairs I hp
  rw [List.length_map] at z
  have big := I.big
  have sq : PlainSeq "tuple" s.heap a (ps.map Value.ref).toArray := ⟨o, n, go, gc, hd, gd⟩
  have it : PairItems s.heap (ps.map Value.ref).toArray (fun j => ps.getD j 0) us := by
    refine ⟨by simp [l1], fun j k v e => ?_⟩
    obtain ⟨b, kk, e1, e2, _, _⟩ := w j k v e
    refine ⟨by simp [e1], .inl ?_⟩
    have e3 : ps.getD j 0 = b := by simp [e1]
    show IsTup s.heap (ps.getD j 0) #[k, v]
    rw [e3]
    exact e2
  have hv : PairsHave (mixKind X.prog X.w) us.length (PairRel us) prs := ⟨by rw [l1, l2], fun j k v e => by
    obtain ⟨b, kk, _, _, e3, e4⟩ := w j k v e
    exact ⟨kk, e3, e4⟩⟩
  refine PySem.call_dict_pairs (PairArg.tuple a _ (fun j => ps.getD j 0) us) (I.ok.hd hc) ⟨sq, it⟩ hv (by omega) fun h2 tk d2 k => ?_
  have ms : (s.heap.objs.size == sysModules) = false := beq_eq_false_iff_ne.mpr (Nat.ne_of_gt big)
  have lz : (mergeK [] kvs).length ≤ sizeLine := by
    refine Nat.le_trans (length_mergeK kvs []) ?_
    rw [List.length_nil, Nat.zero_add, rel.length, l2]
    exact z
  exact ⟨.ref s.heap.objs.size, upd H s.heap.objs.size (.dK (mergeK [] kvs)), I.laid (t' := tk) (fun b o e => k b o (by simp) e) (Nat.le_refl _) (show ObjOk X.prog X.w _ _ _ (.dK (mergeK [] kvs)) from ⟨lz, ms, merged [] prs, KV.merge rel .nil, d2⟩), rfl, q _ (I.hok.fresh (Nat.le_refl _))⟩
/-- tuple(xs), xs a list: a new tuple, known to have no dict of its own -/
theorem call_tup_frz : CallR X (.type "tuple") (fun xs H Q => ∃ (p : Addr) (ys : List V), xs = [.ref p] ∧ SqL X.K H p ys ∧ ∀ (l : Addr) (o : Obj), H l = none → o.dict = none → Q (.ref l) (upd H l (.frz o (.tup ys)))) := by
  intro pins s σ H xs us Q I r h
  obtain ⟨p, ys, rfl, hq, q⟩ := h
  obtain ⟨u, rfl, rx⟩ := vals1 r
  cases rx
  obtain ⟨its, r', pl, hz⟩ := I.list hq
  have n := r'.length
  refine call_tuple_list pl.isList (fun h2 k2 => ?_) (by simp only [List.size_toArray] <;> omega)
  have J : Inv X pins σ H { s with heap := h2 } := I.kept (t' := s.toks) k2
  have at2 : (h2.push { cls := .type "tuple", data := .seq its.toArray }).get? h2.objs.size = some { cls := .type "tuple", data := .seq its.toArray } := Heap.get?_push_size _ rfl
  have ok : ObjOk X.prog X.w (upd H h2.objs.size (.frz { cls := .type "tuple", data := .seq its.toArray } (.tup ys))) (h2.push { cls := .type "tuple", data := .seq its.toArray }) h2.objs.size (.frz { cls := .type "tuple", data := .seq its.toArray } (.tup ys)) :=
    ⟨at2, hz, its, r', IsTup.new _ _⟩
  exact ⟨.ref h2.objs.size, _, J.laid (t' := s.toks) (fun b o e => Heap.get?_push_of_some _ e) (Nat.le_refl _) ok, rfl, q _ _ (J.hok.fresh (Nat.le_refl _)) rfl⟩
end
end Ks

namespace Ks
open PySem PySem.Spec PyProof.Rows L2
theorem back {P : Value → Shared → Prop} {z : V} {v : Value} {s' : Shared} (r : RelV z v) (h : P v s') : PySem.W.CmpBack P v s' := by
  cases z with
  | non => cases (show v = Value.none from r); exact h
  | bl b => cases (show v = Value.bool b from r); exact h
  | int i => obtain ⟨t, e⟩ := (show ∃ t, v = Value.int i t from r); cases e; exact h
  | str x => obtain ⟨t, e⟩ := (show ∃ t, v = Value.str x t from r); cases e; exact h
  | byt b => obtain ⟨t, e⟩ := (show ∃ t, v = Value.bytes b t from r); cases e; exact h
  | flt b => obtain ⟨t, e⟩ := (show ∃ t, v = Value.float b t from r); cases e; exact h
  | ref a => cases (show v = Value.ref a from r); exact h
  | ty n => cases (show v = Value.type n from r); exact h
section
variable {X : Cx} {CX : CXT} {C f : Addr} {fd : FuncData} {ps : List Str} {n : Nat} {sp : Sp} {E : XK} {pos : Pos}
/-- x == y by the class's own def, y of a known type -/
def rOwnI (K : PySem.W.Frag) (C : Addr) (sp : Sp) (E : XK) : R2 := fun x y H Q => ∃ a dx fs tb, x = .ref a ∧ H a = some (.ins C dx fs) ∧ TyX K H y tb ∧ PySem.W.notFirst K C tb = true ∧ sp [x, y] H Q E
theorem op_ownI (F : FnOk X.prog X.w X.K X.mg X.base CX n f fd ps sp) (hs : PySem.W.findIn X.K (.ref C) "__eq__" = some (some (.ref f))) (hf : PySem.W.isFn X.K (.ref f) = true) (hb : Binds X.K fd ps []) (hr : Room n X.A) (hx : Passes CX X E) : OpR X (compareOp .Eq) (rOwnI X.K C sp E) := by
  intro pins s σ H x y v u Q I rx ry h
  obtain ⟨a, dx, fs, tb, rfl, ha, ty, hn, q⟩ := h
  cases (show v = Value.ref a from rx)
  obtain ⟨mA, J, _⟩ := ins_get I.hok ha
  obtain ⟨od, J, _⟩ := J.look
  obtain ⟨m, hF⟩ := I.fr
  obtain ⟨P, Z, p, _⟩ := kit_of I ry ty
  show wpAny (model X.prog X.w) X.A (richCompare .Eq (.ref a) u) (EP X pins σ Q) X.xe s
  refine PySem.W.cmp_K (op := .Eq) (tb := tb) hr.units0 hF I.ok.mod.kin J (Z.ty _ _ I.kIn p) hn hs hf ?_
  refine wpAny_mono (run_fn (us := [.ref a, u]) (vs := [.ref a, y]) F hr hb .nil hx I (.cons rfl (.cons ry .nil)) q) (fun w s' z => ?_) fun _ _ x => x
  obtain ⟨z', H', I', rz, qz⟩ := z
  exact back rz ⟨z', H', I', rz, qz⟩
/-- (a, b, ..) = a tuple or a list of that length -/
def gSeq (K : PySem.W.Frag) (n : Nat) (t : TGs) : TG := fun v σ H Q => gTup K n t v σ H Q ∨ gUnl K n t v σ H Q
theorem pg_seq {es : List Expr} {k : Nat} {t : TGs} {n : Nat} (hc : X.calm = true) (h : PGs X es t)
    (hn : (assignEach es X.env).length = n := by rfl) (hst : (assignEach es X.env).findIdx? (·.1) = none := by rfl) : PG X (.Tuple es k pos) (gSeq X.K n t) :=
  ⟨fun pins s σ H v u Q I r hw => hw.elim ((pg_tup hc h hn hst).run pins s σ H v u Q I r) ((pg_unl hc h hn hst).run pins s σ H v u Q I r)⟩
end
end Ks
namespace Kl
open PySem L2 Kd
/-! data as the library compares it -/
mutual
def py : D → PyData
  | .non => .none
  | .bl b => .bool b
  | .int i => .int i
  | .str x => .str x
  | .tup ds => .tuple (pys ds)
def pys : List D → List PyData
  | [] => []
  | d :: ds => py d :: pys ds
end
mutual
theorem Rep.dp {K : PySem.W.Frag} {H : Hp} : ∀ {d : D} {v : V}, Rep H d v → Dp K H v (py d)
  | .non, _, h => by cases (show _ = V.non from h); exact .non
  | .bl b, _, h => by cases (show _ = V.bl b from h); exact .bl b
  | .int i, _, h => by cases (show _ = V.int i from h); exact .int i
  | .str x, _, h => by cases (show _ = V.str x from h); exact .str x
  | .tup ds, _, ⟨a, vs, e, h, _, r⟩ => by subst e; exact .tup (.inl h) (Reps.dp r)
theorem Reps.dp {K : PySem.W.Frag} {H : Hp} : ∀ {ds : List D} {vs : List V}, Reps H ds vs → DpAll K H vs (pys ds)
  | [], _, h => by cases (show _ = [] from h); exact .nil
  | d :: ds, _, ⟨v, r, e, h, q⟩ => by subst e; exact .cons (Rep.dp h) (Reps.dp q)
end
theorem lay_cont {x : Str} (h : Cont x) : PyData.canLay0 (.str x) = true := by
  show (x.cps.all (· < 0x110000)) = true
  rw [← Array.all_toList, List.all_eq_true]
  intro c hc
  refine decide_eq_true ?_
  rcases h.all c hc with e | e
  · omega
  · have := okx_of e
    omega
structure Good (fs : Fs) : Prop where
  ok : ∀ q ∈ fs, PairOk q
  asc : Asc (fs.map (·.1))
  few : fs.length ≤ 60
theorem lay_files : ∀ {fs : Fs}, (∀ q ∈ fs, PairOk q) → PyData.canLayAll0 (pys (fs.map pairD)) = true
  | [], _ => rfl
  | q :: r, h => by
    have h1 := h q (List.mem_cons_self ..)
    have ih := lay_files (fs := r) fun z hz => h z (List.mem_cons_of_mem _ hz)
    have e1 := h1.lay
    have e2 := lay_cont h1.cont
    simp only [List.map_cons, pys, py, pairD, PyData.canLayAll0, PyData.canLay0, Bool.and_true] at ih e1 e2 ⊢
    rw [e1, e2, ih]
    rfl
theorem depth_files : ∀ fs : Fs, PyData.depthAll (pys (fs.map pairD)) ≤ 1
  | [] => by simp [pys, PyData.depthAll]
  | q :: r => by
    have ih := depth_files r
    have e : PyData.depthAll (pys ((q :: r).map pairD)) = max (max 0 (max 0 0) + 1) (PyData.depthAll (pys (r.map pairD))) := rfl
    omega
theorem shaped_files {fs : Fs} (h : ∀ q ∈ fs, PairOk q) : SeqAt.shaped (py (filesD fs)) = true := by
  have e1 : (py (filesD fs)).canLay0 = true := lay_files h
  have e2 : (py (filesD fs)).depth ≤ 64 := by
    have := depth_files fs
    show PyData.depthAll (pys (fs.map pairD)) + 1 ≤ 64
    omega
  unfold SeqAt.shaped
  rw [e1, decide_eq_true e2]
  rfl
theorem eqv_files : ∀ fs gs : Fs, PyData.eqvAll (pys (fs.map pairD)) (pys (gs.map pairD)) = decide (fs = gs)
  | [], [] => rfl
  | [], _ :: _ => rfl
  | _ :: _, [] => rfl
  | (a, b) :: r, (c, d) :: s => by
    have ih := eqv_files r s
    simp only [List.map_cons, pys, py, pairD, PyData.eqvAll, PyData.eqv, Bool.and_true] at ih ⊢
    rw [ih]
    rw [Bool.eq_iff_iff]
    simp only [Bool.and_eq_true, beq_iff_eq, decide_eq_true_eq, List.cons.injEq, Prod.mk.injEq]
theorem eqv_filesD (fs gs : Fs) : PyData.eqv (py (filesD fs)) (py (filesD gs)) = decide (fs = gs) := eqv_files fs gs
/-! the trees -/
structure TreeF (K : PySem.W.Frag) (mg : Str → Option Value) (C : Addr) : Prop where
  cl : Cls K C
  ca : PySem.W.findIn K (.ref C) "__class__" = some (some (.builtin "object.__class__"))
  cg : PySem.W.specialIn K (.builtin "object.__class__") "__get__" = some (some (.builtin "getset_descriptor.__get__"))
  ct : PySem.W.takesIn K (.builtin "object.__class__") = some true
  cm : PySem.W.mroIn K C (.type "object") = some true
  mC : mg "Tree" = some (.ref C)
  nf : NoAttr K C "_files"
  kC : PySem.W.kitOne K (.ref C) (.ref C) = some true
  kT : PySem.W.kitOne K (.type "tuple") (.ref C) = some false
  kN : PySem.W.kitOne K (.type "NoneType") (.ref C) = some false
  fT : PySem.W.notFirst K C (.type "tuple") = true
  fN : PySem.W.notFirst K C (.type "NoneType") = true
theorem TreeF.fC {K : PySem.W.Frag} {mg : Str → Option Value} {C : Addr} (F : TreeF K mg C) : PySem.W.notFirst K C (.ref C) = true := by
  unfold PySem.W.notFirst
  rw [beq_self_eq_true, Bool.true_or]
def TreeAt (C : Addr) (H : Hp) (a : Addr) (fs : Fs) : Prop := ∃ (dx t : Addr) (o : Obj) (vs : List V), H a = some (.ins C dx [("_files", .ref t)]) ∧ H t = some (.frz o (.tup vs)) ∧ o.dict = none ∧ vs.length ≤ sizeLine ∧ Reps H (fs.map pairD) vs
theorem TreeAt.same {C : Addr} {H H' : Hp} {a : Addr} {fs : Fs} (s : Same H H') (h : TreeAt C H a fs) : TreeAt C H' a fs := by
  obtain ⟨dx, t, o, vs, h1, h2, h3, h4, h5⟩ := h
  exact ⟨dx, t, o, vs, s _ _ h1, s _ _ h2, h3, h4, h5.keep (Same.tk s)⟩
theorem TreeAt.ty {K : PySem.W.Frag} {mg : Str → Option Value} {C : Addr} {H : Hp} {a : Addr} {fs : Fs} (F : TreeF K mg C) (h : TreeAt C H a fs) : TyX K H (.ref a) (.ref C) := by
  obtain ⟨dx, t, o, vs, h1, _⟩ := h
  exact .base (.ins h1 F.cl F.ca F.cg F.ct F.cm)
def spInit (_ : PySem.W.Frag) (C : Addr) : Sp := fun vs H Q _ => ∃ (x dx : Addr) (v : V) (fs : Fs), vs = [.ref x, v] ∧ H x = some (.ins C dx []) ∧ RepL H (filesD fs) v ∧ Good fs ∧
  ∀ H' : Hp, (∀ b o, b ≠ x → H b = some o → H' b = some o) → TreeAt C H' x fs → Q .non H'
/-- a tree made -/
theorem te_make {C : Addr} {sp : Sp} {dvs : List V} {E : XK} {t : TA} {σ : L2.St} {H : Hp} {Q : VK} (h : t σ H fun vs H1 => ∀ x dx, H1 x = none → H1 dx = none → dx ≠ x → sp (.ref x :: (vs ++ dvs)) (upd (upd H1 dx (.own x)) x (.ins C dx [])) (fun v H2 => v = .non ∧ Q (.ref x) H2) E) : tMake C sp dvs E t σ H Q := h
theorem mk_leaf {K : PySem.W.Frag} {C : Addr} {H1 : Hp} {R : Addr → Hp → Prop} {v : V} {fs : Fs} (hr : RepL H1 (filesD fs) v) (hg : Good fs) (k : ∀ (a : Addr) (H' : Hp), Same H1 H' → TreeAt C H' a fs → R a H') :
    ∀ x dx, H1 x = none → H1 dx = none → dx ≠ x → spInit K C [.ref x, v] (upd (upd H1 dx (.own x)) x (.ins C dx [])) (fun v H2 => v = .non ∧ R x H2) C8.E0 := by
  intro x dx hx hd ne
  have s1 : Same H1 (upd (upd H1 dx (.own x)) x (.ins C dx [])) := fun b o e => by
    rw [upd_ne (ne_of_none e hx), upd_ne (ne_of_none e hd)]
    exact e
  exact ⟨x, dx, v, fs, rfl, upd_same, RepX.same s1 hr, hg, fun H' s tr => ⟨rfl, k x H' (fun b o e => s b o (ne_of_none e hx) (s1 b o e)) tr⟩⟩
section
variable {P : Program} {w : World} {K : PySem.W.Frag} {mg : Str → Option Value} {base : Heap}
abbrev s_Tree_init : Stmt := inClass (topS 18) 0
theorem sc_Tree_init : FnScope ["self", "files", "path", "content"] ["self", "files"] (defScope s_Tree_init) := ⟨rfl, rfl, rfl, by decide +kernel, rfl, by decide +kernel, by decide +kernel⟩
theorem ok_init {C f : Addr} {fd : FuncData} {dvs : List V} (F : FunD K "__init__" "Tree.__init__" (defArgs s_Tree_init) (defBody s_Tree_init) (defScope s_Tree_init) dvs [] f fd) (T : Glo mg) (TF : TreeF K mg C) (c_is_files : C8.Cal P w K mg base 4 "is_files" (spIsFiles K) []) :
    FnOk P w K mg base CX0 5 f fd ["self", "files"] (spInit K C) := by
  refine F.ok sc_Tree_init (fun vs H Q E h => ?_) (fun cdv A outer s H vs Q E hr h => ?_)
  · obtain ⟨x, dx, v, fs, rfl, _⟩ := h
    rfl
  · obtain ⟨x, dx, v, fs, rfl, hx, hv, hg, k⟩ := h
    have hfew := hg.few
    refine ⟨_, (pss_cons (ps_if (pt_not (pt_val (C8.pe_c c_is_files hr (by omega) (by rfl) (pa_cons (pv 1) pa_nil))))
      (pss_one ps_never)
      pss_nil)
      (pss_one (ps_fld (pv 0) (pe_callTy Ks.call_tup_frz (by rfl) T.tuple PyProof.Rows.boot_tuple (pa_cons (pe_lc (own := [("path", 2), ("content", 3)]) (g := (Ks.gSeq K 2 (gCons (gName 2) (gCons (gName 3) gNil)))) (tt := tYes) rfl sc_Tree_init.nd (pi_seq (pv 1)) (blkOk_by (N := ["self", "files", "path", "content"]) (sc := defScope s_Tree_init) (by decide +kernel)) (fun _ _ _ _ _ => (Ks.pg_seq rfl (pgs_cons (pg_name (i := 2) sc_Tree_init.nd rfl (.inl rfl)) (pgs_cons (pg_name (i := 3) sc_Tree_init.nd rfl (.inl rfl)) pgs_nil)))) (fun _ _ _ _ _ => pts_nil) (fun _ _ _ _ _ => (pe_tup (pa_cons (pv 2) (pa_cons (pv 3) pa_nil))))) pa_nil)) rfl))), ?_⟩
    refine st_seq (st_if (tt_not (tt_b (te_call (ta_cons ⟨_, rfl, ta_nil ⟨v, fs, rfl, hv, hg.ok, hg.asc, hfew, fun H1 s1 => ⟨_, rfl, ?_⟩⟩⟩)))))
    refine iteF (st_next ?_)
    dsimp only
    obtain ⟨a, vs, rfl, _, ha, _, hvs⟩ := RepX.same s1 hv
    have vl := hvs.len
    rw [List.length_map] at vl
    refine te_cb (ta_cons (te_lc ?_))
    refine seq_walk ha (fun Q q => ⟨_, rfl, q⟩) fun J G w hG D hD => ?_
    refine lc_it w (fun i H2 => Same H1 H2 ∧ ∃ ts : List V, H2 D = some (.lst ts) ∧ ts.length = i ∧ Reps H2 ((fs.take i).map pairD) ts) ⟨Same.new hD, [], upd_same, rfl, rfl⟩ (fun i H2 _ q => hG H2 q.1) ?_ ?_
    · rintro i y Hx H2 hi ⟨s2, ts, e2, l2, r2⟩ ⟨rfl, hy⟩
      have hil : i < fs.length := by omega
      have hqi : fs[i]? = some fs[i] := List.getElem?_eq_getElem hil
      obtain ⟨v, hv, hrep⟩ := hvs.get (i := i) (d := pairD fs[i]) (by rw [List.getElem?_map, hqi]; rfl)
      obtain rfl : v = y := Option.some.inj (hv.symm.trans hy)
      obtain ⟨c, rfl, hc⟩ := pairL_of (hrep.same s2)
      have fin : ∀ σ : L2.St, σ = [some (V.ref x), some (V.ref a), some (V.str fs[i].1), some (V.str fs[i].2)] → wipe σ [2, 3] = [some (V.ref x), some (V.ref a), none, none] ∧ tYes σ H2 fun b H3 =>
          if b = true then (tTup (tCons (tVar 2) (tCons (tVar 3) tNil))) σ H3 fun y H4 => ∃ acc, H4 D = some (.lst acc) ∧ acc.length < sizeLine ∧ (Same H1 (upd H4 D (.lst (acc ++ [y]))) ∧ ∃ ts : List V, upd H4 D (.lst (acc ++ [y])) D = some (.lst ts) ∧ ts.length = i + 1 ∧ Reps (upd H4 D (.lst (acc ++ [y]))) ((fs.take (i + 1)).map pairD) ts) else (Same H1 H3 ∧ ∃ ts : List V, H3 D = some (.lst ts) ∧ ts.length = i + 1 ∧ Reps H3 ((fs.take (i + 1)).map pairD) ts) := by
        rintro σ rfl
        refine ⟨rfl, _, rfl, _, rfl, (by show 2 ≤ sizeLine; decide), fun p hp => ?_⟩
        have hDp : D ≠ p := fun z => by
          rw [← z, e2] at hp
          cases hp
        refine ⟨ts, by rw [upd_ne hDp]; exact e2, small_lt (by omega), Same.mut (fun b o z => by rw [upd_ne (ne_of_none (s2 b o z) hp)]; exact s2 b o z) hD, ts ++ [.ref p], upd_same, by rw [List.length_append]; simp only [List.length_cons, List.length_nil]; omega, ?_⟩
        rw [map_take_succ pairD hqi]
        have tk : Tk (upd H2 p (.tup [.str fs[i].1, .str fs[i].2])) (upd (upd H2 p (.tup [.str fs[i].1, .str fs[i].2])) D (.lst (ts ++ [.ref p]))) := Tk.lst (by rw [upd_ne hDp]; exact e2)
        exact Reps.snoc (Reps.keep tk (Reps.keep (Tk.new hp) r2)) (Rep.keep tk (pair_rep upd_same))
      rcases hc with hc | hc
      · exact .inl ⟨c, _, rfl, .inl hc, rfl, _, _, rfl, _, _, rfl, rfl, fin _ rfl⟩
      · exact .inr ⟨c, _, rfl, SqL.of hc, rfl, _, _, rfl, _, _, rfl, rfl, fin _ rfl⟩
    · rintro H2 ⟨s2, ts, e2, l2, r2⟩
      rw [vl, List.take_length] at r2
      refine ⟨D, ts, rfl, SqL.of e2, fun l o hl ho => ?_⟩
      have s12 : Same H H2 := fun b o e => s2 b o (s1 b o e)
      have hx2 := s12 _ _ hx
      have lx : l ≠ x := fun z => by
        rw [z, hx2] at hl
        cases hl
      refine ⟨_, rfl, x, C, dx, [], rfl, by rw [upd_ne (Ne.symm lx)]; exact hx2, TF.cl, TF.nf, by decide, ?_⟩
      refine k _ (fun b u n e => ?_) ⟨dx, l, o, ts, upd_same, by rw [upd_ne lx]; exact upd_same, ho, by rw [l2]; exact small_of (by omega), ?_⟩
      · rw [upd_ne n, upd_ne (ne_of_none (s12 b u e) hl)]
        exact s12 b u e
      · have t1 : Tk H2 (upd H2 l (.frz o (.tup ts))) := Tk.new hl
        have t2 : Tk (upd H2 l (.frz o (.tup ts))) (upd (upd H2 l (.frz o (.tup ts))) x (.ins C dx [("_files", .ref l)])) := Tk.of (u := .ins C dx []) (by rw [upd_ne (Ne.symm lx)]; exact hx2) (fun _ z => nomatch z) (fun _ _ z => nomatch z)
        exact Reps.keep t2 (Reps.keep t1 r2)
end
end Kl

namespace Kl
open PySem L2 Kd
structure TreeP (P : Program) (w : World) (K : PySem.W.Frag) (mg : Str → Option Value) (base : Heap) (C : Addr) : Prop where
  tf : TreeF K mg C
  ex : ∃ (p g : Addr) (fd : FuncData), PropOf K C "files" p g ∧ FnOk P w K mg base CX0 1 g fd ["self"] (getSp C "_files") ∧ Binds K fd ["self"] []
theorem pe_files {X : Cx} {C : Addr} {j : Nat} {e : Expr} {ta : TE} {pos : Pos} (c : TreeP X.prog X.w X.K X.mg X.base C) (hr : Room j X.A) (hj : 2 ≤ j) (he : PE X e ta)
    (hab : attributeBase e "files" X.env (eval e X.env) = eval e X.env := by rfl) : PE X (.Attribute e "files" pos) (tProp C (getSp C "_files") [] C8.E0 ta) := by
  obtain ⟨p, g, fd, hp, F, b⟩ := c.ex
  exact pe_prop he c.tf.cl hp F (hr.mono hj) b .nil C8.pass0 hab
theorem te_prop {C : Addr} {sp : Sp} {dvs : List V} {E : XK} {ta : TE} {σ : L2.St} {H : Hp} {Q : VK} (h : ta σ H fun x H1 => ∃ a dx fs, x = .ref a ∧ H1 a = some (.ins C dx fs) ∧ sp (.ref a :: dvs) H1 Q E) : tProp C sp dvs E ta σ H Q := h
theorem files_leaf {C : Addr} {H : Hp} {Q : VK} {a : Addr} {fs : Fs} (h : TreeAt C H a fs) (k : ∀ (t : Addr) (o : Obj) (vs : List V), H t = some (.frz o (.tup vs)) → o.dict = none → vs.length ≤ sizeLine → Reps H (fs.map pairD) vs → Q (.ref t) H) :
    ∃ a' dx fs, V.ref a = .ref a' ∧ H a' = some (.ins C dx fs) ∧ getSp C "_files" [.ref a'] H Q C8.E0 := by
  obtain ⟨dx, t, o, vs, h1, h2, h3, h4, h5⟩ := h
  exact ⟨a, dx, _, rfl, h1, a, dx, _, .ref t, rfl, h1, rfl, k t o vs h2 h3 h4 h5⟩
theorem te_c {v : V} {σ : L2.St} {H : Hp} {Q : VK} (h : Q v H) : tC v σ H Q := h
theorem te_v {i : Nat} {x : V} {σ : L2.St} {H : Hp} {Q : VK} (e : σ[i]? = some (some x)) (h : Q x H) : tVar i σ H Q := ⟨x, e, h⟩
theorem st_expr {te : TE} {D : Ends} {σ : L2.St} {H : Hp} (h : te σ H fun _ H1 => D.nx σ H1) : tDrop te D σ H := h
/-- walked while what is newer changes -/
theorem seq_walk0 {K : PySem.W.Frag} {tl : TE} {σ : L2.St} {H H0 H1 : Hp} {R : It → Hp → Prop} {a : Addr} {vs : List V} (h : SeqAt H0 a vs) (s1 : Same H0 H1) (ht : ∀ Q : VK, Q (.ref a) H1 → tl σ H Q) (k : ∀ (J : It) (G : Hp → Prop), Walk J vs.length G (YAt vs) → (∀ H' : Hp, Same H0 H' → G H') → R J H1) : iSeq K tl σ H R := by
  rcases h with h | h
  · exact .inl (ht _ ⟨a, rfl, ⟨_, .inl (Rd.same s1 h)⟩, k _ (fun H => SqT K H a vs) walk_tup fun H' s => .inl (Rd.same s h)⟩)
  · exact .inr (ht _ ⟨a, rfl, ⟨_, SqL.of (s1 _ _ h)⟩, k _ (fun H => SqL K H a vs) walk_list fun H' s => SqL.of (s _ _ h)⟩)
/-- .files of a local -/
theorem te_filesV {C : Addr} {i : Nat} {a : Addr} {fs : Fs} {σ : L2.St} {H : Hp} {Q : VK} (hi : σ[i]? = some (some (.ref a))) (h : TreeAt C H a fs) (k : ∀ (t : Addr) (o : Obj) (vs : List V), H t = some (.frz o (.tup vs)) → o.dict = none → vs.length ≤ sizeLine → Reps H (fs.map pairD) vs → Q (.ref t) H) :
    tProp C (getSp C "_files") [] C8.E0 (tVar i) σ H Q := te_prop (te_v hi (files_leaf h k))
abbrev rDictTup (K : PySem.W.Frag) : List V → Hp → VK → Prop := fun xs H Q => ∃ (a : Addr) (o : Obj) (ps : List Addr) (kvs : List (Key × V)), xs = [.ref a] ∧ H a = some (.frz o (.tup (ps.map V.ref))) ∧ o.dict = none ∧ Paired (fun p kv => SqT K H p [kV kv.1, kv.2]) ps kvs ∧
    ∀ p, H p = none → Q (.ref p) (upd H p (.dK (mergeK [] kvs)))
theorem pairs_of {K : PySem.W.Frag} {H : Hp} : ∀ {fs : Fs} {vs : List V}, Reps H (fs.map pairD) vs → ∃ ps : List Addr, vs = ps.map V.ref ∧ Paired (fun p kv => SqT K H p [kV kv.1, kv.2]) ps (kvF fs)
  | [], _, h => by
    cases (show _ = [] from h)
    exact ⟨[], rfl, .nil⟩
  | q :: r, _, ⟨v, rest, e, hv, hr⟩ => by
    subst e
    obtain ⟨ps, rfl, pr⟩ := pairs_of (fs := r) hr
    obtain ⟨t, rfl, ht⟩ := pair_of hv
    exact ⟨t :: ps, rfl, .cons (.inl ht) pr⟩
/-- dict(x.files) -/
theorem te_dict {K : PySem.W.Frag} {C : Addr} {i : Nat} {a : Addr} {fs : Fs} {σ : L2.St} {H : Hp} {Q : VK} (hi : σ[i]? = some (some (.ref a))) (h : TreeAt C H a fs) (nd : (fs.map (·.1)).Nodup) (k : ∀ p : Addr, H p = none → Q (.ref p) (upd H p (.dK (kvF fs)))) :
    tCB (rDictTup K) (tCons (tProp C (getSp C "_files") [] C8.E0 (tVar i)) tNil) σ H Q := by
  refine te_cb (ta_cons (te_filesV hi h fun t o vs h1 h2 h3 h4 => ta_nil ?_))
  obtain ⟨ps, rfl, pr⟩ := pairs_of (K := K) h4
  refine ⟨t, o, ps, _, rfl, h1, h2, pr, fun p hp => ?_⟩
  have e : mergeK [] (kvF fs) = kvF fs := merge_all V.str nd
  rw [e]
  exact k p hp
def spTEq (K : PySem.W.Frag) (C : Addr) : Sp := fun vs H Q _ => ∃ (a : Addr) (y : V) (fs : Fs), vs = [.ref a, y] ∧ TreeAt C H a fs ∧ (∀ q ∈ fs, PairOk q) ∧
  ((∃ (b : Addr) (gs : Fs), y = .ref b ∧ TreeAt C H b gs ∧ (∀ q ∈ gs, PairOk q) ∧ Q (.bl (decide (fs = gs))) H) ∨ ∃ tb : Value, TyX K H y tb ∧ PySem.W.kitOne K tb (.ref C) = some false ∧ Q (.bl false) H)
def spCheck (_ : PySem.W.Frag) (C : Addr) : Sp := fun vs H Q _ => ∃ (a : Addr) (n : Int) (fs : Fs), vs = [.ref a, .int n] ∧ TreeAt C H a fs ∧ Q .non H
section
variable {P : Program} {w : World} {K : PySem.W.Frag} {mg : Str → Option Value} {base : Heap} {C : Addr}
abbrev s_Tree_files : Stmt := inClass (topS 18) 1
theorem sc_Tree_files : FnScope ["self"] ["self"] (defScope s_Tree_files) := ⟨rfl, rfl, rfl, by decide +kernel, rfl, by decide +kernel, by decide +kernel⟩
theorem ok_files {f : Addr} {fd : FuncData} (F : Fun K "files" "Tree.files" s_Tree_files f fd) (TF : TreeF K mg C) : FnOk P w K mg base CX0 1 f fd ["self"] (getSp C "_files") := by
  refine F.ok sc_Tree_files (fun vs H Q E h => ?_) (fun cdv A outer s H vs Q E hr h => ?_)
  · obtain ⟨a, dx, fs, v, rfl, _⟩ := h
    rfl
  · obtain ⟨a, dx, fs, v, rfl, ha, hl, k⟩ := h
    refine ⟨_, (pss_one (ps_ret (pe_fld (pv 0) rfl))), ?_⟩
    exact ⟨_, rfl, a, C, dx, fs, v, rfl, ha, TF.cl, TF.nf, hl, k⟩
abbrev s_Tree_eq : Stmt := inClass (topS 18) 2
theorem sc_Tree_eq : FnScope ["self", "other"] ["self", "other"] (defScope s_Tree_eq) := ⟨rfl, rfl, rfl, by decide +kernel, rfl, by decide +kernel, by decide +kernel⟩
theorem ok_teq {f : Addr} {fd : FuncData} (F : Fun K "__eq__" "Tree.__eq__" s_Tree_eq f fd) (T : Glo mg) (TF : TreeF K mg C) : FnOk P w K mg base CX0 1 f fd ["self", "other"] (spTEq K C) := by
  refine F.ok sc_Tree_eq (fun vs H Q E h => ?_) (fun cdv A outer s H vs Q E hr h => ?_)
  · obtain ⟨a, y, fs, rfl, _⟩ := h
    rfl
  · obtain ⟨a, y, fs, rfl, ha, hg, k⟩ := h
    refine ⟨_, (pss_one (ps_ret (pe_and (pe_callB call_isi (by rfl) T.isi PyProof.Rows.boot_isinstance (pa_cons (pv 1) (pa_cons (pe_glob (v := .ref C) (by rfl) TF.mC rfl) pa_nil))) (pe_one (pe_cmpR (op_eqD hr.units) (pe_fld (pv 0) rfl) (pe_fld (pv 1) rfl) (nomark _)))))), ?_⟩
    rcases k with ⟨b, gs, rfl, hb, hk, q⟩ | ⟨tb, ty, kt, q⟩
    · refine ⟨_, rfl, _, .ref C, .ref C, .ref C, true, rfl, .own C, hb.ty TF, TF.kC, _, rfl, iteT ?_⟩
      obtain ⟨dx, t, o, vs, h1, h2, h3, h4, h5⟩ := ha
      obtain ⟨dy, u, o2, ws, g1, g2, g3, g4, g5⟩ := hb
      have r1 : Rep H (filesD fs) (.ref t) := ⟨t, vs, rfl, .inr ⟨o, h2⟩, h4, h5⟩
      have r2 : Rep H (filesD gs) (.ref u) := ⟨u, ws, rfl, .inr ⟨o2, g2⟩, g4, g5⟩
      refine ⟨_, rfl, a, C, dx, _, .ref t, rfl, h1, TF.cl, TF.nf, rfl, _, rfl, b, C, dy, _, .ref u, rfl, g1, TF.cl, TF.nf, rfl, _, _, Rep.dp (d := filesD fs) r1, Rep.dp (d := filesD gs) r2, shaped_files hg, shaped_files hk, ?_⟩
      rw [eqv_filesD]
      exact q
    · exact ⟨_, rfl, y, .ref C, tb, .ref C, false, rfl, .own C, ty, kt, _, rfl, iteF q⟩
abbrev s_check_tree : Stmt := topS 20
theorem sc_check_tree : FnScope ["value", "at"] ["value", "at"] (defScope s_check_tree) := ⟨rfl, rfl, rfl, by decide +kernel, rfl, by decide +kernel, by decide +kernel⟩
theorem ok_check {f : Addr} {fd : FuncData} (F : Fun K "check_tree" "check_tree" s_check_tree f fd) (T : Glo mg) (TF : TreeF K mg C) : FnOk P w K mg base CX0 1 f fd ["value", "at"] (spCheck K C) := by
  refine F.ok sc_check_tree (fun vs H Q E h => ?_) (fun cdv A outer s H vs Q E hr h => ?_)
  · obtain ⟨a, n, fs, rfl, _⟩ := h
    rfl
  · obtain ⟨a, n, fs, rfl, ha, k⟩ := h
    refine ⟨_, (pss_one (ps_if (pt_not (pt_val (pe_callB call_isi (by rfl) T.isi PyProof.Rows.boot_isinstance (pa_cons (pv 0) (pa_cons (pe_glob (v := .ref C) (by rfl) TF.mC rfl) pa_nil)))))
      (pss_one ps_never)
      pss_nil)), ?_⟩
    exact ⟨_, rfl, _, .ref C, .ref C, .ref C, true, rfl, .own C, ha.ty TF, TF.kC, _, rfl, iteF k⟩
end
theorem FOk.good {fs : Fs} (h : FOk fs) (a : Asc (fs.map (·.1))) : Good fs := ⟨fun q hq => by
    have hp := h.path q hq
    have hc := h.ct q hq
    have e1 := List.all_eq_true.mp allPaths_ok _ hp
    have e2 : ∀ p ∈ allPaths, p.length ≤ 1000 ∧ PyData.canLay0 (.str p) = true := by decide +kernel
    exact ⟨e1, (e2 _ hp).1, hc.cont, (e2 _ hp).2⟩, a, by have := h.few; omega⟩
theorem EOk.ch {es : Es} (h : EOk es) : ∀ q ∈ es, ChOk q := fun q hq => by
  have hp := h.path q hq
  have e1 := List.all_eq_true.mp allPaths_ok _ hp
  have e2 : ∀ p ∈ allPaths, p.length ≤ 1000 := by decide +kernel
  exact ⟨e1, e2 _ hp, fun c hc => (h.ct q hq c hc).cont⟩
end Kl

namespace Kl
open PySem L2 Kd
/-- an edit done -/
def spPEdited (_ : PySem.W.Frag) (C : Addr) : Sp := fun vs H Q _ => ∃ (a : Addr) (v : V) (fs : Fs) (es : Es), vs = [.ref a, v] ∧ TreeAt C H a fs ∧ FOk fs ∧ RepL H (editD es) v ∧ EOk es ∧ Asc (es.map (·.1)) ∧
  ∀ (b : Addr) (gs : Fs) (H' : Hp), Same H H' → TreeAt C H' b gs → FOk gs → Asc (gs.map (·.1)) → (∀ p, valF gs p = valF (applyE fs es) p) → Q (.ref b) H'
section
variable {P : Program} {w : World} {K : PySem.W.Frag} {mg : Str → Option Value} {base : Heap} {C : Addr}
abbrev s_tree_made : Stmt := topS 24
theorem sc_tree_made : FnScope ["tree", "edit", "contents", "change", "path"] ["tree", "edit"] (defScope s_tree_made) := ⟨rfl, rfl, rfl, by decide +kernel, rfl, by decide +kernel, by decide +kernel⟩
theorem ok_pmade {f : Addr} {fd : FuncData} (F : Fun K "tree_made" "tree_made" s_tree_made f fd) (T : Glo mg) (tp : TreeP P w K mg base C) {t60 : Tok} (m_MOST_FILES : mg "MOST_FILES" = some (.int 60 t60)) (c_is_edit : C8.Cal P w K mg base 5 "is_edit" (spIsEdit K) []) (mk_Tree : C8.Mak P w K mg base 5 "Tree" C (spInit K C) []) :
    FnOk P w K mg base CX0 7 f fd ["tree", "edit"] (spPEdited K C) := by
  refine F.ok sc_tree_made (fun vs H Q E h => ?_) (fun cdv A outer s H vs Q E hr h => ?_)
  · obtain ⟨a, v, fs, es, rfl, _⟩ := h
    rfl
  · obtain ⟨a, v, fs, es, rfl, ha, fok, hv, eok, easc, kk⟩ := h
    have hu := hu_of hr
    refine ⟨_, (pss_cons (ps_if (pt_not (pt_val (C8.pe_c c_is_edit hr (by omega) (by rfl) (pa_cons (pv 1) pa_nil))))
      (pss_one ps_never)
      pss_nil)
      (pss_cons (ps_set (i := 2) sc_tree_made.nd rfl (.inr rfl) (pe_callTy (r := rDictTup K) (Ks.call_dict_tup rfl) (by rfl) T.dict (by decide +kernel) (pa_cons (pe_files tp hr (by omega) (pv 0)) pa_nil)))
      (pss_cons (ps_for PassesOwn.never rfl (pi_seq (pv 1)) (pg_name (i := 3) sc_tree_made.nd rfl (.inl rfl))
      (pss_one (ps_if (pt_cmpR op_eq (pe_ix (r := rIx K) ix_seq (pv 3) pe_int (fun _ _ => rfl)) pe_str (nomark _))
        (pss_one (ps_dput hu (pv 2) (pe_ix (r := rIx K) ix_seq (pv 3) pe_int (fun _ _ => rfl)) (pe_ix (r := rIx K) ix_seq (pv 3) pe_int (fun _ _ => rfl)) rfl))
        (pss_one (ps_expr (pe_dpop2 (pv 2) (pe_ix (r := rIx K) ix_seq (pv 3) pe_int (fun _ _ => rfl)) pe_non ⟨rfl, rfl, rfl, rfl⟩))))))
      (pss_cons (ps_if (pt_cmpR op_gt (pe_callB call_lenD (by rfl) T.len PySem.boot_len (pa_cons (pv 2) pa_nil)) (pe_glob (v := .int 60) (by rfl) m_MOST_FILES ⟨_, rfl⟩) (nomark _))
      (pss_one ps_never)
      pss_nil)
      (pss_one (ps_ret (C8.pe_mk mk_Tree hr (by omega) (by rfl) (pa_cons (pe_lc (own := [("path", 4)]) (g := gName 4) (tt := tYes) rfl sc_tree_made.nd (pi_list (pe_callB (call_sortedD rfl) (by rfl) T.sorted (by decide +kernel) (pa_cons (pv 2) pa_nil))) (blkOk_by (N := ["tree", "edit", "contents", "change", "path"]) (sc := defScope s_tree_made) (by decide +kernel)) (fun _ _ _ _ _ => (pg_name (i := 4) sc_tree_made.nd rfl (.inl rfl))) (fun _ _ _ _ _ => pts_nil) (fun _ _ _ _ _ => (pe_tup (pa_cons (pv 4) (pa_cons (pe_dget hu (pv 2) (pv 4) (fun _ _ => rfl)) pa_nil))))) pa_nil)))))))), ?_⟩
    have fl := fok.few
    have el := eok.few
    refine st_seq (st_if (tt_not (tt_b (te_call (ta_cons (te_v rfl (ta_nil ⟨v, es, rfl, hv, eok.ch, easc, by omega, fun H1 s1 => ⟨_, rfl, ?_⟩⟩)))))))
    refine iteF (st_next ?_)
    dsimp only
    refine st_seq (st_asg (te_dict rfl (ha.same s1) fok.nd fun dd hdd => st_g ?_))
    dsimp only
    have hdd0 : H dd = none := none_of s1 hdd
    have N1 : NewF H dd fs (upd H1 dd (.dK (kvF fs))) := ⟨Same.mut s1 hdd0, hdd0, upd_same, fok⟩
    generalize upd H1 dd (.dK (kvF fs)) = H2 at N1 ⊢
    obtain ⟨vp, vs, rfl, _, hvp, _, hvs⟩ := hv
    have hlen := hvs.len
    rw [List.length_map] at hlen
    refine st_seq ?_
    refine seq_walk0 hvp N1.same (fun Q q => ⟨_, rfl, q⟩) fun J G wk hG => ?_
    refine for_it wk (fun i σ H3 => ∃ k3 : Option V, σ = [some (.ref a), some (.ref vp), some (.ref dd), k3, none] ∧ NewF H dd (applyE fs (es.take i)) H3) ⟨_, rfl, N1⟩ (fun i σ H3 _ ⟨_, _, n⟩ => hG H3 n.same) ?_ ?_
    · rintro i x σ Hx H3 hi ⟨k3, rfl, N⟩ ⟨rfl, hx⟩
      have hil : i < es.length := by omega
      have hq : es[i]? = some es[i] := List.getElem?_eq_getElem hil
      obtain ⟨v, hv, hrep⟩ := hvs.get (i := i) (d := changeD es[i]) (by rw [List.getElem?_map, hq]; rfl)
      obtain rfl : v = x := Option.some.inj (hv.symm.trans hx)
      obtain ⟨t, rfl, ht⟩ := changeL_of (hrep.same N.same)
      have hm := eok.path _ (List.getElem_mem hil)
      have hc := eok.ct _ (List.getElem_mem hil)
      have ea : applyE fs (es.take (i + 1)) = stepE (applyE fs (es.take i)) es[i] := by
        unfold applyE
        rw [List.take_add_one, hq, List.foldl_append]
        rfl
      rw [ea]
      generalize es[i] = q at ht hm hc ⊢
      generalize applyE fs (es.take i) = gs at N ⊢
      obtain ⟨p, o⟩ := q
      cases o with
      | some c =>
        refine ⟨_, rfl, ix_any ht rfl ⟨rfl, _, rfl, ite2 (fun _ => ?_) (fun z => absurd rfl z)⟩⟩
        exact ⟨_, rfl, ix_any ht rfl ⟨_, rfl, _, rfl, ix_any ht rfl ⟨dd, _, rfl, N.dput, _, rfl, N.put (N.ok.put hm (hc c rfl))⟩⟩⟩
      | none =>
        refine ⟨_, rfl, ix_any ht rfl ⟨rfl, _, rfl, ite2 (fun z => absurd (V.str.inj (of_decide_eq_true z)) (by decide)) (fun _ => ?_)⟩⟩
        refine ⟨_, rfl, dd, rfl, .inl ⟨_, .inl N.at_⟩, _, rfl, ix_any ht rfl ⟨kvF gs, Sum.inr p, N.at_, rfl, fun x hx => ?_, fun hn => ?_⟩⟩
        · rw [kvF_drop']
          exact ⟨_, rfl, N.put N.ok.drop⟩
        · rw [kvF_val', Option.map_eq_none_iff] at hn
          refine ⟨_, rfl, ?_⟩
          show NewF H dd (dropF gs p) _
          rw [dropF_none hn]
          exact N
    · rintro σ H3 ⟨k3, rfl, N⟩
      have e1 : es.take vs.length = es := List.take_of_length_le (by omega)
      rw [e1] at N
      generalize hg : applyE fs es = gs at N kk
      have gl := N.ok.few
      dsimp only
      refine st_seq (st_if ?_)
      refine ⟨_, rfl, dd, kvF gs, rfl, N.at_, _, _, rfl, rfl, _, rfl, ite2 (fun z => ?_) (fun _ => ?_)⟩
      · have := of_decide_eq_true z
        rw [kvF, kvG, List.length_map] at this
        omega
      refine st_next ?_
      dsimp only
      refine st_ret (te_make (ta_cons (te_lc ?_)))
      refine ⟨_, rfl, dd, kvF gs, gs.map (·.1), rfl, .inl N.at_, kvF_keys' gs, by rw [List.length_map]; omega, fun ks p perm srt hp => ?_⟩
      have asc : Asc ks := asc_of srt (perm.nodup_iff.mpr N.ok.nd)
      have hks : ks.length ≤ 20 := by
        rw [perm.length_eq, List.length_map]
        exact gl
      have hp0 : dd ≠ p := fun z => by
        rw [← z, N.at_] at hp
        cases hp
      have s4 : Same H (upd H3 p (.lst (ks.map V.str))) := fun b o e => by rw [upd_ne (ne_of_none (N.same b o e) hp)]; exact N.same b o e
      refine ⟨p, rfl, ⟨_, SqL.of upd_same⟩, fun D2 hD2 => lc_sorted (fun _ => rfl) (fun _ => rfl) (fun _ => rfl) upd_same (by rw [upd_ne hp0]; exact N.at_) perm (by omega) hD2 fun H5 ws s5 e5 l5 r5 => ?_⟩
      have sok := N.ok.sort perm
      have sasc : Asc ((sortF gs ks).map (·.1)) := by rw [sortF_keys]; exact asc
      exact ta_nil (mk_leaf (v := .ref D2) (fs := sortF gs ks) ⟨D2, ws, rfl, trivial, .inr e5, small_of (by omega), Reps.loose r5⟩ (sok.good sasc) fun b H' s6 tr => kk b _ H' (fun b o e => s6 b o (s5 b o (s4 b o e))) tr sok sasc fun q => sortF_val perm q)
abbrev s_edited : Stmt := topS 23
theorem sc_edited : FnScope ["tree", "edit", "made"] ["tree", "edit"] (defScope s_edited) := ⟨rfl, rfl, rfl, by decide +kernel, rfl, by decide +kernel, by decide +kernel⟩
theorem ok_pedited {f : Addr} {fd : FuncData} (F : Fun K "edited" "edited" s_edited f fd) (c_check_tree : C8.Cal P w K mg base 1 "check_tree" (spCheck K C) []) (c_tree_made : C8.Cal P w K mg base 7 "tree_made" (spPEdited K C) []) :
    FnOk P w K mg base CX0 8 f fd ["tree", "edit"] (spPEdited K C) := by
  refine F.ok sc_edited (fun vs H Q E h => ?_) (fun cdv A outer s H vs Q E hr h => ?_)
  · obtain ⟨a, v, fs, es, rfl, _⟩ := h
    rfl
  · obtain ⟨a, v, fs, es, rfl, ha, fok, hv, eok, easc, kk⟩ := h
    refine ⟨_, (pss_cons (ps_expr (C8.pe_c c_check_tree hr (by omega) (by rfl) (pa_cons (pv 0) (pa_cons pe_int pa_nil))))
      (pss_cons (ps_set (i := 2) sc_edited.nd rfl (.inl rfl) (C8.pe_c c_tree_made hr (by omega) (by rfl) (pa_cons (pv 0) (pa_cons (pv 1) pa_nil))))
      (pss_cons (ps_if (pt_cmp (pc_isN (pv 2)))
      (pss_one ps_never)
      pss_nil)
      (pss_one (ps_ret (pv 2)))))), ?_⟩
    refine st_seq (st_expr (te_call (ta_cons (te_v rfl (ta_cons (te_c (ta_nil ⟨a, 1, fs, rfl, ha, ?_⟩)))))))
    dsimp only
    refine st_seq (st_asg (te_call (ta_cons (te_v rfl (ta_cons (te_v rfl (ta_nil ⟨a, v, fs, es, rfl, ha, fok, hv, eok, easc, fun b gs H' s tr gok gasc gv => st_g ?_⟩)))))))
    dsimp only
    refine st_seq (st_if ⟨_, rfl, _, rfl, iteF (st_next ?_)⟩)
    dsimp only
    exact st_ret (te_v rfl (kk b gs H' s tr gok gasc gv))
end
end Kl

namespace Kl
open PySem L2 Kd
theorem mergeF_len {α : Type} : ∀ (l a : List (Str × α)), (mergeF a l).length ≤ a.length + l.length
  | [], a => by simp [mergeF]
  | q :: r, a => by
    have ih := mergeF_len r (putF a q.1 q.2)
    have h1 : (putF a q.1 q.2).length ≤ a.length + 1 := by
      unfold putF
      split
      · rw [List.length_map]
        omega
      · rw [List.length_append]
        simp
    show (mergeF (putF a q.1 q.2) r).length ≤ _
    rw [List.length_cons]
    omega
/-- {**a, **b} of two dicts of files -/
theorem te_star2 {i j : Nat} {lo hi : Addr} {fs gs : Fs} {σ : L2.St} {H : Hp} {Q : VK} (h1 : σ[i]? = some (some (.ref lo))) (h2 : σ[j]? = some (some (.ref hi))) (hlo : H lo = some (.dK (kvF fs))) (hhi : H hi = some (.dK (kvF gs))) (l1 : fs.length ≤ 1000) (l2 : gs.length ≤ 1000)
    (k : ∀ (du : Addr) (H' : Hp), Same H H' → H du = none → H' du = some (.dK (kvF (mergeF (mergeF [] fs) gs))) → Q (.ref du) H') : Ks.tStar2 (tVar i) (tVar j) σ H Q := by
  intro du hdu
  have nlo : du ≠ lo := fun z => by
    rw [z, hlo] at hdu
    cases hdu
  have nhi : du ≠ hi := fun z => by
    rw [z, hhi] at hdu
    cases hdu
  have m0 : (kvF fs).length = fs.length := by
    unfold kvF kvG
    rw [List.length_map]
  have m1 : (kvF gs).length = gs.length := by
    unfold kvF kvG
    rw [List.length_map]
  have e1 : mergeK [] (kvF fs) = kvF (mergeF [] fs) := mergeK_F V.str fs []
  have e2 : mergeK (kvF (mergeF [] fs)) (kvF gs) = kvF (mergeF (mergeF [] fs) gs) := mergeK_F V.str gs _
  have z1 : (kvF (mergeF [] fs)).length ≤ fs.length := by
    unfold kvF kvG
    rw [List.length_map]
    have := mergeF_len fs ([] : Fs)
    simpa using this
  refine ⟨_, h1, lo, kvF fs, rfl, upd_same, by rw [upd_ne (Ne.symm nlo)]; exact hlo, nlo, small_of (by rw [m0]; simp; omega), _, h2, hi, kvF gs, rfl, upd_same, by rw [upd_ne (Ne.symm nhi), upd_ne (Ne.symm nhi)]; exact hhi, nhi, small_of (by rw [e1, m1]; omega), ?_⟩
  refine k du _ (fun b o e => ?_) hdu (by rw [upd_same, e1, e2])
  have nb : b ≠ du := ne_of_none e hdu
  rw [upd_ne nb, upd_ne nb, upd_ne nb]
  exact e
theorem mergeF2_mem (fs gs : Fs) (p : Str) : p ∈ (mergeF (mergeF [] fs) gs).map (·.1) ↔ p ∈ fs.map (·.1) ∨ p ∈ gs.map (·.1) := by
  rw [mergeF_mem, mergeF_mem]
  simp
/-- what changes between two trees -/
def spPBetween (_ : PySem.W.Frag) (C : Addr) : Sp := fun vs H Q _ => ∃ (a b : Addr) (fs gs : Fs), vs = [.ref a, .ref b] ∧ TreeAt C H a fs ∧ FOk fs ∧ TreeAt C H b gs ∧ FOk gs ∧
  ∀ (x : V) (ks : List Str) (H' : Hp), Same H H' → Rep H' (editD (betweenL fs gs ks)) x → Asc ks → (∀ p, p ∈ ks ↔ p ∈ fs.map (·.1) ∨ p ∈ gs.map (·.1)) → Q x H'
section
variable {P : Program} {w : World} {K : PySem.W.Frag} {mg : Str → Option Value} {base : Heap} {C : Addr}
abbrev s_between : Stmt := topS 25
theorem sc_between : FnScope ["old", "new", "was", "now", "edit", "path"] ["old", "new"] (defScope s_between) := ⟨rfl, rfl, rfl, by decide +kernel, rfl, by decide +kernel, by decide +kernel⟩
theorem ok_pbetween {f : Addr} {fd : FuncData} (F : Fun K "between" "between" s_between f fd) (T : Glo mg) (tp : TreeP P w K mg base C) (c_check_tree : C8.Cal P w K mg base 1 "check_tree" (spCheck K C) []) :
    FnOk P w K mg base CX0 3 f fd ["old", "new"] (spPBetween K C) := by
  refine F.ok sc_between (fun vs H Q E h => ?_) (fun cdv A outer s H vs Q E hr h => ?_)
  · obtain ⟨a, b, fs, gs, rfl, _⟩ := h
    rfl
  · obtain ⟨up, vp, fs, gs, rfl, ha, fok, hb, gok, kk⟩ := h
    have hu := hu_of hr
    refine ⟨_, (pss_cons (ps_expr (C8.pe_c c_check_tree hr (by omega) (by rfl) (pa_cons (pv 0) (pa_cons pe_int pa_nil))))
      (pss_cons (ps_expr (C8.pe_c c_check_tree hr (by omega) (by rfl) (pa_cons (pv 1) (pa_cons pe_int pa_nil))))
      (pss_cons (ps_set (i := 2) sc_between.nd rfl (.inl rfl) (pe_callTy (r := rDictTup K) (Ks.call_dict_tup rfl) (by rfl) T.dict (by decide +kernel) (pa_cons (pe_files tp hr (by omega) (pv 0)) pa_nil)))
      (pss_cons (ps_set (i := 3) sc_between.nd rfl (.inl rfl) (pe_callTy (r := rDictTup K) (Ks.call_dict_tup rfl) (by rfl) T.dict (by decide +kernel) (pa_cons (pe_files tp hr (by omega) (pv 1)) pa_nil)))
      (pss_cons (ps_set (i := 4) sc_between.nd rfl (.inl rfl) (pe_lst pa_nil))
      (pss_cons (ps_for PassesOwn.never rfl (pi_list (pe_callB (call_sortedD rfl) (by rfl) T.sorted (by decide +kernel) (pa_cons (Ks.pe_star2 (pv 2) (pv 3)) pa_nil))) (pg_name (i := 5) sc_between.nd rfl (.inl rfl))
      (pss_one (ps_if (pt_cmp (pc_dnotin hu (pv 5) (pv 3)))
        (pss_one (ps_expr (pe_bm PySem.F.plainAttrs_list PySem.F.slot_list_append PySem.F.type_list_append mt_append (pv 4) (pa_cons (pe_tup (pa_cons pe_str (pa_cons (pv 5) pa_nil))) pa_nil))))
        (pss_one (ps_if (pt_cmpR op_ne (pe_dget1 hu (pv 2) (pv 5) ⟨rfl, rfl, rfl, rfl⟩) (pe_dget hu (pv 3) (pv 5) (fun _ _ => rfl)) (nomark _))
          (pss_one (ps_expr (pe_bm PySem.F.plainAttrs_list PySem.F.slot_list_append PySem.F.type_list_append mt_append (pv 4) (pa_cons (pe_tup (pa_cons pe_str (pa_cons (pv 5) (pa_cons (pe_dget hu (pv 3) (pv 5) (fun _ _ => rfl)) pa_nil)))) pa_nil))))
          pss_nil)))))
      (pss_one (ps_ret (pe_callTy call_tuple_of (by rfl) T.tuple PyProof.Rows.boot_tuple (pa_cons (pv 4) pa_nil)))))))))), ?_⟩
    have fl := fok.few
    have gl := gok.few
    refine st_seq (st_expr (te_call (ta_cons (te_v rfl (ta_cons (te_c (ta_nil ⟨up, 1, fs, rfl, ha, ?_⟩)))))))
    dsimp only
    refine st_seq (st_expr (te_call (ta_cons (te_v rfl (ta_cons (te_c (ta_nil ⟨vp, 2, gs, rfl, hb, ?_⟩)))))))
    dsimp only
    refine st_seq (st_asg (te_dict rfl ha fok.nd fun lo hlo => st_g ?_))
    dsimp only
    have s1 : Same H (upd H lo (.dK (kvF fs))) := Same.new hlo
    have lo1 : upd H lo (.dK (kvF fs)) lo = some (.dK (kvF fs)) := upd_same
    generalize upd H lo (.dK (kvF fs)) = H1 at s1 lo1 ⊢
    refine st_seq (st_asg (te_dict rfl (hb.same s1) gok.nd fun hi hhi => st_g ?_))
    dsimp only
    have s2' : Same H1 (upd H1 hi (.dK (kvF gs))) := Same.new hhi
    have lo2 := s2' _ _ lo1
    have hi2 : upd H1 hi (.dK (kvF gs)) hi = some (.dK (kvF gs)) := upd_same
    have s2 : Same H (upd H1 hi (.dK (kvF gs))) := fun b o e => s2' b o (s1 b o e)
    generalize upd H1 hi (.dK (kvF gs)) = H2 at s2 lo2 hi2 ⊢
    refine st_seq (st_asg ?_)
    refine ⟨(by show 0 ≤ sizeLine; decide), fun md hmd => st_g ?_⟩
    dsimp only
    have md0 : H md = none := none_of s2 hmd
    have s5 : Same H2 (upd H2 md (.lst [])) := Same.new hmd
    have s5' : Same H (upd H2 md (.lst [])) := fun b o e => s5 b o (s2 b o e)
    have lo5 := s5 _ _ lo2
    have hi5 := s5 _ _ hi2
    have md5 : upd H2 md (.lst []) md = some (.lst []) := upd_same
    generalize upd H2 md (.lst []) = H5 at s5' lo5 hi5 md5 ⊢
    refine st_seq ?_
    unfold tFor iList
    refine te_cb (ta_cons (te_star2 rfl rfl lo5 hi5 (by omega) (by omega) fun du H8 s8 hdu du8 => ta_nil ?_))
    have mem := mergeF2_mem fs gs
    have mnd : ((mergeF (mergeF [] fs) gs).map (·.1)).Nodup := mergeF_nodup _ _ (mergeF_nodup _ _ List.nodup_nil)
    have mlen : ((mergeF (mergeF [] fs) gs).map (·.1)).length ≤ 20 := Nat.le_trans (nodup_le (ys := allPaths) mnd fun p hp => by
      rcases (mem p).mp hp with h | h
      · obtain ⟨q, hq, e⟩ := List.mem_map.mp h
        rw [← e]
        exact fok.path q hq
      · obtain ⟨q, hq, e⟩ := List.mem_map.mp h
        rw [← e]
        exact gok.path q hq) (by decide)
    generalize mergeF (mergeF [] fs) gs = m at mem mnd mlen du8
    refine ⟨du, kvF m, m.map (·.1), rfl, .inl du8, kvF_keys' m, by omega, fun ks p perm srt hp => ?_⟩
    have asc : Asc ks := asc_of srt (perm.nodup_iff.mpr mnd)
    have hks : ks.length ≤ 20 := by
      rw [perm.length_eq]
      exact mlen
    have memk : ∀ p, p ∈ ks ↔ p ∈ fs.map (·.1) ∨ p ∈ gs.map (·.1) := fun p => perm.mem_iff.trans (mem p)
    have md8 := s8 _ _ md5
    have hpm : p ≠ md := fun z => by
      rw [z, md8] at hp
      cases hp
    have s9 : Same H5 (upd H8 p (.lst (ks.map V.str))) := fun b o e => by
      have := s8 b o e
      rw [upd_ne (ne_of_none this hp)]
      exact this
    have p9 : upd H8 p (.lst (ks.map V.str)) p = some (.lst (ks.map V.str)) := upd_same
    generalize upd H8 p (.lst (ks.map V.str)) = H9 at s9 p9 ⊢
    refine ⟨p, rfl, ⟨_, SqL.of p9⟩, for_list (K := K) (a := p) (xs := ks.map V.str) (fun i σ Hi => ∃ (k5 : Option V) (ws : List V), σ = [some (.ref up), some (.ref vp), some (.ref lo), some (.ref hi), some (.ref md), k5] ∧ Same H Hi ∧ Hi lo = some (.dK (kvF fs)) ∧ Hi hi = some (.dK (kvF gs)) ∧ Hi p = some (.lst (ks.map V.str)) ∧ Hi md = some (.lst ws) ∧ ws.length ≤ i ∧ Reps Hi ((betweenL fs gs (ks.take i)).map changeD) ws)
      ⟨_, [], rfl, fun b o e => s9 b o (s5' b o e), s9 _ _ lo5, s9 _ _ hi5, p9, s9 _ _ md5, Nat.le_refl _, rfl⟩ (fun i σ Hi _ ⟨_, _, _, _, _, _, z, _⟩ => SqL.of z) ?_ ?_⟩
    · rintro i x σ Hi hx ⟨k5, ws, rfl, sH, lo_, hi_, p_, md_, wl, wr⟩
      rw [List.getElem?_map] at hx
      obtain ⟨k, hk, rfl⟩ := Option.map_eq_some_iff.mp hx
      have hil : i < ks.length := (List.getElem?_eq_some_iff.mp hk).1
      have snoc := betweenL_snoc fs gs hk
      have dl : DGet Hi lo (.str k) ((valF fs k).map V.str) := by
        have := DGet.k (k := Sum.inr k) lo_
        rw [kvF_val'] at this
        exact this
      have dh : DGet Hi hi (.str k) ((valF gs k).map V.str) := by
        have := DGet.k (k := Sum.inr k) hi_
        rw [kvF_val'] at this
        exact this
      have push : ∀ {t : Addr} {xs : List V} {o : Option Str} {k5 : Option V}, betw (valF fs k) (valF gs k) = some o → Hi t = none → Rep (upd Hi t (.tup xs)) (changeD (k, o)) (.ref t) → (∃ (k5' : Option V) (ws' : List V), [some (V.ref up), some (V.ref vp), some (V.ref lo), some (V.ref hi), some (V.ref md), k5] = [some (V.ref up), some (V.ref vp), some (V.ref lo), some (V.ref hi), some (V.ref md), k5'] ∧ Same H (upd (upd Hi t (.tup xs)) md (.lst (ws ++ [.ref t]))) ∧ upd (upd Hi t (.tup xs)) md (.lst (ws ++ [.ref t])) lo = some (.dK (kvF fs)) ∧ upd (upd Hi t (.tup xs)) md (.lst (ws ++ [.ref t])) hi = some (.dK (kvF gs)) ∧ upd (upd Hi t (.tup xs)) md (.lst (ws ++ [.ref t])) p = some (.lst (ks.map V.str)) ∧ upd (upd Hi t (.tup xs)) md (.lst (ws ++ [.ref t])) md = some (.lst ws') ∧ ws'.length ≤ i + 1 ∧ Reps (upd (upd Hi t (.tup xs)) md (.lst (ws ++ [.ref t]))) ((betweenL fs gs (ks.take (i + 1))).map changeD) ws') ∧ upd Hi t (.tup xs) md = some (.lst ws) := by
        intro t xs o k5 hb ht hrep
        have tm : md ≠ t := fun z => by
          rw [← z, md_] at ht
          cases ht
        have md1 : upd Hi t (.tup xs) md = some (.lst ws) := by rw [upd_ne tm]; exact md_
        refine ⟨⟨_, ws ++ [.ref t], rfl, Same.mut (fun b o e => by rw [upd_ne (ne_of_none (sH b o e) ht)]; exact sH b o e) md0, ?_, ?_, ?_, upd_same, by rw [List.length_append]; simp only [List.length_cons, List.length_nil]; omega, ?_⟩, md1⟩
        · rw [upd_ne (ne_of lo_ md_ (fun z => nomatch z)), upd_ne (ne_of_none lo_ ht)]
          exact lo_
        · rw [upd_ne (ne_of hi_ md_ (fun z => nomatch z)), upd_ne (ne_of_none hi_ ht)]
          exact hi_
        · rw [upd_ne hpm, upd_ne (ne_of_none p_ ht)]
          exact p_
        · rw [snoc, hb, List.map_append]
          have tk : Tk (upd Hi t (.tup xs)) (upd (upd Hi t (.tup xs)) md (.lst (ws ++ [.ref t]))) := Tk.lst md1
          exact Reps.snoc (Reps.keep tk (Reps.keep (Tk.new ht) wr)) (Rep.keep tk hrep)
      have skip : ∀ {k5 : Option V}, betw (valF fs k) (valF gs k) = none → ∃ (k5' : Option V) (ws' : List V), [some (V.ref up), some (V.ref vp), some (V.ref lo), some (V.ref hi), some (V.ref md), k5] = [some (V.ref up), some (V.ref vp), some (V.ref lo), some (V.ref hi), some (V.ref md), k5'] ∧ Same H Hi ∧ Hi lo = some (.dK (kvF fs)) ∧ Hi hi = some (.dK (kvF gs)) ∧ Hi p = some (.lst (ks.map V.str)) ∧ Hi md = some (.lst ws') ∧ ws'.length ≤ i + 1 ∧ Reps Hi ((betweenL fs gs (ks.take (i + 1))).map changeD) ws' := by
        intro k5 hb
        refine ⟨_, ws, rfl, sH, lo_, hi_, p_, md_, by omega, ?_⟩
        rw [snoc, hb, Option.map_none, Option.toList_none, List.append_nil]
        exact wr
      have wroom : ws.length < sizeLine := small_lt (by omega)
      have hin := (memk k).mp (List.mem_of_getElem? hk)
      refine ⟨_, rfl, _, rfl, hi, _, rfl, dh, _, rfl, ite2 (fun z => ?_) (fun z => ?_)⟩
      · have hg : valF gs k = none := by
          cases e : valF gs k with
          | none => rfl
          | some c => rw [e] at z; cases z
        have hf : (valF fs k).isSome = true := by
          rcases hin with h | h
          · exact valF_isSome.mpr h
          · rw [← valF_isSome, hg] at h
            cases h
        have hb : betw (valF fs k) (valF gs k) = some none := by
          rw [hg]
          show (if (valF fs k).isSome = true then some none else none) = _
          rw [if_pos hf]
        refine ⟨_, rfl, .inl ⟨rfl, _, SqL.of md_⟩, _, rfl, (by show 2 ≤ sizeLine; decide), fun t ht => ?_⟩
        have pu := push (k5 := some (.str k)) hb ht (drop_rep upd_same)
        exact ⟨md, _, _, rfl, rfl, pu.2, wroom, pu.1⟩
      · obtain ⟨c, hc⟩ : ∃ c, valF gs k = some c := by
          cases e : valF gs k with
          | none => rw [e] at z; exact absurd rfl z
          | some c => exact ⟨c, rfl⟩
        rw [hc] at dh
        have eo : ((valF fs k).map V.str).getD .non = encO (valF fs k) := by
          cases valF fs k <;> rfl
        refine ⟨_, rfl, lo, rfl, .inl ⟨_, .inl lo_⟩, _, rfl, _, dl, _, rfl, _, rfl, hi, _, rfl, dh, ?_⟩
        rw [eo]
        refine ⟨encO_scal _ (some c), _, rfl, ite2 (fun z => ?_) (fun z => ?_)⟩
        · have hn : valF fs k ≠ some c := fun e => by
            rw [e] at z
            simp [encO] at z
          have hb : betw (valF fs k) (valF gs k) = some (some c) := by
            rw [hc]
            show (if valF fs k = some c then none else some (some c)) = _
            rw [if_neg hn]
          refine ⟨_, rfl, .inl ⟨rfl, _, SqL.of md_⟩, _, rfl, _, rfl, _, rfl, hi, _, rfl, dh, (by show 3 ≤ sizeLine; decide), fun t ht => ?_⟩
          have pu := push (k5 := some (.str k)) hb ht (put_rep upd_same)
          exact ⟨md, _, _, rfl, rfl, pu.2, wroom, pu.1⟩
        · have hn : valF fs k = some c := by
            have e : encO (valF fs k) = V.str c := by
              simpa using z
            exact encO_inj (b := some c) e
          refine skip ?_
          rw [hc, hn]
          show (if some c = some c then none else some (some c)) = _
          rw [if_pos rfl]
    · rintro σ Hi ⟨k5, ws, rfl, sH, lo_, hi_, p_, md_, wl, wr⟩
      rw [List.length_map] at wl wr
      rw [List.take_length] at wr
      refine ⟨_, rfl, md, _, rfl, .inl ⟨SqL.of md_, fun l hl => ?_⟩⟩
      exact kk (.ref l) ks _ (fun b o e => by rw [upd_ne (ne_of_none (sH b o e) hl)]; exact sH b o e) ⟨l, ws, rfl, .inl upd_same, small_of (by omega), Reps.keep (Tk.new hl) wr⟩ asc memk
/-- the paths that change -/
def spTouched (_ : PySem.W.Frag) (C : Addr) : Sp := fun vs H Q _ => ∃ (a b : Addr) (fs gs : Fs), vs = [.ref a, .ref b] ∧ TreeAt C H a fs ∧ FOk fs ∧ TreeAt C H b gs ∧ FOk gs ∧
  ∀ (x : V) (ks : List Str) (H' : Hp), Same H H' → Rep H' (.tup ((betweenL fs gs ks).map fun q => .str q.1)) x → Asc ks → (∀ p, p ∈ ks ↔ p ∈ fs.map (·.1) ∨ p ∈ gs.map (·.1)) → Q x H'
theorem betweenL_len (fs gs : Fs) (ks : List Str) : (betweenL fs gs ks).length ≤ ks.length := List.length_filterMap_le _ _
theorem change_at1 {H : Hp} {q : Str × Option Str} {v : V} (h : Rep H (changeD q) v) : ∃ (c : Addr) (ws : List V), v = .ref c ∧ Rd H c (.tup ws) ∧ atI ws 1 = some (.str q.1) := by
  obtain ⟨p, o⟩ := q
  obtain ⟨c, e, hc⟩ := change_of h
  cases o with
  | none => exact ⟨c, _, e, hc, rfl⟩
  | some d => exact ⟨c, _, e, hc, rfl⟩
abbrev s_touched : Stmt := topS 26
theorem sc_touched : FnScope ["old", "new", "change"] ["old", "new"] (defScope s_touched) := ⟨rfl, rfl, rfl, by decide +kernel, rfl, by decide +kernel, by decide +kernel⟩
theorem ok_touched {f : Addr} {fd : FuncData} (F : Fun K "touched" "touched" s_touched f fd) (T : Glo mg) (c_between : C8.Cal P w K mg base 3 "between" (spPBetween K C) []) :
    FnOk P w K mg base CX0 4 f fd ["old", "new"] (spTouched K C) := by
  refine F.ok sc_touched (fun vs H Q E h => ?_) (fun cdv A outer s H vs Q E hr h => ?_)
  · obtain ⟨a, b, fs, gs, rfl, _⟩ := h
    rfl
  · obtain ⟨up, vp, fs, gs, rfl, ha, fok, hb, gok, kk⟩ := h
    refine ⟨_, (pss_one (ps_ret (pe_callTy call_tuple_of (by rfl) T.tuple PyProof.Rows.boot_tuple (pa_cons (pe_lc (own := [("change", 2)]) (g := gName 2) (tt := tYes) rfl sc_touched.nd (pi_tup (C8.pe_c c_between hr (by omega) (by rfl) (pa_cons (pv 0) (pa_cons (pv 1) pa_nil)))) (blkOk_by (N := ["old", "new", "change"]) (sc := defScope s_touched) (by decide +kernel)) (fun _ _ _ _ _ => (pg_name (i := 2) sc_touched.nd rfl (.inl rfl))) (fun _ _ _ _ _ => pts_nil) (fun _ _ _ _ _ => (pe_ix (r := rIxT K) ix_tup (pv 2) pe_int (fun _ _ => rfl)))) pa_nil)))), ?_⟩
    refine ⟨_, rfl, _, rfl, up, vp, fs, gs, rfl, ha, fok, hb, gok, fun x ks H1 s1 hx asc mem => ?_⟩
    obtain ⟨t, vs, rfl, ht, hz, hvs⟩ := hx
    have vl := hvs.len
    rw [List.length_map] at vl
    generalize he : betweenL fs gs ks = es at hvs vl
    refine ⟨t, rfl, ⟨_, .inl ht⟩, fun D hD => lc_tup (K := K) (a := t) (xs := vs) (fun i H2 => Same H1 H2 ∧ H2 D = some (.lst ((es.take i).map fun q => V.str q.1))) ⟨Same.new hD, upd_same⟩ (fun i H2 _ q => .inl (Rd.same q.1 ht)) ?_ ?_⟩
    · rintro i x H2 hx ⟨s2, e2⟩
      have hil : i < es.length := by
        have := (List.getElem?_eq_some_iff.mp hx).1
        omega
      have hq : es[i]? = some es[i] := List.getElem?_eq_getElem hil
      obtain ⟨v, hv, hrep⟩ := hvs.get (i := i) (d := changeD es[i]) (by rw [List.getElem?_map, hq]; rfl)
      obtain rfl : v = x := Option.some.inj (hv.symm.trans hx)
      obtain ⟨c, ws, rfl, hc1, a1⟩ := change_at1 (hrep.keep (Same.tk s2))
      refine ⟨rfl, _, rfl, c, ws, 1, _, rfl, rfl, .inl hc1, a1, _, e2, ?_, Same.mut s2 hD, ?_⟩
      · rw [List.length_map, List.length_take]
        rw [sizeLine_eq] at hz ⊢
        omega
      · rw [upd_same, List.take_add_one, hq, List.map_append]
        rfl
    · rintro H2 ⟨s2, e2⟩
      rw [vl, List.take_length] at e2
      refine ⟨D, _, rfl, .inl ⟨SqL.of e2, fun l hl => ?_⟩⟩
      refine kk (.ref l) ks _ (fun b o e => by rw [upd_ne (ne_of_none (s2 b o (s1 b o e)) hl)]; exact s2 b o (s1 b o e)) ?_ asc mem
      rw [he]
      refine ⟨l, _, rfl, .inl upd_same, by rw [List.length_map]; omega, ?_⟩
      have sr : ∀ (H : Hp) (xs : List (Str × Option Str)), Reps H (xs.map fun q => Kd.D.str q.1) (xs.map fun q => V.str q.1) := fun H xs => by
        induction xs with
        | nil => rfl
        | cons q r ih => exact ⟨_, _, rfl, rfl, ih⟩
      exact sr _ es
end
end Kl

namespace Kl
open PySem L2 Kd
theorem te_star3 {i j l : Nat} {lo mi yo : Addr} {fs gs hs : Fs} {σ : L2.St} {H : Hp} {Q : VK} (h1 : σ[i]? = some (some (.ref lo))) (h2 : σ[j]? = some (some (.ref mi))) (h3 : σ[l]? = some (some (.ref yo))) (hlo : H lo = some (.dK (kvF fs))) (hmi : H mi = some (.dK (kvF gs))) (hyo : H yo = some (.dK (kvF hs)))
    (l1 : fs.length ≤ 1000) (l2 : gs.length ≤ 1000) (l3 : hs.length ≤ 1000) (k : ∀ (du : Addr) (H' : Hp), Same H H' → H du = none → H' du = some (.dK (kvF (mergeF (mergeF (mergeF [] fs) gs) hs))) → Q (.ref du) H') : Ks.tStar3 (tVar i) (tVar j) (tVar l) σ H Q := by
  intro du hdu
  have ne : ∀ {a : Addr} {o : HO}, H a = some o → du ≠ a := fun e z => by
    rw [z, e] at hdu
    cases hdu
  have nlo := ne hlo
  have nmi := ne hmi
  have nyo := ne hyo
  have m0 : ∀ l : Fs, (kvF l).length = l.length := fun l => by
    unfold kvF kvG
    rw [List.length_map]
  have e1 : mergeK [] (kvF fs) = kvF (mergeF [] fs) := mergeK_F V.str fs []
  have e2 : mergeK (kvF (mergeF [] fs)) (kvF gs) = kvF (mergeF (mergeF [] fs) gs) := mergeK_F V.str gs _
  have e3 : mergeK (kvF (mergeF (mergeF [] fs) gs)) (kvF hs) = kvF (mergeF (mergeF (mergeF [] fs) gs) hs) := mergeK_F V.str hs _
  have z1 : (mergeF ([] : Fs) fs).length ≤ fs.length := by
    have := mergeF_len fs ([] : Fs)
    simpa using this
  have z2 : (mergeF (mergeF ([] : Fs) fs) gs).length ≤ fs.length + gs.length := by
    have := mergeF_len gs (mergeF ([] : Fs) fs)
    omega
  refine ⟨_, h1, lo, kvF fs, rfl, upd_same, by rw [upd_ne (Ne.symm nlo)]; exact hlo, nlo, small_of (by rw [m0]; simp; omega), _, h2, mi, kvF gs, rfl, upd_same, by rw [upd_ne (Ne.symm nmi), upd_ne (Ne.symm nmi)]; exact hmi, nmi, small_of (by rw [e1, m0, m0]; omega),
    _, h3, yo, kvF hs, rfl, upd_same, by rw [upd_ne (Ne.symm nyo), upd_ne (Ne.symm nyo), upd_ne (Ne.symm nyo)]; exact hyo, nyo, small_of (by rw [e1, e2, m0, m0]; omega), ?_⟩
  refine k du _ (fun b o e => ?_) hdu (by rw [upd_same, e1, e2, e3])
  have nb : b ≠ du := ne_of_none e hdu
  rw [upd_ne nb, upd_ne nb, upd_ne nb, upd_ne nb]
  exact e
theorem get1 {i a : Nat} {d : Addr} {k : Str} {l : Fs} {σ : L2.St} {H : Hp} {Q : VK} (hi : σ[i]? = some (some (.ref d))) (ha : σ[a]? = some (some (.str k))) (hd : H d = some (.dK (kvF l))) (q : Q (encO (valF l k)) H) : tDGet1 (tVar i) (tVar a) σ H Q := by
  have dg : DGet H d (.str k) ((valF l k).map V.str) := by
    have := DGet.k (k := Sum.inr k) hd
    rw [kvF_val'] at this
    exact this
  refine ⟨_, hi, d, rfl, .inl ⟨_, .inl hd⟩, _, ha, _, dg, ?_⟩
  have eo : ((valF l k).map V.str).getD .non = encO (valF l k) := by
    cases valF l k <;> rfl
  rw [eo]
  exact q
/-- what is made is good -/
theorem made_good {fs gs hs : Fs} {ks : List Str} (hg : Good gs) (hh : Good hs) (asc : Asc ks) (hl : ks.length ≤ 60) : Good (madeL fs gs hs ks) := by
  have one : ∀ {p c}, (mergeOne (valF fs p) (valF gs p) (valF hs p)).getD none = some c → PairOk (p, c) := fun {p c} h => by
    unfold mergeOne at h
    split at h
    · exact hg.ok _ (valF_some h)
    · split at h
      · exact hh.ok _ (valF_some h)
      · cases h
  refine ⟨fun q hq => ?_, ?_, Nat.le_trans (List.length_filterMap_le _ _) hl⟩
  · obtain ⟨p, _, hp⟩ := List.mem_filterMap.mp hq
    obtain ⟨c, hc, rfl⟩ := Option.map_eq_some_iff.mp hp
    exact one hc
  · have sub : ∀ l : List Str, ((madeL fs gs hs l).map (·.1)).Sublist l := fun l => by
      induction l with
      | nil => exact List.Sublist.slnil
      | cons p r ih =>
        unfold madeL at ih ⊢
        rw [List.filterMap_cons]
        cases e : (mergeOne (valF fs p) (valF gs p) (valF hs p)).getD none with
        | none =>
          rw [Option.map_none]
          exact ih.cons p
        | some c =>
          rw [Option.map_some]
          exact ih.cons₂ p
    exact List.Pairwise.sublist (sub ks) asc
/-- three trees merged -/
def spPMerged (_ : PySem.W.Frag) (C : Addr) : Sp := fun vs H Q _ => ∃ (a b c : Addr) (fs gs hs : Fs) (ps : List Str), vs = [.ref a, .ref b, .ref c] ∧ TreeAt C H a fs ∧ Good fs ∧ TreeAt C H b gs ∧ Good gs ∧ TreeAt C H c hs ∧ Good hs ∧
  ps.length ≤ 60 ∧ (∀ p, (p ∈ fs.map (·.1) ∨ p ∈ gs.map (·.1)) ∨ p ∈ hs.map (·.1) → p ∈ ps) ∧
  ∀ (x : V) (ks : List Str) (H' : Hp), Same H H' → Asc ks → (∀ p, p ∈ ks ↔ (p ∈ fs.map (·.1) ∨ p ∈ gs.map (·.1)) ∨ p ∈ hs.map (·.1)) →
    (clashL fs gs hs ks = [] → ∃ t d : Addr, x = .ref t ∧ Rd H' t (.tup [.str "tree", .ref d]) ∧ TreeAt C H' d (madeL fs gs hs ks)) → (clashL fs gs hs ks ≠ [] → Rep H' (.tup [.str "clash", .tup ((clashL fs gs hs ks).map .str)]) x) → Q x H'
/-- a path that is no clash -/
theorem merged_fin {K : PySem.W.Frag} {D : Ends} {σ : L2.St} {H Hi : Hp} {lo mi yo p md cl : Addr} {fs gs hs : Fs} {ks : List Str} {ws cs : List V} {i : Nat} {k : Str} {told : Option Str} (M : MSt H lo mi yo p md cl fs gs hs ks ws cs Hi) (wl : ws.length ≤ i) (wr : Reps Hi ((madeL fs gs hs (ks.take i)).map pairD) ws)
    (sn1 : madeL fs gs hs (ks.take (i + 1)) = madeL fs gs hs (ks.take i) ++ (((some told : Option (Option Str)).getD none).map fun c => (k, c)).toList) (hi : i ≤ 1000) (h12 : σ[12]? = some (some (encO told))) (h7 : σ[7]? = some (some (.ref md))) (h8 : σ[8]? = some (some (.str k)))
    (q : ∀ (ws' : List V) (H' : Hp), MSt H lo mi yo p md cl fs gs hs ks ws' cs H' → ws'.length ≤ i + 1 → Reps H' ((madeL fs gs hs (ks.take (i + 1))).map pairD) ws' → D.nx σ H') :
    tIfS (tB (tNotN (tVar 12))) (tDrop (tBM K "list" rAppend (tVar 7) (tCons (tTup (tCons (tVar 8) (tCons (tVar 12) tNil))) tNil))) tNext D σ Hi := by
  cases told with
  | none =>
    refine ⟨_, h12, _, rfl, ite2 (fun z => absurd z (by decide)) (fun _ => ?_)⟩
    exact q ws Hi M (by omega) (by rw [sn1]; simp only [Option.getD_some, Option.map_none, Option.toList_none, List.append_nil]; exact wr)
  | some c =>
    refine ⟨_, h12, _, rfl, ite2 (fun _ => ?_) (fun z => absurd (show (!decide (V.str c = V.non)) = true by simp) z)⟩
    refine ⟨_, h7, .inl ⟨rfl, _, SqL.of M.md_⟩, _, h8, _, h12, (by show 2 ≤ sizeLine; decide), fun t ht => ?_⟩
    have M2 := M.fresh (o := .tup [.str k, .str c]) ht
    refine ⟨md, _, _, rfl, rfl, M2.md_, small_lt (by omega), q (ws ++ [.ref t]) _ M2.toMd (by rw [List.length_append]; simp only [List.length_cons, List.length_nil]; omega) ?_⟩
    rw [sn1]
    simp only [Option.getD_some, Option.map_some, Option.toList_some]
    rw [List.map_append]
    have tk : Tk (upd Hi t (.tup [.str k, .str c])) (upd (upd Hi t (.tup [.str k, .str c])) md (.lst (ws ++ [.ref t]))) := Tk.lst M2.md_
    exact Reps.snoc (Reps.keep tk (Reps.keep (Tk.new ht) wr)) (Rep.keep tk (pair_rep upd_same))
section
variable {P : Program} {w : World} {K : PySem.W.Frag} {mg : Str → Option Value} {base : Heap} {C : Addr}
abbrev s_merged : Stmt := topS 27
theorem sc_merged : FnScope ["base", "ours", "theirs", "was", "mine", "others", "clashes", "files", "path", "before", "here", "there", "content"] ["base", "ours", "theirs"] (defScope s_merged) := ⟨rfl, rfl, rfl, by decide +kernel, rfl, by decide +kernel, by decide +kernel⟩
theorem ok_pmerged {f : Addr} {fd : FuncData} (F : Fun K "merged" "merged" s_merged f fd) (T : Glo mg) (tp : TreeP P w K mg base C) {t60 : Tok} (m_MOST_FILES : mg "MOST_FILES" = some (.int 60 t60)) (c_check_tree : C8.Cal P w K mg base 1 "check_tree" (spCheck K C) []) (mk_Tree : C8.Mak P w K mg base 5 "Tree" C (spInit K C) []) :
    FnOk P w K mg base CX0 7 f fd ["base", "ours", "theirs"] (spPMerged K C) := by
  refine F.ok sc_merged (fun vs H Q E h => ?_) (fun cdv A outer s H vs Q E hr h => ?_)
  · obtain ⟨a, b, c, fs, gs, hs, ps, rfl, _⟩ := h
    rfl
  · obtain ⟨up, vp, zp, fs, gs, hs, pall, rfl, ha, fok, hb, gok, hc, hok, pl, pin, kk⟩ := h
    have hu := hu_of hr
    refine ⟨_, (pss_cons (ps_expr (C8.pe_c c_check_tree hr (by omega) (by rfl) (pa_cons (pv 0) (pa_cons pe_int pa_nil))))
      (pss_cons (ps_expr (C8.pe_c c_check_tree hr (by omega) (by rfl) (pa_cons (pv 1) (pa_cons pe_int pa_nil))))
      (pss_cons (ps_expr (C8.pe_c c_check_tree hr (by omega) (by rfl) (pa_cons (pv 2) (pa_cons pe_int pa_nil))))
      (pss_cons (ps_set (i := 3) sc_merged.nd rfl (.inl rfl) (pe_callTy (r := rDictTup K) (Ks.call_dict_tup rfl) (by rfl) T.dict (by decide +kernel) (pa_cons (pe_files tp hr (by omega) (pv 0)) pa_nil)))
      (pss_cons (ps_set (i := 4) sc_merged.nd rfl (.inl rfl) (pe_callTy (r := rDictTup K) (Ks.call_dict_tup rfl) (by rfl) T.dict (by decide +kernel) (pa_cons (pe_files tp hr (by omega) (pv 1)) pa_nil)))
      (pss_cons (ps_set (i := 5) sc_merged.nd rfl (.inl rfl) (pe_callTy (r := rDictTup K) (Ks.call_dict_tup rfl) (by rfl) T.dict (by decide +kernel) (pa_cons (pe_files tp hr (by omega) (pv 2)) pa_nil)))
      (pss_cons (ps_set (i := 6) sc_merged.nd rfl (.inl rfl) (pe_lst pa_nil))
      (pss_cons (ps_set (i := 7) sc_merged.nd rfl (.inl rfl) (pe_lst pa_nil))
      (pss_cons (ps_for PassesOwn.never rfl (pi_list (pe_callB (call_sortedD rfl) (by rfl) T.sorted (by decide +kernel) (pa_cons (Ks.pe_star3 (pv 3) (pv 4) (pv 5)) pa_nil))) (pg_name (i := 8) sc_merged.nd rfl (.inl rfl))
      (pss_cons (ps_par3 (i := 9) (j := 10) (l := 11) rfl sc_merged.nd rfl rfl rfl (by decide) (by decide) (by decide) rfl rfl rfl (pa_cons (pe_dget1 hu (pv 3) (pv 8) ⟨rfl, rfl, rfl, rfl⟩) (pa_cons (pe_dget1 hu (pv 4) (pv 8) ⟨rfl, rfl, rfl, rfl⟩) (pa_cons (pe_dget1 hu (pv 5) (pv 8) ⟨rfl, rfl, rfl, rfl⟩) pa_nil))) (by rfl))
        (pss_cons (ps_set (i := 12) sc_merged.nd rfl (.inl rfl) (pe_ifExp (pt_cmpR op_eq (pv 10) (pv 9) (nomark _)) (pv 11) (pv 10)))
        (pss_one (ps_if (PW.pt (pw_and (pt_cmpR op_ne (pv 12) (pv 11) (nomark _)) (pw_and1 (pt_cmpR op_ne (pv 11) (pv 9) (nomark _)))))
        (pss_one (ps_expr (pe_bm PySem.F.plainAttrs_list PySem.F.slot_list_append PySem.F.type_list_append mt_append (pv 6) (pa_cons (pv 8) pa_nil))))
        (pss_one (ps_if (pt_cmp (pc_notN (pv 12)))
          (pss_one (ps_expr (pe_bm PySem.F.plainAttrs_list PySem.F.slot_list_append PySem.F.type_list_append mt_append (pv 7) (pa_cons (pe_tup (pa_cons (pv 8) (pa_cons (pv 12) pa_nil))) pa_nil))))
          pss_nil)))))))
      (C8.pss_cut (ps_if (PW.pt (pw_or (pt_truth (pv 6) (by intro _; rfl)) (pw_or1 (pt_cmpR op_gt (pe_callB call_len_seq (by rfl) T.len PySem.boot_len (pa_cons (pv 7) pa_nil)) (pe_glob (v := .int 60) (by rfl) m_MOST_FILES ⟨_, rfl⟩) (nomark _)))))
      (pss_one (ps_ret (pe_tup (pa_cons pe_str (pa_cons (pe_callTy call_tuple_of (by rfl) T.tuple PyProof.Rows.boot_tuple (pa_cons (pv 6) pa_nil)) pa_nil)))))
      pss_nil)
      (pss_one (ps_ret (pe_tup (pa_cons pe_str (pa_cons (C8.pe_mk mk_Tree hr (by omega) (by rfl) (pa_cons (pv 7) pa_nil)) pa_nil))))))))))))))), ?_⟩
    have fl := fok.few
    have gl := gok.few
    have hl := hok.few
    refine st_seq (st_expr (te_call (ta_cons (te_v rfl (ta_cons (te_c (ta_nil ⟨up, 1, fs, rfl, ha, ?_⟩)))))))
    dsimp only
    refine st_seq (st_expr (te_call (ta_cons (te_v rfl (ta_cons (te_c (ta_nil ⟨vp, 2, gs, rfl, hb, ?_⟩)))))))
    dsimp only
    refine st_seq (st_expr (te_call (ta_cons (te_v rfl (ta_cons (te_c (ta_nil ⟨zp, 3, hs, rfl, hc, ?_⟩)))))))
    dsimp only
    refine st_seq (st_asg (te_dict rfl ha fok.asc.nodup fun lo hlo => st_g ?_))
    dsimp only
    have sA : Same H (upd H lo (.dK (kvF fs))) := Same.new hlo
    have loA : upd H lo (.dK (kvF fs)) lo = some (.dK (kvF fs)) := upd_same
    generalize upd H lo (.dK (kvF fs)) = H1 at sA loA ⊢
    refine st_seq (st_asg (te_dict rfl (hb.same sA) gok.asc.nodup fun mi hmi => st_g ?_))
    dsimp only
    have sB' : Same H1 (upd H1 mi (.dK (kvF gs))) := Same.new hmi
    have loB := sB' _ _ loA
    have miB : upd H1 mi (.dK (kvF gs)) mi = some (.dK (kvF gs)) := upd_same
    have sB : Same H (upd H1 mi (.dK (kvF gs))) := fun b o e => sB' b o (sA b o e)
    generalize upd H1 mi (.dK (kvF gs)) = H2 at sB loB miB ⊢
    refine st_seq (st_asg (te_dict rfl (hc.same sB) hok.asc.nodup fun yo hyo => st_g ?_))
    dsimp only
    have sC' : Same H2 (upd H2 yo (.dK (kvF hs))) := Same.new hyo
    have loC := sC' _ _ loB
    have miC := sC' _ _ miB
    have yoC : upd H2 yo (.dK (kvF hs)) yo = some (.dK (kvF hs)) := upd_same
    have sC : Same H (upd H2 yo (.dK (kvF hs))) := fun b o e => sC' b o (sB b o e)
    generalize upd H2 yo (.dK (kvF hs)) = H6 at sC loC miC yoC ⊢
    refine st_seq (st_asg ?_)
    refine ⟨(by show 0 ≤ sizeLine; decide), fun cl hcl => st_g ?_⟩
    dsimp only
    have cl0 := none_of sC hcl
    have s7 : Same H6 (upd H6 cl (.lst [])) := Same.new hcl
    have cl7 : upd H6 cl (.lst []) cl = some (.lst []) := upd_same
    generalize upd H6 cl (.lst []) = H7 at s7 cl7 ⊢
    refine st_seq (st_asg ?_)
    refine ⟨(by show 0 ≤ sizeLine; decide), fun md hmd => st_g ?_⟩
    dsimp only
    have sH7 : Same H H7 := fun b o e => s7 b o (sC b o e)
    have md0 := none_of sH7 hmd
    have s8 : Same H7 (upd H7 md (.lst [])) := Same.new hmd
    have md8 : upd H7 md (.lst []) md = some (.lst []) := upd_same
    have hcm : cl ≠ md := fun z => by
      rw [← z, cl7] at hmd
      cases hmd
    generalize upd H7 md (.lst []) = H8 at s8 md8 ⊢
    have sH8 : Same H H8 := fun b o e => s8 b o (sH7 b o e)
    have lo8 := s8 _ _ (s7 _ _ loC)
    have mi8 := s8 _ _ (s7 _ _ miC)
    have yo8 := s8 _ _ (s7 _ _ yoC)
    have cl8 := s8 _ _ cl7
    refine st_seq ?_
    unfold tFor iList
    refine te_cb (ta_cons (te_star3 rfl rfl rfl lo8 mi8 yo8 (by omega) (by omega) (by omega) fun du HC sC2 hdu du8 => ta_nil ?_))
    have mem : ∀ p, p ∈ (mergeF (mergeF (mergeF [] fs) gs) hs).map (·.1) ↔ (p ∈ fs.map (·.1) ∨ p ∈ gs.map (·.1)) ∨ p ∈ hs.map (·.1) := fun p => by
      rw [mergeF_mem, mergeF2_mem]
    have mnd : ((mergeF (mergeF (mergeF [] fs) gs) hs).map (·.1)).Nodup := mergeF_nodup _ _ (mergeF_nodup _ _ (mergeF_nodup _ _ List.nodup_nil))
    have mlen : ((mergeF (mergeF (mergeF [] fs) gs) hs).map (·.1)).length ≤ 60 := Nat.le_trans (nodup_le mnd fun p hp => pin p ((mem p).mp hp)) pl
    generalize mergeF (mergeF (mergeF [] fs) gs) hs = m at mem mnd mlen du8
    refine ⟨du, kvF m, m.map (·.1), rfl, .inl du8, kvF_keys' m, by omega, fun ks p perm srt hp => ?_⟩
    have asc : Asc ks := asc_of srt (perm.nodup_iff.mpr mnd)
    have hks : ks.length ≤ 60 := by
      rw [perm.length_eq]
      exact mlen
    have memk : ∀ p, p ∈ ks ↔ (p ∈ fs.map (·.1) ∨ p ∈ gs.map (·.1)) ∨ p ∈ hs.map (·.1) := fun p => perm.mem_iff.trans (mem p)
    have hpm : p ≠ md := fun z => by
      rw [z, sC2 _ _ md8] at hp
      cases hp
    have hpc : p ≠ cl := fun z => by
      rw [z, sC2 _ _ cl8] at hp
      cases hp
    have sD : Same H8 (upd HC p (.lst (ks.map V.str))) := fun b o e => by
      have := sC2 b o e
      rw [upd_ne (ne_of_none this hp)]
      exact this
    have pD : upd HC p (.lst (ks.map V.str)) p = some (.lst (ks.map V.str)) := upd_same
    generalize upd HC p (.lst (ks.map V.str)) = HD at sD pD ⊢
    have M0 : MSt H lo mi yo p md cl fs gs hs ks [] [] HD := ⟨fun b o e => sD b o (sH8 b o e), sD _ _ lo8, sD _ _ mi8, sD _ _ yo8, pD, sD _ _ md8, sD _ _ cl8, hpm, hpc, hcm, md0, cl0⟩
    clear sD pD sC2 sH8 lo8 mi8 yo8 md8 cl8 s8 s7 sH7 loC miC yoC sC loB miB sB sA loA sB' sC'
    refine ⟨p, rfl, ⟨_, SqL.of M0.p_⟩, for_list (K := K) (a := p) (xs := ks.map V.str) (fun i σ Hi => ∃ (k8 k9 k10 k11 k12 : Option V) (ws cs : List V), σ = [some (.ref up), some (.ref vp), some (.ref zp), some (.ref lo), some (.ref mi), some (.ref yo), some (.ref cl), some (.ref md), k8, k9, k10, k11, k12] ∧ MSt H lo mi yo p md cl fs gs hs ks ws cs Hi ∧ ws.length ≤ i ∧ Reps Hi ((madeL fs gs hs (ks.take i)).map pairD) ws ∧ cs = (clashL fs gs hs (ks.take i)).map V.str)
      ⟨_, _, _, _, _, [], [], rfl, M0, Nat.le_refl _, rfl, rfl⟩ (fun i σ Hi _ ⟨_, _, _, _, _, _, _, _, z, _⟩ => SqL.of z.p_) ?_ ?_⟩
    · rintro i x σ Hi hx ⟨k8, k9, k10, k11, k12, ws, cs, rfl, M, wl, wr, ec⟩
      rw [List.getElem?_map] at hx
      obtain ⟨k, hk, rfl⟩ := Option.map_eq_some_iff.mp hx
      have hil : i < ks.length := (List.getElem?_eq_some_iff.mp hk).1
      have sn1 := madeL_snoc fs gs hs hk
      have sn2 := clashL_snoc fs gs hs hk
      refine st_g ?_
      refine st_seq ?_
      refine ta_cons (get1 rfl rfl M.lo_ (ta_cons (get1 rfl rfl M.mi_ (ta_cons (get1 rfl rfl M.yo_ (ta_nil ?_))))))
      refine ⟨_, _, _, rfl, ?_⟩
      dsimp only
      generalize valF fs k = oa at sn1 sn2
      generalize valF gs k = om at sn1 sn2
      generalize valF hs k = oy at sn1 sn2
      refine st_seq (st_asg ?_)
      refine ⟨_, rfl, _, rfl, encO_scal _ _, _, rfl, ite2 (fun z => ?_) (fun z => ?_)⟩
      · have hoa : om = oa := encO_inj (of_decide_eq_true z)
        have hm : mergeOne oa om oy = some oy := by
          unfold mergeOne
          by_cases h : om = oy ∨ oy = oa
          · rw [if_pos h]
            rcases h with h | h
            · rw [h]
            · rw [h, hoa]
          · rw [if_neg h, if_pos hoa]
        rw [hm] at sn1
        refine te_v (x := encO oy) rfl (st_g ?_)
        dsimp only
        refine ⟨_, rfl, _, rfl, encO_scal _ _, _, rfl, ite2 (fun z => ?_) (fun z => ?_)⟩
        · simp at z
        · refine merged_fin (σ := [some (.ref up), some (.ref vp), some (.ref zp), some (.ref lo), some (.ref mi), some (.ref yo), some (.ref cl), some (.ref md), some (.str k), some (encO oa), some (encO om), some (encO oy), some (encO oy)]) M wl wr sn1 (by omega) rfl rfl rfl fun ws' H' M' wl' wr' => ⟨_, _, _, _, _, ws', cs, rfl, M', wl', wr', ?_⟩
          rw [sn2, hm]
          simp [ec]
      · have hoa : om ≠ oa := fun e => z (decide_eq_true (by rw [e]))
        refine te_v (x := encO om) rfl (st_g ?_)
        dsimp only
        refine ⟨_, rfl, _, rfl, encO_scal _ _, _, rfl, ite2 (fun z => ?_) (fun z => ?_)⟩
        · have hmy : om ≠ oy := fun e => by
            rw [e] at z
            simp at z
          refine ⟨_, rfl, _, rfl, encO_scal _ _, _, rfl, ite2 (fun z => ?_) (fun z => ?_)⟩
          · have hya : oy ≠ oa := fun e => by
              rw [e] at z
              simp at z
            have hm : mergeOne oa om oy = none := by
              unfold mergeOne
              rw [if_neg (fun h => h.elim hmy hya), if_neg hoa]
            rw [hm] at sn1 sn2
            have cl1 : cs.length ≤ 60 := by
              rw [ec, List.length_map]
              exact Nat.le_trans (List.length_filter_le _ _) (Nat.le_trans (List.length_take_le' _ _) hks)
            refine ⟨_, rfl, .inl ⟨rfl, _, SqL.of M.cl_⟩, _, rfl, cl, _, _, rfl, rfl, M.cl_, small_lt (by omega), ?_⟩
            refine ⟨_, _, _, _, _, ws, cs ++ [.str k], rfl, M.toCl, by omega, ?_, ?_⟩
            · rw [sn1]
              simp only [Option.getD_none, Option.map_none, Option.toList_none, List.append_nil]
              exact Reps.keep (Tk.lst M.cl_) wr
            · rw [sn2, ec]
              simp
          · have hya : oy = oa := by
              have e : encO oy = encO oa := by simpa using z
              exact encO_inj e
            have hm : mergeOne oa om oy = some om := by
              unfold mergeOne
              rw [if_pos (.inr hya)]
            rw [hm] at sn1
            refine merged_fin (σ := [some (.ref up), some (.ref vp), some (.ref zp), some (.ref lo), some (.ref mi), some (.ref yo), some (.ref cl), some (.ref md), some (.str k), some (encO oa), some (encO om), some (encO oy), some (encO om)]) M wl wr sn1 (by omega) rfl rfl rfl fun ws' H' M' wl' wr' => ⟨_, _, _, _, _, ws', cs, rfl, M', wl', wr', ?_⟩
            rw [sn2, hm]
            simp [ec]
        · have hmy : om = oy := by
            have e : encO om = encO oy := by simpa using z
            exact encO_inj e
          have hm : mergeOne oa om oy = some om := by
            unfold mergeOne
            rw [if_pos (.inl hmy)]
          rw [hm] at sn1
          refine merged_fin (σ := [some (.ref up), some (.ref vp), some (.ref zp), some (.ref lo), some (.ref mi), some (.ref yo), some (.ref cl), some (.ref md), some (.str k), some (encO oa), some (encO om), some (encO oy), some (encO om)]) M wl wr sn1 (by omega) rfl rfl rfl fun ws' H' M' wl' wr' => ⟨_, _, _, _, _, ws', cs, rfl, M', wl', wr', ?_⟩
          rw [sn2, hm]
          simp [ec]
    · rintro σ Hi ⟨k8, k9, k10, k11, k12, ws, cs, rfl, M, wl, wr, ec⟩
      rw [List.length_map] at wl wr ec
      rw [List.take_length] at wr ec
      have cl1 : cs.length ≤ 60 := by
        rw [ec, List.length_map]
        exact Nat.le_trans (List.length_filter_le _ _) hks
      refine ⟨fun σ' H' => σ' = [some (.ref up), some (.ref vp), some (.ref zp), some (.ref lo), some (.ref mi), some (.ref yo), some (.ref cl), some (.ref md), k8, k9, k10, k11, k12] ∧ H' = Hi ∧ cs = [], ?_, ?_⟩
      · refine ⟨_, rfl, _, .inl ⟨cs, SqL.of M.cl_, rfl⟩, ?_⟩
        cases hcs : cs with
        | cons a r =>
          refine iteT ?_
          have hne : clashL fs gs hs ks ≠ [] := fun e => by
            rw [ec, e] at hcs
            cases hcs
          rw [← hcs]
          refine ⟨_, rfl, cl, _, rfl, .inl ⟨SqL.of M.cl_, fun l hl => ⟨(by show 2 ≤ sizeLine; decide), fun r hr => ?_⟩⟩⟩
          have M2 := (M.fresh (o := .tup cs) hl).fresh (o := .tup [.str "clash", .ref l]) hr
          refine kk (.ref r) ks _ M2.same asc memk (fun e => absurd e hne) fun _ => ?_
          exact told_rep upd_same (by rw [upd_ne (ne_of_none upd_same hr)]; exact upd_same) (small_of (by omega)) (by rw [ec]; exact strs_reps _)
        | nil =>
          refine iteF ⟨_, rfl, md, _, rfl, .inl (SqL.of M.md_), _, _, rfl, rfl, _, rfl, ite2 (fun z => absurd (of_decide_eq_true z) (by omega)) (fun _ => ⟨rfl, rfl, rfl⟩)⟩
      · rintro σ' H' ⟨rfl, rfl, rfl⟩
        have hnil : clashL fs gs hs ks = [] := by
          cases e : clashL fs gs hs ks with
          | nil => rfl
          | cons a b => rw [e] at ec; cases ec
        refine st_ret (te_tup (ta_cons (te_c (ta_cons (te_make (ta_cons (te_v rfl (ta_nil ?_))))))))
        refine mk_leaf (v := .ref md) (fs := madeL fs gs hs ks) ⟨md, ws, rfl, trivial, .inr M.md_, small_of (by omega), Reps.loose wr⟩ (made_good gok hok asc hks) fun d H2 s2 tr => ?_
        refine ta_nil ⟨(by show 2 ≤ sizeLine; decide), fun t ht => ?_⟩
        have s3 : Same H2 (upd H2 t (.tup [.str "tree", .ref d])) := Same.new ht
        exact kk (.ref t) ks _ (fun b o e => s3 b o (s2 b o (M.same b o e))) asc memk (fun _ => ⟨t, d, rfl, .inl upd_same, tr.same s3⟩) (fun e => absurd hnil e)
end
end Kl

namespace Kl
open PySem L2 Kd
/-! what the law says of files, purely -/
theorem applyE_val : ∀ (es : Es) (fs : Fs) (p : Str), (es.map (·.1)).Nodup → valF (applyE fs es) p = (valF es p).getD (valF fs p)
  | [], _, _, _ => rfl
  | (k, o) :: r, fs, p, nd => by
    rw [List.map_cons, List.nodup_cons] at nd
    have ih := applyE_val r (stepE fs (k, o)) p nd.2
    have e : applyE fs ((k, o) :: r) = applyE (stepE fs (k, o)) r := rfl
    rw [e, ih]
    have sv : valF (stepE fs (k, o)) p = if p = k then o else valF fs p := by
      cases o with
      | none => exact valF_drop fs k p
      | some c => exact valF_put fs k p c
    by_cases h : p = k
    · subst h
      have hn : valF r p = none := by
        cases e : valF r p with
        | none => rfl
        | some c => exact absurd (valF_isSome.mp (by rw [e]; rfl)) nd.1
      rw [hn, sv, if_pos rfl, valF_pos (q := (p, o)) (r := r) rfl]
      rfl
    · rw [sv, if_neg h, valF_neg (q := (k, o)) (r := r) (fun z => h z.symm)]
theorem pick_val {α : Type} (f : Str → Option α) : ∀ (ks : List Str) (p : Str), valF (ks.filterMap fun k => (f k).map fun c => (k, c)) p = if p ∈ ks then f p else none
  | [], p => rfl
  | k :: r, p => by
    have ih := pick_val f r p
    rw [List.filterMap_cons]
    cases e : f k with
    | none =>
      rw [Option.map_none]
      show valF (r.filterMap fun k => (f k).map fun c => (k, c)) p = _
      rw [ih]
      by_cases h : p = k
      · subst h
        rw [if_pos (List.mem_cons_self ..), e]
        split <;> rfl
      · have : (p ∈ k :: r) ↔ p ∈ r := by
          rw [List.mem_cons]
          exact ⟨fun z => z.resolve_left h, .inr⟩
        simp only [this]
    | some c =>
      rw [Option.map_some]
      show valF ((k, c) :: r.filterMap fun k => (f k).map fun c => (k, c)) p = _
      by_cases h : p = k
      · subst h
        rw [if_pos (List.mem_cons_self ..), e, valF_pos (q := (p, c)) rfl]
      · have : (p ∈ k :: r) ↔ p ∈ r := by
          rw [List.mem_cons]
          exact ⟨fun z => z.resolve_left h, .inr⟩
        rw [valF_neg (q := (k, c)) (fun z => h z.symm), ih]
        simp only [this]
theorem pick_keys {α : Type} (f : Str → Option α) : ∀ ks : List Str, ((ks.filterMap fun k => (f k).map fun c => (k, c)).map (·.1)).Sublist ks
  | [] => List.Sublist.slnil
  | k :: r => by
    have ih := pick_keys f r
    rw [List.filterMap_cons]
    cases e : f k with
    | none =>
      rw [Option.map_none]
      exact ih.cons k
    | some c =>
      rw [Option.map_some]
      exact ih.cons₂ k
theorem betweenL_val (fs gs : Fs) (ks : List Str) (p : Str) : valF (betweenL fs gs ks) p = if p ∈ ks then betw (valF fs p) (valF gs p) else none := pick_val (fun p => betw (valF fs p) (valF gs p)) ks p
theorem betweenL_asc (fs gs : Fs) {ks : List Str} (h : Asc ks) : Asc ((betweenL fs gs ks).map (·.1)) := List.Pairwise.sublist (pick_keys _ ks) h
theorem madeL_val (fs gs hs : Fs) (ks : List Str) (p : Str) : valF (madeL fs gs hs ks) p = if p ∈ ks then (mergeOne (valF fs p) (valF gs p) (valF hs p)).getD none else none := pick_val (fun p => (mergeOne (valF fs p) (valF gs p) (valF hs p)).getD none) ks p
theorem madeL_asc (fs gs hs : Fs) {ks : List Str} (h : Asc ks) : Asc ((madeL fs gs hs ks).map (·.1)) := List.Pairwise.sublist (pick_keys _ ks) h
abbrev Keys2 (ks : List Str) (fs gs : Fs) : Prop := ∀ p, p ∈ ks ↔ p ∈ fs.map (·.1) ∨ p ∈ gs.map (·.1)
abbrev Keys3 (ks : List Str) (fs gs hs : Fs) : Prop := ∀ p, p ∈ ks ↔ (p ∈ fs.map (·.1) ∨ p ∈ gs.map (·.1)) ∨ p ∈ hs.map (·.1)
theorem val_out {fs : Fs} {p : Str} (h : p ∉ fs.map (·.1)) : valF fs p = none := by
  cases e : valF fs p with
  | none => rfl
  | some c => exact absurd (valF_isSome.mp (by rw [e]; rfl)) h
theorem betw_eq {a b : Option Str} : (betw a b).getD a = b := by
  cases b with
  | none =>
    cases a with
    | none => rfl
    | some c => rfl
  | some c =>
    show (if a = some c then (none : Option (Option Str)) else some (some c)).getD a = _
    by_cases h : a = some c
    · rw [if_pos h, h]
      rfl
    · rw [if_neg h]
      rfl
/-- what changes between two, done, makes the other -/
theorem between_val {fs gs : Fs} {ks : List Str} (asc : Asc ks) (mem : Keys2 ks fs gs) (p : Str) : valF (applyE fs (betweenL fs gs ks)) p = valF gs p := by
  rw [applyE_val _ _ _ (betweenL_asc fs gs asc).nodup, betweenL_val]
  by_cases h : p ∈ ks
  · rw [if_pos h]
    exact betw_eq
  · rw [if_neg h]
    have h2 := fun z => h ((mem p).mpr z)
    rw [val_out fun z => h2 (.inr z)]
    exact val_out fun z => h2 (.inl z)
theorem EOk.between {fs gs : Fs} {ks : List Str} (fok : FOk fs) (gok : FOk gs) (asc : Asc ks) (mem : Keys2 ks fs gs) : EOk (betweenL fs gs ks) := by
  have hk : ∀ p ∈ ks, p ∈ allPaths := fun p hp => by
    rcases (mem p).mp hp with h | h
    · obtain ⟨q, hq, e⟩ := List.mem_map.mp h
      rw [← e]
      exact fok.path q hq
    · obtain ⟨q, hq, e⟩ := List.mem_map.mp h
      rw [← e]
      exact gok.path q hq
  refine ⟨(betweenL_asc fs gs asc).nodup, fun q hq => hk _ ((pick_keys _ ks).subset (List.mem_map.mpr ⟨q, hq, rfl⟩)), fun q hq c hc => ?_⟩
  have hv := valF_mem (betweenL_asc fs gs asc).nodup (p := q.1) (c := q.2) hq
  rw [betweenL_val] at hv
  split at hv
  · rw [hc] at hv
    unfold betw at hv
    split at hv
    · split at hv <;> cases hv
    · rename_i d e
      split at hv
      · cases hv
      · obtain rfl : d = c := Option.some.inj (Option.some.inj hv)
        exact gok.ct _ (valF_some e)
  · cases hv
/-- none changes: they are one -/
theorem between_nil {fs gs : Fs} {ks : List Str} (fa : Asc (fs.map (·.1))) (ga : Asc (gs.map (·.1))) (asc : Asc ks) (mem : Keys2 ks fs gs) (h : betweenL fs gs ks = []) : fs = gs := by
  refine fs_unique fa ga fun p => ?_
  have e := between_val asc mem p
  rw [h] at e
  exact e
theorem one_self (a m : Option Str) : mergeOne a m m = some m := by
  unfold mergeOne
  rw [if_pos (.inl rfl)]
theorem one_base (a m : Option Str) : mergeOne a m a = some m := by
  unfold mergeOne
  rw [if_pos (.inr rfl)]
theorem one_base2 (a y : Option Str) : mergeOne a a y = some y := by
  unfold mergeOne
  by_cases h : a = y ∨ y = a
  · rw [if_pos h]
    rcases h with h | h
    · rw [h]
    · rw [h]
  · rw [if_neg h, if_pos rfl]
theorem one_swap (a m y : Option Str) : mergeOne a m y = mergeOne a y m := by
  by_cases h1 : m = y
  · rw [h1]
  · by_cases h2 : y = a
    · rw [h2, one_base, one_base2]
    · by_cases h3 : m = a
      · rw [h3, one_base, one_base2]
      · unfold mergeOne
        rw [if_neg (fun z => z.elim h1 h2), if_neg h3, if_neg (fun z => z.elim (fun e => h1 e.symm) h3), if_neg h2]
theorem clash_swap (fs gs hs : Fs) (ks : List Str) : clashL fs gs hs ks = clashL fs hs gs ks := by
  unfold clashL
  congr 1
  funext p
  rw [one_swap]
theorem made_swap (fs gs hs : Fs) (ks : List Str) : madeL fs gs hs ks = madeL fs hs gs ks := by
  unfold madeL
  congr 1
  funext p
  rw [one_swap]
theorem clash_none {fs gs hs : Fs} {ks : List Str} (h : ∀ p, (mergeOne (valF fs p) (valF gs p) (valF hs p)).isSome = true) : clashL fs gs hs ks = [] := by
  refine List.filter_eq_nil_iff.mpr fun p _ => ?_
  have := h p
  cases e : mergeOne (valF fs p) (valF gs p) (valF hs p) with
  | none => rw [e] at this; cases this
  | some c => exact fun z => nomatch z
theorem made_is {fs gs hs r : Fs} {ks : List Str} (asc : Asc ks) (ra : Asc (r.map (·.1))) (sub : ∀ p, p ∈ r.map (·.1) → p ∈ ks) (h : ∀ p, mergeOne (valF fs p) (valF gs p) (valF hs p) = some (valF r p)) : madeL fs gs hs ks = r := by
  refine fs_unique (madeL_asc fs gs hs asc) ra fun p => ?_
  rw [madeL_val]
  by_cases hp : p ∈ ks
  · rw [if_pos hp, h]
    rfl
  · rw [if_neg hp, val_out fun z => hp (sub p z)]
/-- ours and ours -/
theorem made_self {fs gs : Fs} {ks : List Str} (asc : Asc ks) (ga : Asc (gs.map (·.1))) (mem : Keys3 ks fs gs gs) : madeL fs gs gs ks = gs :=
  made_is asc ga (fun p hp => (mem p).mpr (.inr hp)) fun p => one_self _ _
theorem made_base {fs gs : Fs} {ks : List Str} (asc : Asc ks) (ga : Asc (gs.map (·.1))) (mem : Keys3 ks fs gs fs) : madeL fs gs fs ks = gs :=
  made_is asc ga (fun p hp => (mem p).mpr (.inl (.inr hp))) fun p => one_base _ _
theorem made_base2 {fs gs : Fs} {ks : List Str} (asc : Asc ks) (ga : Asc (gs.map (·.1))) (mem : Keys3 ks fs fs gs) : madeL fs fs gs ks = gs :=
  made_is asc ga (fun p hp => (mem p).mpr (.inr hp)) fun p => one_base2 _ _
theorem Keys2.one {ks ls : List Str} {fs gs : Fs} (a : Asc ks) (b : Asc ls) (h : Keys2 ks fs gs) (k : Keys2 ls fs gs) : ks = ls := a.unique b fun p => (h p).trans (k p).symm
theorem Keys3.one {ks ls : List Str} {fs gs hs : Fs} (a : Asc ks) (b : Asc ls) (h : Keys3 ks fs gs hs) (k : Keys3 ls fs gs hs) : ks = ls := a.unique b fun p => (h p).trans (k p).symm
theorem Keys3.swap {ks : List Str} {fs gs hs : Fs} (h : Keys3 ks fs gs hs) : Keys3 ks fs hs gs := fun p => (h p).trans ⟨fun z => by
  rcases z with (z | z) | z
  · exact .inl (.inl z)
  · exact .inr z
  · exact .inl (.inr z), fun z => by
  rcases z with (z | z) | z
  · exact .inl (.inl z)
  · exact .inr z
  · exact .inl (.inr z)⟩
theorem in_all {fs gs hs : Fs} (fok : FOk fs) (gok : FOk gs) (hok : FOk hs) : ∀ p, (p ∈ fs.map (·.1) ∨ p ∈ gs.map (·.1)) ∨ p ∈ hs.map (·.1) → p ∈ allPaths := fun p h => by
  have one : ∀ {l : Fs}, FOk l → p ∈ l.map (·.1) → p ∈ allPaths := fun ok h => by
    obtain ⟨q, hq, e⟩ := List.mem_map.mp h
    rw [← e]
    exact ok.path q hq
  rcases h with (h | h) | h
  · exact one fok h
  · exact one gok h
  · exact one hok h
abbrev lowF : Fs := [("a", "0"), ("b", "0"), ("c", "0")]
abbrev highF : Fs := [("a", "1"), ("b", "1"), ("c", "1")]
abbrev midF : Fs := [("b", "2"), ("c", "1")]
theorem in_one {q x : Str} {ys : List Str} (h : q ∈ [x]) (k : x ∈ ys) : q ∈ ys := by
  rw [List.mem_singleton.mp h]
  exact k
abbrev ab : List Str := ["a", "b"]
abbrev abc : List Str := ["a", "b", "c"]
theorem abc_asc : Asc abc := by decide +kernel
theorem abc_of {ks : List Str} {gs hs : Fs} (h : Asc ks) (mem : Keys3 ks lowF gs hs) (hg : ∀ p ∈ gs.map (·.1), p ∈ abc) (hh : ∀ p ∈ hs.map (·.1), p ∈ abc) : ks = abc := by
  have e : lowF.map (·.1) = abc := rfl
  refine h.unique abc_asc fun p => (mem p).trans ⟨fun z => ?_, fun z => .inl (.inl (by rw [e]; exact z))⟩
  rcases z with (z | z) | z
  · rw [e] at z
    exact z
  · exact hg p z
  · exact hh p z
theorem low_clash : clashL lowF highF midF abc = ab := by decide +kernel
theorem low_none : clashL lowF [(("b" : Str), ("0" : Str))] [(("c" : Str), ("0" : Str))] abc = [] := by decide +kernel
theorem low_made : madeL lowF [(("b" : Str), ("0" : Str))] [(("c" : Str), ("0" : Str))] abc = [] := by decide +kernel
/-! one file bent -/
theorem good_drop {fs : Fs} (h : Good fs) : Good (fs.drop 1) := ⟨fun q hq => h.ok q (List.mem_of_mem_drop hq), by rw [List.map_drop]; exact List.Pairwise.sublist (List.drop_sublist _ _) h.asc, by have := h.few; rw [List.length_drop]; omega⟩
theorem drop_ne {fs : Fs} (h : fs ≠ []) : fs ≠ fs.drop 1 := fun e => by
  have l := congrArg List.length e
  rw [List.length_drop] at l
  have : 0 < fs.length := List.length_pos_iff.mpr h
  omega
theorem good_set {fs : Fs} (h : Good fs) {i : Nat} {q : Str × Str} (hq : fs[i]? = some q) {c : Str} (hc : Cont c) : Good (fs.set i (q.1, c)) := by
  have hk : (fs.set i (q.1, c)).map (·.1) = fs.map (·.1) := by
    rw [List.map_set]
    refine List.ext_getElem? fun j => ?_
    rw [List.getElem?_set]
    split
    · rename_i e
      subst e
      rw [List.getElem?_map, hq]
      have hi := (List.getElem?_eq_some_iff.mp hq).1
      simp [hi]
    · rfl
  refine ⟨fun z hz => ?_, by rw [hk]; exact h.asc, by rw [List.length_set]; exact h.few⟩
  rcases List.mem_or_eq_of_mem_set hz with e | e
  · exact h.ok z e
  · subst e
    have o := h.ok q (List.mem_of_getElem? hq)
    exact ⟨o.path, o.len, hc, o.lay⟩
theorem ct_no {m : Nat} {x : Str} (h : Ct m x) : (33 : Nat) ∉ x.cps.toList := fun z => by
  have := h.all 33 z
  exact absurd this (by decide)
theorem set_ne {fs : Fs} (h : FOk fs) {i : Nat} {q : Str × Str} (hq : fs[i]? = some q) {c p : Str} (hc : (33 : Nat) ∈ c.cps.toList) : fs ≠ fs.set i (p, c) := fun e => by
  have hi := (List.getElem?_eq_some_iff.mp hq).1
  have e1 : fs[i]? = some (p, c) := by
    rw [e, List.getElem?_set]
    simp [hi]
  rw [hq] at e1
  have := h.ct q (List.mem_of_getElem? hq)
  rw [Option.some.inj e1] at this
  exact ct_no this hc
theorem zz_above : ∀ p ∈ allPaths, Lt p "zz/zz" := by decide +kernel
theorem zz_path : PairOk ("zz/zz", "") := ⟨by decide +kernel, by decide +kernel, ⟨by decide +kernel, fun c hc => absurd hc (by rw [show ("" : Str).cps.toList = [] from by decide +kernel]; exact List.not_mem_nil)⟩, by decide +kernel⟩
theorem good_last {fs : Fs} (h : FOk fs) (a : Asc (fs.map (·.1))) {c : Str} (hc : Cont c) (hl : fs.length ≤ 60) : Good (fs.dropLast ++ [(("zz/zz" : Str), c)]) := by
  have g := h.good a
  refine ⟨fun q hq => ?_, ?_, ?_⟩
  · rcases List.mem_append.mp hq with hq | hq
    · exact g.ok q ((List.dropLast_sublist fs).subset hq)
    · rw [List.mem_singleton.mp hq]
      exact ⟨zz_path.path, zz_path.len, hc, zz_path.lay⟩
  · rw [List.map_append, List.map_dropLast]
    refine List.pairwise_append.mpr ⟨List.Pairwise.sublist (List.dropLast_sublist _) a, List.pairwise_singleton _ _, fun x hx y hy => ?_⟩
    rw [List.mem_singleton.mp hy]
    obtain ⟨q, hq, e⟩ := List.mem_map.mp ((List.dropLast_sublist _).subset hx)
    rw [← e]
    exact zz_above _ (h.path q hq)
  · rw [List.length_append, List.length_dropLast]
    simp only [List.length_cons, List.length_nil]
    omega
theorem last_ne {fs : Fs} (h : FOk fs) {c : Str} : fs ≠ fs.dropLast ++ [(("zz/zz" : Str), c)] := fun e => by
  have hm : (("zz/zz", c) : Str × Str) ∈ fs := by
    rw [e]
    simp
  have hn : ("zz/zz" : Str) ∉ allPaths := by decide +kernel
  exact hn (h.path _ hm)
end Kl

namespace Ks
open PySem PySem.Spec PyProof.Rows L2
/-- a def called with all its parameters by name -/
structure CalK (P : Program) (w : World) (K : PySem.W.Frag) (mg : Str → Option Value) (base : Heap) (k : Nat) (x : Str) (ks : List Str) (sp : Sp) : Prop where
  ex : ∃ (f : Addr) (fd : FuncData) (ps : List Str), FnOk P w K mg base C8.CX0 k f fd ps sp ∧ mg x = some (.ref f) ∧ PySem.W.keepIn K (.ref f) = true ∧ (∀ (s : Shared) (ws : List Value), K.In s.heap → ws.length = ks.length → BindsTo s fd ⟨[], ks.zip ws⟩ (ps.zip ws))
def tCallW (n : Nat) (sp : Sp) (tk : TA) : TE := fun σ H Q => tk σ H fun zs H2 => zs.length = n ∧ sp zs H2 Q C8.E0
section
variable {X : Cx} {k j : Nat} {x : Str} {ks : List Str} {sp : Sp} {p pos : Pos} {kws : List Keyword} {tk : TA}
theorem pe_k (c : CalK X.prog X.w X.K X.mg X.base k x ks sp) (hr : Room j X.A) (hk : k ≤ j) (hg : Gl X x) (hkw : PK X kws tk)
    (hall : (backToKw pos (keywordEach kws X.env)).all (·.1.isSome) = true := by rfl) (hks : (backToKw pos (keywordEach kws X.env)).filterMap (·.1) = ks := by rfl) (hdb : (x == ("__debug__" : Str)) = false := by decide)
    (hpl : ((backTo pos (starEach [] X.env)).any (·.1) || (backToKw pos (keywordEach kws X.env)).any (·.1.isNone)) = false := by rfl) :
    PE X (.Call (.Name x p) [] kws pos) (tCallW ks.length sp tk) := by
  obtain ⟨f, fd, ps, F, hm, kp, hb⟩ := c.ex
  refine ⟨fun pins s σ H Q I h => ?_⟩
  refine wpAny_Call_Name_kw (ld_glob I hg hm ?_ hdb)
  refine PySem.W.callWith_KW0 (h₀ := X.base) I.ok.mod.kin kp hall ?_ hpl
  refine thn (hkw.run pos pins s σ H _ I h) fun ws s2 ⟨zs, H2, I2, rz, l2, q2⟩ => ⟨I2.kIn, ?_⟩
  rw [hks]
  refine wpAny_call (codeAny_mono (F.run X.A X.stack s2 H2 ⟨[], ks.zip ws⟩ ws zs Q C8.E0 (hr.mono hk) I2.env0 (hb s2 ws I2.kIn (rz.length.symm.trans l2)) rz q2) fun r s' hq => ?_)
  cases r with
  | error e => exact False.elim hq
  | ok fl =>
    cases fl with
    | ret u => exact I2.after hq
    | next => exact False.elim hq
    | brk => exact False.elim hq
    | cont => exact False.elim hq
end
/-- a class made by one keyword -/
structure MakK (P : Program) (w : World) (K : PySem.W.Frag) (mg : Str → Option Value) (base : Heap) (k : Nat) (x : Str) (C : Addr) (ks : List Str) (sp : Sp) : Prop where
  ex : ∃ (f : Addr) (fd : FuncData) (ps : List Str) (g : List Value → List Value → List Value), Mk K C f ∧ FnOk P w K mg base C8.CX0 k f fd ps sp ∧ mg x = some (.ref C) ∧ KBn K fd ps 1 ks g (fun vs zs => vs ++ zs)
theorem pe_mkk {X : Cx} {k j : Nat} {x : Str} {C : Addr} {ks : List Str} {sp : Sp} {p pos : Pos} {kws : List Keyword} {tk : TA} (c : MakK X.prog X.w X.K X.mg X.base k x C ks sp) (hr : Room j X.A) (hk : k + 1 ≤ j) (hg : Gl X x) (hkw : PK X kws tk)
    (hall : (backToKw pos (keywordEach kws X.env)).all (·.1.isSome) = true := by rfl) (hks : (backToKw pos (keywordEach kws X.env)).filterMap (·.1) = ks := by rfl) (hdb : (x == ("__debug__" : Str)) = false := by decide)
    (hpl : ((backTo pos (starEach [] X.env)).any (·.1) || (backToKw pos (keywordEach kws X.env)).any (·.1.isNone)) = false := by rfl) :
    PE X (.Call (.Name x p) [] kws pos) (tMakeK C 0 ks.length sp (fun vs zs => vs ++ zs) C8.E0 tNil tk) := by
  obtain ⟨f, fd, ps, g, M, F, hm, hb⟩ := c.ex
  exact pe_makeK0 M F (hr.mono hk) hg hm hb C8.pass0 hkw hall hks hdb hpl
end Ks

namespace Kl
open PySem L2 Kd
theorem te_orv {ta tb : TE} {σ : L2.St} {H : Hp} {Q : VK} (h : ta σ H fun x H1 => ∃ c, x = .bl c ∧ if c = true then Q (.bl true) H1 else tb σ H1 Q) : tOrV ta tb σ H Q := h
theorem te_andv {ta tb : TE} {σ : L2.St} {H : Hp} {Q : VK} (h : ta σ H fun x H1 => ∃ c, x = .bl c ∧ if c = true then tb σ H1 Q else Q (.bl false) H1) : tAndV ta tb σ H Q := h
end Kl

namespace Kl
open PySem L2 Kd
/-! more steps -/
theorem te_makek {C : Addr} {sp : Sp} {gV : List V → List V → List V} {E : XK} {n m : Nat} {tk : TA} {σ : L2.St} {H : Hp} {Q : VK} (h0 : n = 0) (h : tk σ H fun zs H2 => zs.length = m ∧ ∀ x dx, H2 x = none → H2 dx = none → dx ≠ x → sp (gV [.ref x] zs) (upd (upd H2 dx (.own x)) x (.ins C dx [])) (fun v H3 => v = .non ∧ Q (.ref x) H3) E) : tMakeK C n m sp gV E tNil tk σ H Q := by
  subst h0
  show tk σ H _
  refine cast (congrArg _ ?_) h
  funext zs H2
  exact propext ⟨fun z => ⟨rfl, z⟩, fun z => z.2⟩
theorem te_callw {n : Nat} {sp : Sp} {tk : TA} {σ : L2.St} {H : Hp} {Q : VK} (h : tk σ H fun zs H2 => zs.length = n ∧ sp zs H2 Q C8.E0) : Ks.tCallW n sp tk σ H Q := h
theorem te_sl {r : V → Option Int → Option Int → Hp → VK → Prop} {te : TE} {tl th : TO} {σ : L2.St} {H : Hp} {Q : VK} (h : te σ H fun x H1 => tl σ H1 fun l H2 => th σ H2 fun u H3 => r x l u H3 Q) : tSl r te tl th σ H Q := h
theorem to_part {t : TE} {σ : L2.St} {H : Hp} {Q : Option Int → Hp → Prop} (h : t σ H fun x H1 => ∃ i, x = .int i ∧ Q (some i) H1) : tPart t σ H Q := h
theorem to_no {σ : L2.St} {H : Hp} {Q : Option Int → Hp → Prop} (h : Q none H) : tNoPart σ H Q := h
theorem te_un {r : V → Hp → VK → Prop} {ta : TE} {σ : L2.St} {H : Hp} {Q : VK} (h : ta σ H fun x H1 => r x H1 Q) : tUn r ta σ H Q := h
theorem tt_and {t u : TT} {σ : L2.St} {H : Hp} {Q : Bool → Hp → Prop} (h : t σ H fun c H1 => if c = true then u σ H1 Q else Q false H1) : tAnd t u σ H Q := h
/-- files[i] -/
theorem file_at {K : PySem.W.Frag} {ft : Addr} {fs : Fs} {H : Hp} {Q : VK} {i : Int} {j : Nat} {q : Str × Str} (hf : Rep H (filesD fs) (.ref ft)) (hi : ∀ vs : List V, vs.length = fs.length → ixN vs.length i = some j) (hq : fs[j]? = some q) (k : ∀ t : Addr, Rd H t (.tup [.str q.1, .str q.2]) → Q (.ref t) H) :
    rIxT K (.ref ft) (.int i) H Q := by
  obtain ⟨t, vs, e, h, hz, r⟩ := hf
  cases e
  have hl := r.len
  rw [List.length_map] at hl
  obtain ⟨v, hv, hrep⟩ := r.get (i := j) (d := pairD q) (by rw [List.getElem?_map, hq]; rfl)
  obtain ⟨t, rfl, ht⟩ := pair_of hrep
  refine ⟨ft, vs, i, .ref t, rfl, rfl, .inl h, ?_, k t ht⟩
  unfold atI
  rw [hi vs hl]
  exact hv
theorem pair0 {K : PySem.W.Frag} {t : Addr} {x y : Str} {H : Hp} {Q : VK} (ht : Rd H t (.tup [.str x, .str y])) (k : Q (.str x) H) : rIxT K (.ref t) (.int 0) H Q := ⟨t, _, 0, _, rfl, rfl, .inl ht, rfl, k⟩
theorem pair1 {K : PySem.W.Frag} {t : Addr} {x y : Str} {H : Hp} {Q : VK} (ht : Rd H t (.tup [.str x, .str y])) (k : Q (.str y) H) : rIxT K (.ref t) (.int 1) H Q := ⟨t, _, 1, _, rfl, rfl, .inl ht, rfl, k⟩
theorem ta_strs {xs : List Str} {σ : L2.St} {H : Hp} {Q : List V → Hp → Prop} (h : Q (xs.map V.str) H) : tStrs xs σ H Q := h
theorem te_op {r : R2} {ta tb : TE} {σ : L2.St} {H : Hp} {Q : VK} (h : ta σ H fun x H1 => tb σ H1 fun y H2 => r x y H2 Q) : tOp r ta tb σ H Q := h
theorem tt_or {t u : TT} {σ : L2.St} {H : Hp} {Q : Bool → Hp → Prop} (h : t σ H fun c H1 => if c = true then Q true H1 else u σ H1 Q) : tOr t u σ H Q := h
theorem te_drop {te : TE} {D : Ends} {σ : L2.St} {H : Hp} (h : te σ H fun _ H1 => D.nx σ H1) : tDrop te D σ H := h
theorem rep_two {H : Hp} {nm : Str} {d : Kd.D} {v : V} (h : Rep H (.tup [.str nm, d]) v) : ∃ (t : Addr) (u : V), v = .ref t ∧ Rd H t (.tup [.str nm, u]) ∧ Rep H d u := by
  obtain ⟨t, vs, rfl, ht, _, x, r, rfl, hx, y, r2, rfl, hy, hn⟩ := h
  cases (show r2 = [] from hn)
  cases (show x = V.str nm from hx)
  exact ⟨t, y, rfl, ht, hy⟩
abbrev Cell (H : Hp) (b : Addr) : Prop := ∃ i : Int, 0 ≤ i ∧ H b = some (.lst [.int i])
theorem Rep.go {b : Addr} {H H' : Hp} {d : D} {v : V} (c : Cell H b) (g : Go b H H') (h : Rep H d v) : Rep H' d v := h.keep (g.tk c)
theorem TreeAt.go {C b : Addr} {H H' : Hp} {a : Addr} {fs : Fs} (c : Cell H b) (g : Go b H H') (h : TreeAt C H a fs) : TreeAt C H' a fs := by
  obtain ⟨dx, t, ob, vs, h1, h2, h3, h4, h5⟩ := h
  obtain ⟨i, _, q⟩ := id c
  exact ⟨dx, t, ob, vs, g.keep _ _ (ne_of h1 q (fun z => nomatch z)) h1, g.keep _ _ (ne_of h2 q (fun z => nomatch z)) h2, h3, h4, h5.keep (g.tk c)⟩
end Kl

namespace Kl
open PySem L2 Kd
def goodB (fs : Fs) : Bool := fs.all (fun q => pathB q.1 && (decide (q.1.length ≤ 1000) && (decide (q.2.length ≤ 1000) && (q.2.cps.toList.all (fun c => c == 10 || okx c) && PyData.canLay0 (.str q.1))))) && (decide (Asc (fs.map (·.1))) && decide (fs.length ≤ 60))
theorem good_of {fs : Fs} (h : goodB fs = true) : Good fs := by
  unfold goodB at h
  simp only [Bool.and_eq_true, decide_eq_true_eq, List.all_eq_true] at h
  refine ⟨fun q hq => ?_, h.2.1, h.2.2⟩
  obtain ⟨h1, h2, h3, h4, h5⟩ := h.1 q hq
  refine ⟨h1, h2, ⟨h3, fun c hc => ?_⟩, h5⟩
  have := h4 c hc
  rw [Bool.or_eq_true] at this
  exact this.imp eq_of_beq id
end Kl

namespace Kl
open PySem L2 Kd
structure TreeQ (P : Program) (w : World) (K : PySem.W.Frag) (mg : Str → Option Value) (base : Heap) (C : Addr) : Prop where
  tp : TreeP P w K mg base C
  eq : ∃ (f : Addr) (fd : FuncData), FnOk P w K mg base CX0 1 f fd ["self", "other"] (spTEq K C) ∧ PySem.W.findIn K (.ref C) "__eq__" = some (some (.ref f)) ∧ PySem.W.isFn K (.ref f) = true ∧ Binds K fd ["self", "other"] []
theorem op_teq {X : Cx} {C : Addr} {j : Nat} (c : TreeQ X.prog X.w X.K X.mg X.base C) (hr : Room j X.A) (hj : 1 ≤ j) : OpR X (compareOp .Eq) (Ks.rOwnI X.K C (spTEq X.K C) C8.E0) := by
  obtain ⟨f, fd, F, h1, h2, h3⟩ := c.eq
  exact Ks.op_ownI F h1 h2 h3 (hr.mono hj) C8.pass0
theorem eq_tree {K : PySem.W.Frag} {mg : Str → Option Value} {C : Addr} {H : Hp} {Q : VK} {a b : Addr} {fs gs : Fs} (F : TreeF K mg C) (ha : TreeAt C H a fs) (hg : ∀ q ∈ fs, PairOk q) (hb : TreeAt C H b gs) (hk : ∀ q ∈ gs, PairOk q) (q : Q (.bl (decide (fs = gs))) H) :
    Ks.rOwnI K C (spTEq K C) C8.E0 (.ref a) (.ref b) H Q := by
  obtain ⟨dx, t, o, vs, h1, h2⟩ := id ha
  exact ⟨a, dx, _, .ref C, rfl, h1, hb.ty F, F.fC, a, .ref b, fs, rfl, ha, hg, .inl ⟨b, gs, rfl, hb, hk, q⟩⟩
theorem eq_other {K : PySem.W.Frag} {C : Addr} {H : Hp} {Q : VK} {a : Addr} {fs : Fs} {y : V} {t : String} (ty : TyX K H y (.type t)) (h1 : PySem.W.notFirst K C (.type t) = true) (h2 : PySem.W.kitOne K (.type t) (.ref C) = some false) (ha : TreeAt C H a fs) (hg : ∀ q ∈ fs, PairOk q) (q : Q (.bl false) H) :
    Ks.rOwnI K C (spTEq K C) C8.E0 (.ref a) y H Q := by
  obtain ⟨dx, u, o, vs, e1, e2⟩ := id ha
  exact ⟨a, dx, _, .type t, rfl, e1, ty, h1, a, y, fs, rfl, ha, hg, .inr ⟨.type t, ty, h2, q⟩⟩
theorem TreeAt.upd {C : Addr} {H : Hp} {a p : Addr} {fs : Fs} {xs : List V} {o : HO} (h : TreeAt C H a fs) (e : H p = some (.lst xs)) : TreeAt C (L2.upd H p o) a fs := by
  obtain ⟨dx, t, ob, vs, h1, h2, h3, h4, h5⟩ := h
  exact ⟨dx, t, ob, vs, by rw [upd_ne (ne_of h1 e (fun z => nomatch z))]; exact h1, by rw [upd_ne (ne_of h2 e (fun z => nomatch z))]; exact h2, h3, h4, h5.keep (Tk.lst e)⟩
/-- what stands from the tree on -/
structure Fa (K : PySem.W.Frag) (C p b : Addr) (row : List Int) (fv : V) (fs : Fs) (tr : Addr) (H : Hp) : Prop where
  sp : Sp0 K p b row H
  hf : Rep H (filesD fs) fv
  ht : TreeAt C H tr fs
theorem Fa.go {K : PySem.W.Frag} {C p b : Addr} {row : List Int} {fv : V} {fs : Fs} {tr : Addr} {H H' : Hp} (A : Fa K C p b row fv fs tr H) (g : Go b H H') : Fa K C p b row fv fs tr H' := ⟨A.sp.go g, A.hf.keep (g.tk A.sp.cell), A.ht.go A.sp.cell g⟩
theorem Fa.same {K : PySem.W.Frag} {C p b : Addr} {row : List Int} {fv : V} {fs : Fs} {tr : Addr} {H H' : Hp} (A : Fa K C p b row fv fs tr H) (s : Same H H') : Fa K C p b row fv fs tr H' := A.go (Go.same A.sp.cell s)
/-- .. and the two edited ones -/
structure Fc (K : PySem.W.Frag) (C p b : Addr) (row : List Int) (fv : V) (fs : Fs) (tr ou th : Addr) (gs hs : Fs) (H : Hp) : Prop where
  A : Fa K C p b row fv fs tr H
  o : TreeAt C H ou gs
  t : TreeAt C H th hs
theorem Fc.same {K : PySem.W.Frag} {C p b : Addr} {row : List Int} {fv : V} {fs : Fs} {tr ou th : Addr} {gs hs : Fs} {H H' : Hp} (B : Fc K C p b row fv fs tr ou th gs hs H) (s : Same H H') : Fc K C p b row fv fs tr ou th gs hs H' := ⟨B.A.same s, B.o.same s, B.t.same s⟩
theorem dep_edit (es : Es) : Kd.D.dep (editD es) ≤ 2 := by
  have h : Kd.D.deps (es.map changeD) ≤ 1 := by
    induction es with
    | nil => exact Nat.zero_le _
    | cons q r ih =>
      obtain ⟨p, o⟩ := q
      cases o with
      | none =>
        have e : Kd.D.deps (((p, none) :: r : Es).map changeD) = max (max 0 (max 0 0) + 1) (Kd.D.deps (r.map changeD)) := rfl
        omega
      | some c =>
        have e : Kd.D.deps (((p, some c) :: r : Es).map changeD) = max (max 0 (max 0 (max 0 0)) + 1) (Kd.D.deps (r.map changeD)) := rfl
        omega
  show Kd.D.deps (es.map changeD) + 1 ≤ 2
  omega
theorem frz_rep {H : Hp} {t : Addr} {o : Obj} {vs : List V} {fs : Fs} (h1 : H t = some (.frz o (.tup vs))) (h3 : vs.length ≤ sizeLine) (h4 : Reps H (fs.map pairD) vs) : Rep H (filesD fs) (.ref t) := ⟨t, vs, rfl, .inr ⟨o, h1⟩, h3, h4⟩
theorem dep_files (fs : Fs) : Kd.D.dep (filesD fs) ≤ 2 := by
  have h : Kd.D.deps (fs.map pairD) ≤ 1 := by
    induction fs with
    | nil => exact Nat.zero_le _
    | cons q r ih =>
      have e : Kd.D.deps ((q :: r).map pairD) = max (max 0 (max 0 0) + 1) (Kd.D.deps (r.map pairD)) := rfl
      omega
  show Kd.D.deps (fs.map pairD) + 1 ≤ 2
  omega
theorem Reps.drop1 {H : Hp} : ∀ {ds : List Kd.D} {vs : List V}, Reps H ds vs → Reps H (ds.drop 1) (vs.drop 1)
  | [], _, h => by cases (show _ = [] from h); rfl
  | _ :: _, _, ⟨_, _, e, _, q⟩ => by subst e; exact q
theorem Reps.init {H : Hp} : ∀ {ds : List Kd.D} {vs : List V}, Reps H ds vs → Reps H ds.dropLast vs.dropLast
  | [], _, h => by cases (show _ = [] from h); rfl
  | [_], _, ⟨_, _, e, _, q⟩ => by
    subst e
    cases (show _ = [] from q)
    rfl
  | _ :: _ :: _, _, ⟨v, _, e, h, q⟩ => by
    subst e
    obtain ⟨v2, r2, e2, h2, q2⟩ := id q
    subst e2
    exact ⟨v, _, rfl, h, Reps.init q⟩
theorem cutV_one (vs : List V) : cutV vs (some 1) none = vs.drop 1 := by
  unfold cutV
  rw [HT.sIx_none, show (1 : Int) = ((1 : Nat) : Int) from rfl, HT.sIx_nat]
  by_cases h : 1 ≤ vs.length
  · rw [Nat.min_eq_left h, List.take_of_length_le (by rw [List.length_drop]; exact Nat.le_refl _)]
  · have e : vs = [] := List.length_eq_zero_iff.mp (by omega)
    rw [e]
    rfl
theorem sIx_last (n d : Nat) : HT.sIx n d (some (-1)) = n - 1 := by
  show (if (-1 : Int) < 0 then ((-1 : Int) + (n : Int)).toNat else min ((-1 : Int)).toNat n) = _
  rw [if_pos (by decide)]
  omega
theorem cutV_init (vs : List V) : cutV vs none (some (-1)) = vs.dropLast := by
  unfold cutV
  rw [HT.sIx_none, List.drop_zero, List.dropLast_eq_take]
  rw [sIx_last, Nat.sub_zero]
/-- files[1:] -/
theorem tail_ok {K : PySem.W.Frag} {ft : Addr} {fs : Fs} {H : Hp} {Q : VK} (hf : Rep H (filesD fs) (.ref ft)) (ne : fs ≠ []) (k : ∀ (q : Addr) (H' : Hp), Same H H' → Rep H' (filesD (fs.drop 1)) (.ref q) → Q (.ref q) H') :
    rSlA K (.ref ft) (some 1) none H Q := by
  obtain ⟨t, vs, e, h, hz, r⟩ := hf
  cases e
  have hl := r.len
  rw [List.length_map] at hl
  have hp : 0 < fs.length := List.length_pos_iff.mpr ne
  refine ⟨ft, vs, rfl, .inl h, fun z => ?_, fun _ q hq => ?_⟩
  · have z1 := z.1
    rw [show (1 : Int) = ((1 : Nat) : Int) from rfl, HT.sIx_nat] at z1
    omega
  · rw [cutV_one]
    have r1 := Reps.drop1 r
    rw [← List.map_drop] at r1
    exact k q _ (Same.new hq) ⟨q, _, rfl, .inl upd_same, by rw [List.length_drop]; omega, Reps.keep (Tk.new hq) r1⟩
/-- files[:-1] -/
theorem init_ok {K : PySem.W.Frag} {ft : Addr} {fs : Fs} {H : Hp} {Q : VK} (hf : Rep H (filesD fs) (.ref ft)) (ne : fs ≠ []) (k : ∀ (q : Addr) (H' : Hp), Same H H' → Rep H' (filesD fs.dropLast) (.ref q) → Q (.ref q) H') :
    rSlA K (.ref ft) none (some (-1)) H Q := by
  obtain ⟨t, vs, e, h, hz, r⟩ := hf
  cases e
  have hl := r.len
  rw [List.length_map] at hl
  have hp : 0 < fs.length := List.length_pos_iff.mpr ne
  refine ⟨ft, vs, rfl, .inl h, fun z => ?_, fun _ q hq => ?_⟩
  · have z2 := z.2
    rw [sIx_last] at z2
    omega
  · rw [cutV_init]
    have r1 := Reps.init r
    rw [← List.map_dropLast] at r1
    exact k q _ (Same.new hq) ⟨q, _, rfl, .inl upd_same, by rw [List.length_dropLast]; omega, Reps.keep (Tk.new hq) r1⟩
/-- given: lists of lists -/
theorem given_rep {H : Hp} {N : Addr → Prop} : ∀ {fs : Fs} {ls : List Addr}, Paired (fun l q => H l = some (.lst [V.str q.1, V.str q.2]) ∧ N l) ls fs → RepsL H (fs.map pairD) (ls.map V.ref)
  | _, _, .nil => rfl
  | _, _, .cons (a := l) (b := q) ⟨h, _⟩ t => ⟨.ref l, _, rfl, ⟨l, [.str q.1, .str q.2], rfl, trivial, .inr h, by show 2 ≤ sizeLine; decide, ⟨_, _, rfl, rfl, _, _, rfl, rfl, rfl⟩⟩, given_rep t⟩
theorem cont_bang {c : Str} (h : Cont c) : Cont ("!" ++ Txt.slice c (some 1) none) ∧ (33 : Nat) ∈ ("!" ++ Txt.slice c (some 1) none).cps.toList := by
  have e : ("!" ++ Txt.slice c (some 1) none).cps.toList = 33 :: c.cps.toList.drop 1 := by
    rw [cps_cat]
    have e1 := SX.slice_from (a := c.cps.toList) (i := 1) (by decide)
    rw [SX.S_tl] at e1
    rw [e1]
    rfl
  refine ⟨⟨?_, ?_⟩, by rw [e]; exact List.mem_cons_self ..⟩
  · have hl := h.len
    rw [← len_tl] at hl ⊢
    rw [e, List.length_cons, List.length_drop]
    omega
  · intro x hx
    rw [e] at hx
    rcases List.mem_cons.mp hx with rfl | hx
    · exact .inr (by decide)
    · exact h.all x (List.mem_of_mem_drop hx)
theorem dep_clash (xs : List Str) : Kd.D.dep (.tup [.str "clash", .tup (xs.map Kd.D.str)]) ≤ 3 := by
  have h : Kd.D.deps (xs.map Kd.D.str) ≤ 0 := by
    induction xs with
    | nil => exact Nat.le_refl _
    | cons q r ih =>
      have e : Kd.D.deps ((q :: r).map Kd.D.str) = max 0 (Kd.D.deps (r.map Kd.D.str)) := rfl
      omega
  have e : Kd.D.dep (.tup [.str "clash", .tup (xs.map Kd.D.str)]) = max 0 (max (Kd.D.deps (xs.map Kd.D.str) + 1) 0) + 1 := rfl
  omega
theorem lit_pair {x y : Str} {σ : L2.St} {H : Hp} {Q : VK} (k : ∀ (t : Addr) (H' : Hp), Same H H' → Rep H' (pairD (x, y)) (.ref t) → Q (.ref t) H') : tTup (tStrs [x, y]) σ H Q :=
  te_tup (ta_strs ⟨(by show 2 ≤ sizeLine; decide), fun t ht => k t _ (Same.new ht) (pair_rep upd_same)⟩)
theorem lit1 {x y : Str} {σ : L2.St} {H : Hp} {Q : VK} (k : ∀ (t : Addr) (H' : Hp), Same H H' → Rep H' (filesD [(x, y)]) (.ref t) → Q (.ref t) H') : tTup (tCons (tTup (tStrs [x, y])) tNil) σ H Q := by
  refine te_tup <| ta_cons <| lit_pair fun t1 H1 s1 r1 => ta_nil ⟨(by show 1 ≤ sizeLine; decide), fun t ht => ?_⟩
  have s : Same H1 (upd H1 t (.tup [.ref t1])) := Same.new ht
  exact k t _ (fun b o e => s b o (s1 b o e)) ⟨t, _, rfl, .inl upd_same, by show 1 ≤ sizeLine; decide, _, _, rfl, r1.keep (Same.tk s), rfl⟩
theorem lit2 {x y x2 y2 : Str} {σ : L2.St} {H : Hp} {Q : VK} (k : ∀ (t : Addr) (H' : Hp), Same H H' → Rep H' (filesD [(x, y), (x2, y2)]) (.ref t) → Q (.ref t) H') : tTup (tCons (tTup (tStrs [x, y])) (tCons (tTup (tStrs [x2, y2])) tNil)) σ H Q := by
  refine te_tup <| ta_cons <| lit_pair fun t1 H1 s1 r1 => ta_cons <| lit_pair fun t2 H2 s2 r2 => ta_nil ⟨(by show 2 ≤ sizeLine; decide), fun t ht => ?_⟩
  have s : Same H2 (upd H2 t (.tup [.ref t1, .ref t2])) := Same.new ht
  exact k t _ (fun b o e => s b o (s2 b o (s1 b o e))) ⟨t, _, rfl, .inl upd_same, by show 2 ≤ sizeLine; decide, _, _, rfl, (r1.keep (Same.tk s2)).keep (Same.tk s), _, _, rfl, r2.keep (Same.tk s), rfl⟩
theorem lit3 {x y x2 y2 x3 y3 : Str} {σ : L2.St} {H : Hp} {Q : VK} (k : ∀ (t : Addr) (H' : Hp), Same H H' → Rep H' (filesD [(x, y), (x2, y2), (x3, y3)]) (.ref t) → Q (.ref t) H') : tTup (tCons (tTup (tStrs [x, y])) (tCons (tTup (tStrs [x2, y2])) (tCons (tTup (tStrs [x3, y3])) tNil))) σ H Q := by
  refine te_tup <| ta_cons <| lit_pair fun t1 H1 s1 r1 => ta_cons <| lit_pair fun t2 H2 s2 r2 => ta_cons <| lit_pair fun t3 H3 s3 r3 => ta_nil ⟨(by show 3 ≤ sizeLine; decide), fun t ht => ?_⟩
  have s : Same H3 (upd H3 t (.tup [.ref t1, .ref t2, .ref t3])) := Same.new ht
  exact k t _ (fun b o e => s b o (s3 b o (s2 b o (s1 b o e)))) ⟨t, _, rfl, .inl upd_same, by show 3 ≤ sizeLine; decide, _, _, rfl, ((r1.keep (Same.tk s2)).keep (Same.tk s3)).keep (Same.tk s), _, _, rfl, (r2.keep (Same.tk s3)).keep (Same.tk s), _, _, rfl, r3.keep (Same.tk s), rfl⟩
end Kl

namespace Kl
open PySem L2 Kd
abbrev sSo : Stmt := topS 29
theorem scSo : FnScope ["found", "meant", "k"] ["found", "meant"] (defScope sSo) := ⟨rfl, rfl, rfl, by decide +kernel, rfl, by decide +kernel, by decide +kernel⟩
def spSo (n : Nat) : Sp := fun vs H Q _ => ∃ (a b : D) (v u : V), vs = [v, u] ∧ Rep H a v ∧ Rep H b u ∧ D.dep b < n ∧ Q (.bl (D.eqb a b)) H
theorem isi_of {K : PySem.W.Frag} {H : Hp} {d : D} {v : V} (T : String) {b : Bool} (r : Rep H d v) (k : PySem.W.kitOne K (.type d.ty) (.type T) = some b) {Q : VK} (q : Q (.bl b) H) : rIsi K [v, .ty T] H Q :=
  ⟨v, .ty T, .type d.ty, .type T, b, rfl, .ty T, r.ty, k, q⟩
section
variable {P : Program} {w : World} {K : PySem.W.Frag} {mg : Str → Option Value} {base : Heap}
theorem ok_so {f : Addr} {fd : FuncData} (F : At K mg "_law_so" sSo ["found", "meant"] f fd) (T : Glo mg) : ∀ n : Nat, FnOk P w K mg base CX0 n f fd ["found", "meant"] (spSo n)
  | 0 => ⟨fun vs H Q E ⟨a, b, v, u, e, _⟩ => by subst e; rfl, fun A outer s H args us vs Q E hr he hb hv ⟨a, b, v, u, e, _, _, d, _⟩ => absurd d (Nat.not_lt_zero _)⟩
  | n + 1 => by
    have G := ok_so F T n
    refine F.fn.ok scSo (fun vs H Q E h => ?_) (fun cdv A outer s H vs Q E hr h => ?_)
    · obtain ⟨a, b, v, u, rfl, _⟩ := h
      rfl
    · obtain ⟨a, b, v, u, rfl, ra, rb, hd, k⟩ := h
      refine ⟨_, pss_cons (ps_if (pt_cmp (pc_isN (pv 1))) (pss_one (ps_ret (pe_cmp (pc_isN (pv 0))))) pss_nil)
        (pss_cons (ps_if (pt_val (pe_callB call_isi (by rfl) T.isi PyProof.Rows.boot_isinstance (pa_cons (pv 1) (pa_cons (pe_bltn (v := .ty "tuple") (by rfl) T.tuple PyProof.Rows.boot_tuple rfl) pa_nil))))
          (pss_cons (ps_if (PW.pt (pw_or (pt_not (pt_val (pe_callB call_isi (by rfl) T.isi PyProof.Rows.boot_isinstance (pa_cons (pv 0) (pa_cons (pe_bltn (v := .ty "tuple") (by rfl) T.tuple PyProof.Rows.boot_tuple rfl) pa_nil)))))
              (pw_or1 (pt_cmpR op_ne (pe_callB call_len_seq (by rfl) T.len PySem.boot_len (pa_cons (pv 0) pa_nil)) (pe_callB call_len_seq (by rfl) T.len PySem.boot_len (pa_cons (pv 1) pa_nil)) (nomark _))))) (pss_one (ps_ret pe_bl)) pss_nil)
          (pss_cons (ps_for PassesOwn.never rfl (pi_range1 (by rfl) T.range (pa_cons (pe_callB call_len_seq (by rfl) T.len PySem.boot_len (pa_cons (pv 1) pa_nil)) pa_nil)) (pg_name (i := 2) scSo.nd rfl (.inl rfl))
            (pss_one (ps_if (pt_not (pt_val (pe_call G hr (by rfl) F.mf F.fn.kp F.bd .nil pass0 (pa_cons (pe_ix ix_tup (pv 0) (pv 2) (fun _ _ => rfl)) (pa_cons (pe_ix ix_tup (pv 1) (pv 2) (fun _ _ => rfl)) pa_nil))))) (pss_one (ps_ret pe_bl)) pss_nil)))
          (pss_one (ps_ret pe_bl)))) pss_nil)
        (pss_cons (ps_if (PW.pt (pw_or (pt_val (pe_callB call_isi (by rfl) T.isi PyProof.Rows.boot_isinstance (pa_cons (pv 1) (pa_cons (pe_bltn (v := .ty "bool") (by rfl) T.bool (by decide +kernel) rfl) pa_nil))))
            (pw_or1 (pt_val (pe_callB call_isi (by rfl) T.isi PyProof.Rows.boot_isinstance (pa_cons (pv 0) (pa_cons (pe_bltn (v := .ty "bool") (by rfl) T.bool (by decide +kernel) rfl) pa_nil)))))))
          (pss_one (ps_ret (pe_and (pe_callB call_isi (by rfl) T.isi PyProof.Rows.boot_isinstance (pa_cons (pv 1) (pa_cons (pe_bltn (v := .ty "bool") (by rfl) T.bool (by decide +kernel) rfl) pa_nil)))
            (pe_and (pe_callB call_isi (by rfl) T.isi PyProof.Rows.boot_isinstance (pa_cons (pv 0) (pa_cons (pe_bltn (v := .ty "bool") (by rfl) T.bool (by decide +kernel) rfl) pa_nil))) (pe_one (pe_cmpR op_eq (pv 0) (pv 1) (nomark _))))))) pss_nil)
        (pss_cons (ps_if (pt_val (pe_callB call_isi (by rfl) T.isi PyProof.Rows.boot_isinstance (pa_cons (pv 1) (pa_cons (pe_bltn (v := .ty "int") (by rfl) T.int PyProof.Rows.boot_int rfl) pa_nil))))
          (pss_one (ps_ret (pe_and (pe_callB call_isi (by rfl) T.isi PyProof.Rows.boot_isinstance (pa_cons (pv 0) (pa_cons (pe_bltn (v := .ty "int") (by rfl) T.int PyProof.Rows.boot_int rfl) pa_nil))) (pe_one (pe_cmpR op_eq (pv 0) (pv 1) (nomark _)))))) pss_nil)
        (pss_one (ps_ret (pe_and (pe_callB call_isi (by rfl) T.isi PyProof.Rows.boot_isinstance (pa_cons (pv 1) (pa_cons (pe_bltn (v := .ty "str") (by rfl) T.str (by decide +kernel) rfl) pa_nil)))
            (pe_and (pe_callB call_isi (by rfl) T.isi PyProof.Rows.boot_isinstance (pa_cons (pv 0) (pa_cons (pe_bltn (v := .ty "str") (by rfl) T.str (by decide +kernel) rfl) pa_nil))) (pe_one (pe_cmpR op_eq (pv 0) (pv 1) (nomark _)))))))))), ?_⟩
      refine ⟨u, rfl, _, rfl, ?_⟩
      refine ite2 (fun c => ?_) (fun c => ?_)
      · have eu : u = .non := of_decide_eq_true c
        subst eu
        cases b with
        | non =>
          refine ⟨v, rfl, ?_⟩
          cases a with
          | non => cases (show v = V.non from ra); exact k
          | bl x => cases (show v = V.bl x from ra); exact k
          | int x => cases (show v = V.int x from ra); exact k
          | str x => cases (show v = V.str x from ra); exact k
          | tup x =>
            obtain ⟨p, q, e, _⟩ := id ra
            subst e
            exact k
        | bl x => cases (show V.non = V.bl x from rb)
        | int x => cases (show V.non = V.int x from rb)
        | str x => cases (show V.non = V.str x from rb)
        | tup x =>
          obtain ⟨p, q, e, _⟩ := id rb
          cases e
      · refine ⟨u, rfl, u, _, _, _, _, rfl, .ty _, rb.ty, D.kTup b, _, rfl, ?_⟩
        match b, rb, hd, k with
        | .non, rb, hd, k => exact absurd (decide_eq_true (show u = V.non from rb)) c
        | .tup bs, rb, hd, k =>
          obtain ⟨pb, ub, rfl, hb, zb, qb⟩ := id rb
          refine iteT ?_
          refine ⟨v, rfl, v, _, _, _, _, rfl, .ty _, ra.ty, D.kTup a, _, rfl, ?_⟩
          match a, ra, k with
          | .tup as, ra, k =>
            obtain ⟨pa, ua, rfl, ha, za, qa⟩ := id ra
            refine iteF ?_
            refine ⟨_, rfl, pa, ua, rfl, .inr (.inl ha), _, rfl, pb, ub, rfl, .inr (.inl hb), rfl, _, rfl, ?_⟩
            have la := qa.len
            have lb := qb.len
            refine ite2 (fun c2 => ?_) (fun c2 => ?_)
            · have ne : as.length ≠ bs.length := fun z => by
                rw [la, lb, z] at c2
                simp at c2
              have e : D.eqb (.tup as) (.tup bs) = false := by
                cases z : D.eqb (.tup as) (.tup bs) with
                | false => rfl
                | true => exact absurd (D.eqbs_len (by simpa only [D.eqb] using z)) ne
              rw [e] at k
              exact k
            · have eq : as.length = bs.length := by
                have z : ua.length = ub.length := by
                  have : ¬ (!decide (V.int (ua.length : Int) = V.int (ub.length : Int))) = true := c2
                  simp at this
                  omega
                omega
              refine ⟨_, rfl, pb, ub, rfl, .inr (.inl hb), ub.length, rfl, by omega, ?_, ?_⟩
              · rw [sizeLine_eq] at zb
                omega
              · refine for_range (n := ((ub.length : Nat) : Int).toNat) (fun i σ H2 => ∃ kk : Option V, σ = [some (.ref pa), some (.ref pb), kk] ∧ H2 = H ∧ D.eqbs (as.take i) (bs.take i) = true) ⟨none, rfl, rfl, by simp [D.eqbs]⟩ ?_ ?_
                · rintro i σ H2 hi ⟨kk, rfl, rfl, he⟩
                  have hi' : i < ub.length := by simpa using hi
                  have hia : i < as.length := by omega
                  have hib : i < bs.length := by omega
                  have ga := List.getElem?_eq_getElem hia
                  have gb := List.getElem?_eq_getElem hib
                  obtain ⟨x, ex, rx⟩ := qa.get ga
                  obtain ⟨y, ey, ry⟩ := qb.get gb
                  have ez : (0 : Int) + (i : Int) = (i : Int) := Int.zero_add _
                  refine ⟨_, rfl, _, rfl, pa, ua, _, x, rfl, rfl, .inl ha, at_of ez ex, _, rfl, _, rfl, pb, ub, _, y, rfl, rfl, .inl hb, at_of ez ey, ?_⟩
                  refine ⟨_, _, x, y, rfl, rx, ry, ?_, _, rfl, ?_⟩
                  · have := D.dep_mem gb
                    simp only [D.dep] at hd
                    omega
                  · have et := D.eqbs_take ga gb
                    rw [he, Bool.true_and] at et
                    cases z : D.eqb as[i] bs[i] with
                    | true =>
                      rw [z] at et
                      exact ⟨_, rfl, rfl, et⟩
                    | false =>
                      have e : D.eqb (.tup as) (.tup bs) = false := by
                        simp only [D.eqb]
                        exact D.eqbs_cut ga gb z
                      rw [e] at k
                      exact k
                · rintro σ H2 ⟨kk, rfl, rfl, he⟩
                  have e : D.eqb (.tup as) (.tup bs) = true := by
                    simp only [D.eqb]
                    have e1 : ((ub.length : Nat) : Int).toNat = bs.length := by simpa using lb
                    rw [e1, List.take_of_length_le (Nat.le_of_eq eq), List.take_length] at he
                    exact he
                  rw [e] at k
                  exact k
          | .non, ra, k => exact k
          | .bl x, ra, k => exact k
          | .int x, ra, k => exact k
          | .str x, ra, k => exact k
        | .bl y, rb, hd, k =>
          obtain rfl : u = V.bl y := id rb
          refine iteF ?_
          refine ⟨_, rfl, _, _, _, _, _, rfl, .ty _, rb.ty, D.kBl (.bl y), _, rfl, ?_⟩
          refine ⟨_, rfl, _, _, _, _, _, rfl, .ty _, rb.ty, D.kBl (.bl y), _, rfl, iteT ?_⟩
          refine ⟨_, rfl, v, _, _, _, _, rfl, .ty _, ra.ty, D.kBl a, _, rfl, ?_⟩
          match a, ra, k with
          | .bl x, ra, k =>
            obtain rfl : v = V.bl x := id ra
            refine iteT ⟨_, rfl, _, rfl, rfl, ?_⟩
            have e : decide (V.bl x = V.bl y) = D.eqb (.bl x) (.bl y) := by
              simp only [D.eqb, V.bl.injEq]
              cases x <;> cases y <;> rfl
            rw [e]
            exact k
          | .non, ra, k => exact k
          | .int x, ra, k => exact k
          | .str x, ra, k => exact k
          | .tup x, ra, k => exact k
        | .int y, rb, hd, k =>
          obtain rfl : u = V.int y := id rb
          refine iteF ?_
          refine ⟨_, rfl, _, _, _, _, _, rfl, .ty _, rb.ty, D.kBl (.int y), _, rfl, ?_⟩
          refine ⟨_, rfl, v, _, _, _, _, rfl, .ty _, ra.ty, D.kBl a, _, rfl, ?_⟩
          match a, ra, k with
          | .bl x, ra, k => exact ⟨_, rfl, _, _, _, _, _, rfl, .ty _, rb.ty, D.kBl (.int y), _, rfl, k⟩
          | .int x, ra, k =>
            obtain rfl : v = V.int x := id ra
            refine iteF ⟨_, rfl, _, _, _, _, _, rfl, .ty _, rb.ty, D.kInt (.int y), _, rfl, ?_⟩
            refine ⟨_, rfl, _, _, _, _, _, rfl, .ty _, ra.ty, D.kInt (.int x), _, rfl, iteT ⟨_, rfl, _, rfl, rfl, ?_⟩⟩
            have e : decide (V.int x = V.int y) = D.eqb (.int x) (.int y) := by
              simp only [D.eqb, V.int.injEq]
            rw [e]
            exact k
          | .non, ra, k => exact ⟨_, rfl, _, _, _, _, _, rfl, .ty _, rb.ty, D.kInt (.int y), _, rfl, _, rfl, _, _, _, _, _, rfl, .ty _, ra.ty, D.kInt .non, _, rfl, k⟩
          | .str x, ra, k => exact ⟨_, rfl, _, _, _, _, _, rfl, .ty _, rb.ty, D.kInt (.int y), _, rfl, _, rfl, _, _, _, _, _, rfl, .ty _, ra.ty, D.kInt (.str x), _, rfl, k⟩
          | .tup x, ra, k => exact ⟨_, rfl, _, _, _, _, _, rfl, .ty _, rb.ty, D.kInt (.int y), _, rfl, _, rfl, _, _, _, _, _, rfl, .ty _, ra.ty, D.kInt (.tup x), _, rfl, k⟩
        | .str y, rb, hd, k =>
          obtain rfl : u = V.str y := id rb
          refine iteF ?_
          refine ⟨_, rfl, _, _, _, _, _, rfl, .ty _, rb.ty, D.kBl (.str y), _, rfl, ?_⟩
          refine ⟨_, rfl, v, _, _, _, _, rfl, .ty _, ra.ty, D.kBl a, _, rfl, ?_⟩
          match a, ra, k with
          | .bl x, ra, k => exact ⟨_, rfl, _, _, _, _, _, rfl, .ty _, rb.ty, D.kBl (.str y), _, rfl, k⟩
          | .str x, ra, k =>
            obtain rfl : v = V.str x := id ra
            refine iteF ⟨_, rfl, _, _, _, _, _, rfl, .ty _, rb.ty, D.kInt (.str y), _, rfl, ?_⟩
            refine iteF ⟨_, rfl, _, _, _, _, _, rfl, .ty _, rb.ty, D.kStr (.str y), _, rfl, iteT ?_⟩
            refine ⟨_, rfl, _, _, _, _, _, rfl, .ty _, ra.ty, D.kStr (.str x), _, rfl, iteT ⟨_, rfl, _, rfl, rfl, ?_⟩⟩
            have e : decide (V.str x = V.str y) = D.eqb (.str x) (.str y) := by
              simp only [D.eqb, V.str.injEq]
            rw [e]
            exact k
          | .non, ra, k => exact ⟨_, rfl, _, _, _, _, _, rfl, .ty _, rb.ty, D.kInt (.str y), _, rfl, _, rfl, _, _, _, _, _, rfl, .ty _, rb.ty, D.kStr (.str y), _, rfl, _, rfl, _, _, _, _, _, rfl, .ty _, ra.ty, D.kStr .non, _, rfl, k⟩
          | .int x, ra, k => exact ⟨_, rfl, _, _, _, _, _, rfl, .ty _, rb.ty, D.kInt (.str y), _, rfl, _, rfl, _, _, _, _, _, rfl, .ty _, rb.ty, D.kStr (.str y), _, rfl, _, rfl, _, _, _, _, _, rfl, .ty _, ra.ty, D.kStr (.int x), _, rfl, k⟩
          | .tup x, ra, k => exact ⟨_, rfl, _, _, _, _, _, rfl, .ty _, rb.ty, D.kInt (.str y), _, rfl, _, rfl, _, _, _, _, _, rfl, .ty _, rb.ty, D.kStr (.str y), _, rfl, _, rfl, _, _, _, _, _, rfl, .ty _, ra.ty, D.kStr (.tup x), _, rfl, k⟩
end
end Kl

namespace Kl
open PySem L2 Kd
abbrev s_law : Stmt := topS 48
theorem sc_law : FnScope ["script", "row", "spot", "files", "given", "tree", "at", "first", "second", "ours", "theirs", "low", "high", "due", "told", "back", "one"] ["script"] (defScope s_law) := ⟨rfl, rfl, rfl, by decide +kernel, rfl, by decide +kernel, by decide +kernel⟩
def spLaw (K : PySem.W.Frag) : Sp := fun vs H Q _ => ∃ (a : Addr) (ns : List Int), vs = [.ref a] ∧ Ints K H a ns ∧ ns.length ≤ 63 ∧ ∀ H', Q (.bl true) H'
abbrev rListOf (K : PySem.W.Frag) : List V → Hp → VK → Prop := fun xs H Q => ∃ p ys, xs = [.ref p] ∧ (SqL K H p ys ∨ SqT K H p ys) ∧ ∀ l, H l = none → Q (.ref l) (upd H l (.lst ys))
/-- all that the law calls -/
structure LawC (P : Program) (w : World) (K : PySem.W.Frag) (mg : Str → Option Value) (base : Heap) (C : Addr) : Prop where
  tq : TreeQ P w K mg base C
  c_l_numbers : C8.Cal P w K mg base 1 "_law_numbers" (spNum K) []
  c_l_take : C8.Cal P w K mg base 2 "_law_take" (spTk K) []
  c_l_tree : C8.Cal P w K mg base 8 "_law_tree" (spTree K) []
  c_l_edit : C8.Cal P w K mg base 7 "_law_edit" (spEdit K) []
  c_l_set : C8.Cal P w K mg base 1 "_law_set" (spSet K) []
  c_l_loose : C8.Cal P w K mg base 5 "_law_loose" (spLoose K 5) []
  c_l_so : C8.Cal P w K mg base 5 "_law_so" (spSo 5) []
  c_l_edited : C8.Cal P w K mg base 1 "_law_edited" (spEdited K) []
  c_l_between : C8.Cal P w K mg base 1 "_law_between" (spBetween K) []
  c_l_merged : C8.Cal P w K mg base 1 "_law_merged" (spMerged K) []
  c_edited : C8.Cal P w K mg base 8 "edited" (spPEdited K C) []
  c_between : C8.Cal P w K mg base 3 "between" (spPBetween K C) []
  c_touched : C8.Cal P w K mg base 4 "touched" (spTouched K C) []
  c_merged : C8.Cal P w K mg base 7 "merged" (spPMerged K C) []
  ck_edited : Ks.CalK P w K mg base 8 "edited" ["tree", "edit"] (spPEdited K C)
  ck_touched : Ks.CalK P w K mg base 4 "touched" ["old", "new"] (spTouched K C)
  ck_merged : Ks.CalK P w K mg base 7 "merged" ["base", "ours", "theirs"] (spPMerged K C)
  mk_Tree : C8.Mak P w K mg base 5 "Tree" C (spInit K C) []
  mkk_Tree : Ks.MakK P w K mg base 5 "Tree" C ["files"] (spInit K C)
section
variable {P : Program} {w : World} {K : PySem.W.Frag} {mg : Str → Option Value} {base : Heap} {C : Addr}
theorem ok_law {f : Addr} {fd : FuncData} (F : Fun K "law" "law" s_law f fd) (T : Glo mg) (L : LawC P w K mg base C) : FnOk P w K mg base CX0 9 f fd ["script"] (spLaw K) := by
  obtain ⟨tq, c_l_numbers, c_l_take, c_l_tree, c_l_edit, c_l_set, c_l_loose, c_l_so, c_l_edited, c_l_between, c_l_merged, c_edited, c_between, c_touched, c_merged, ck_edited, ck_touched, ck_merged, mk_Tree, mkk_Tree⟩ := L
  have TF := tq.tp.tf
  refine F.ok sc_law (fun vs H Q E h => ?_) (fun cdv A outer s H vs Q E hr h => ?_)
  · obtain ⟨a, ns, rfl, _⟩ := h
    rfl
  · obtain ⟨a, ns, rfl, hS, hn, kend⟩ := h
    refine ⟨_, (pss_cons (ps_set (i := 1) sc_law.nd rfl (.inl rfl) (C8.pe_c c_l_numbers hr (by omega) (by rfl) (pa_cons (pv 0) pa_nil)))
      (pss_cons (ps_set (i := 2) sc_law.nd rfl (.inl rfl) (pe_lst (pa_cons pe_int pa_nil)))
      (pss_cons (ps_set (i := 3) sc_law.nd rfl (.inl rfl) (C8.pe_c c_l_tree hr (by omega) (by rfl) (pa_cons (pv 1) (pa_cons (pv 2) pa_nil))))
      (pss_cons (ps_setLc (i := 4) (own := [("one", 16)]) (g := gName 16) (tt := tYes) rfl sc_law.nd rfl rfl (sw_true rfl rfl rfl (by decide +kernel)) (pi_tup (pv 3)) (blkOk_by (N := ["script", "row", "spot", "files", "given", "tree", "at", "first", "second", "ours", "theirs", "low", "high", "due", "told", "back", "one"]) (sc := defScope s_law) (by decide +kernel)) (fun _ _ _ _ _ => (pg_name (i := 16) sc_law.nd rfl (.inl rfl))) (fun _ _ _ _ _ => pts_nil) (fun _ _ _ _ _ => (pe_callTy (r := rListOf K) call_list_of (by rfl) T.list PyProof.Rows.boot_list (pa_cons (pv 16) pa_nil))))
      (pss_cons (ps_set (i := 5) sc_law.nd rfl (.inl rfl) (C8.pe_mk mk_Tree hr (by omega) (by rfl) (pa_cons (pv 4) pa_nil)))
      (pss_cons (ps_asg pe_str (pg_sub (pe_ix ix_list (pv 4) pe_int (fun _ _ => rfl)) pe_int set_list))
      (pss_cons (ps_expr (pe_bm PySem.F.plainAttrs_list PySem.F.slot_list_append PySem.F.type_list_append mt_append (pv 4) (pa_cons pe_int pa_nil)))
      (C8.pss_cut (ps_if (PW.pt (pw_or (pt_not (pt_val (C8.pe_c c_l_so hr (by omega) (by rfl) (pa_cons (pe_files tq.tp hr (by omega) (pv 5)) (pa_cons (pv 3) pa_nil))))) (pw_or (pt_not (pt_cmpR (op_teq tq hr (by omega)) (pv 5) (Ks.pe_mkk mkk_Tree hr (by omega) (by rfl) (pk_cons (C8.pe_c c_l_loose hr (by omega) (by rfl) (pa_cons (pv 3) (pa_cons pe_int pa_nil))) pk_nil)) (nomark _))) (pw_or (pt_cmpR (op_teq tq hr (by omega)) (pv 5) (pv 3) (nomark _)) (pw_or (pt_cmpR (op_teq tq hr (by omega)) (pv 5) pe_non (nomark _)) (pw_or1 (pt_cmpR (op_teq tq hr (by omega)) (pv 5) (C8.pe_mk mk_Tree hr (by omega) (by rfl) (pa_cons (pe_slice sl_tupA (pv 3) (po_some pe_int) po_none) pa_nil)) (nomark _))))))))
      (pss_one ps_never)
      pss_nil)
      (pss_cons (ps_set (i := 6) sc_law.nd rfl (.inl rfl) (C8.pe_c c_l_take hr (by omega) (by rfl) (pa_cons (pv 1) (pa_cons (pv 2) (pa_cons (pe_callB call_len_seq (by rfl) T.len PySem.boot_len (pa_cons (pv 3) pa_nil)) pa_nil)))))
      (C8.pss_cut (ps_if (PW.pt (pw_or (pt_cmpR (op_teq tq hr (by omega)) (pv 5) (C8.pe_mk mk_Tree hr (by omega) (by rfl) (pa_cons (C8.pe_c c_l_set hr (by omega) (by rfl) (pa_cons (pv 3) (pa_cons (pv 6) (pa_cons (pe_tup (pa_cons (pe_ix ix_tup (pe_ix ix_tup (pv 3) (pv 6) (fun _ _ => rfl)) pe_int (fun _ _ => rfl)) (pa_cons (pe_op op_add_str pe_str (pe_slice C8.sl_txt (pe_ix ix_tup (pe_ix ix_tup (pv 3) (pv 6) (fun _ _ => rfl)) pe_int (fun _ _ => rfl)) (po_some pe_int) po_none)) pa_nil))) pa_nil)))) pa_nil)) (nomark _)) (pw_or1 (PW.pt (pw_and (pt_cmpR op_gt (pe_callB call_len_seq (by rfl) T.len PySem.boot_len (pa_cons (pv 3) pa_nil)) pe_int (nomark _)) (pw_and1 (pt_cmpR (op_teq tq hr (by omega)) (pv 5) (C8.pe_mk mk_Tree hr (by omega) (by rfl) (pa_cons (pe_op op_catA (pe_slice sl_tupA (pv 3) po_none (po_some (pe_un un_neg pe_int))) (pe_tup (pa_cons (pe_tup (pa_cons pe_str (pa_cons (pe_ix ix_tup (pe_ix ix_tup (pv 3) (pe_un un_neg pe_int) (fun _ _ => rfl)) pe_int (fun _ _ => rfl)) pa_nil))) pa_nil))) pa_nil)) (nomark _))))))))
      (pss_one ps_never)
      pss_nil)
      (pss_cons (ps_set (i := 7) sc_law.nd rfl (.inl rfl) (C8.pe_c c_l_edit hr (by omega) (by rfl) (pa_cons (pv 1) (pa_cons (pv 2) (pa_cons (pv 3) pa_nil)))))
      (pss_cons (ps_set (i := 8) sc_law.nd rfl (.inl rfl) (C8.pe_c c_l_edit hr (by omega) (by rfl) (pa_cons (pv 1) (pa_cons (pv 2) (pa_cons (pv 3) pa_nil)))))
      (pss_cons (ps_set (i := 9) sc_law.nd rfl (.inl rfl) (C8.pe_c c_edited hr (by omega) (by rfl) (pa_cons (pv 5) (pa_cons (C8.pe_c c_l_loose hr (by omega) (by rfl) (pa_cons (pv 7) (pa_cons (C8.pe_c c_l_take hr (by omega) (by rfl) (pa_cons (pv 1) (pa_cons (pv 2) (pa_cons pe_int pa_nil)))) pa_nil))) pa_nil))))
      (pss_cons (ps_set (i := 10) sc_law.nd rfl (.inl rfl) (Ks.pe_k ck_edited hr (by omega) (by rfl) (pk_cons (pv 5) (pk_cons (pv 8) pk_nil))))
      (C8.pss_cut (ps_if (PW.pt (pw_or (pt_not (pt_val (C8.pe_c c_l_so hr (by omega) (by rfl) (pa_cons (pe_files tq.tp hr (by omega) (pv 9)) (pa_cons (C8.pe_c c_l_edited hr (by omega) (by rfl) (pa_cons (pv 3) (pa_cons (pv 7) pa_nil))) pa_nil))))) (pw_or1 (pt_not (pt_val (C8.pe_c c_l_so hr (by omega) (by rfl) (pa_cons (pe_files tq.tp hr (by omega) (pv 10)) (pa_cons (C8.pe_c c_l_edited hr (by omega) (by rfl) (pa_cons (pv 3) (pa_cons (pv 8) pa_nil))) pa_nil))))))))
      (pss_one ps_never)
      pss_nil)
      (C8.pss_cut (ps_if (PW.pt (pw_or (pt_not (pt_val (C8.pe_c c_l_so hr (by omega) (by rfl) (pa_cons (C8.pe_c c_between hr (by omega) (by rfl) (pa_cons (pv 9) (pa_cons (pv 10) pa_nil))) (pa_cons (C8.pe_c c_l_between hr (by omega) (by rfl) (pa_cons (pe_files tq.tp hr (by omega) (pv 9)) (pa_cons (pe_files tq.tp hr (by omega) (pv 10)) pa_nil))) pa_nil))))) (pw_or1 (pt_not (pt_cmpR (op_teq tq hr (by omega)) (C8.pe_c c_edited hr (by omega) (by rfl) (pa_cons (pv 9) (pa_cons (C8.pe_c c_between hr (by omega) (by rfl) (pa_cons (pv 9) (pa_cons (pv 10) pa_nil))) pa_nil))) (pv 10) (nomark _))))))
      (pss_one ps_never)
      pss_nil)
      (pss_cons (ps_if (pt_not (pt_val (C8.pe_c c_l_so hr (by omega) (by rfl) (pa_cons (Ks.pe_k ck_touched hr (by omega) (by rfl) (pk_cons (pv 5) (pk_cons (pv 9) pk_nil))) (pa_cons (pe_callTy call_tuple_of (by rfl) T.tuple PyProof.Rows.boot_tuple (pa_cons (pe_lc (own := [("one", 16)]) (g := gName 16) (tt := tYes) rfl sc_law.nd (pi_tup (C8.pe_c c_l_between hr (by omega) (by rfl) (pa_cons (pv 3) (pa_cons (pe_files tq.tp hr (by omega) (pv 9)) pa_nil)))) (blkOk_by (N := ["script", "row", "spot", "files", "given", "tree", "at", "first", "second", "ours", "theirs", "low", "high", "due", "told", "back", "one"]) (sc := defScope s_law) (by decide +kernel)) (fun _ _ _ _ _ => (pg_name (i := 16) sc_law.nd rfl (.inl rfl))) (fun _ _ _ _ _ => pts_nil) (fun _ _ _ _ _ => (pe_ix (r := rIxT K) ix_tup (pv 16) pe_int (fun _ _ => rfl)))) pa_nil)) pa_nil)))))
      (pss_one ps_never)
      pss_nil)
      (pss_cons (ps_if (pt_not (pt_cmpR (op_teq tq hr (by omega)) (pe_ix ix_tup (C8.pe_c c_merged hr (by omega) (by rfl) (pa_cons (pv 5) (pa_cons (pv 9) (pa_cons (pv 9) pa_nil)))) pe_int (fun _ _ => rfl)) (pv 9) (nomark _)))
      (pss_one ps_never)
      pss_nil)
      (pss_cons (ps_set (i := 11) sc_law.nd rfl (.inl rfl) (C8.pe_mk mk_Tree hr (by omega) (by rfl) (pa_cons (pe_tup (pa_cons (pe_tup (pa_strs rfl)) (pa_cons (pe_tup (pa_strs rfl)) (pa_cons (pe_tup (pa_strs rfl)) pa_nil)))) pa_nil)))
      (pss_cons (ps_set (i := 12) sc_law.nd rfl (.inl rfl) (C8.pe_mk mk_Tree hr (by omega) (by rfl) (pa_cons (pe_tup (pa_cons (pe_tup (pa_strs rfl)) (pa_cons (pe_tup (pa_strs rfl)) (pa_cons (pe_tup (pa_strs rfl)) pa_nil)))) pa_nil)))
      (C8.pss_cut (ps_if (PW.pt (pw_or (pt_cmpR (op_neD hr.units) (C8.pe_c c_merged hr (by omega) (by rfl) (pa_cons (pv 11) (pa_cons (pv 12) (pa_cons (C8.pe_mk mk_Tree hr (by omega) (by rfl) (pa_cons (pe_tup (pa_cons (pe_tup (pa_strs rfl)) (pa_cons (pe_tup (pa_strs rfl)) pa_nil))) pa_nil)) pa_nil)))) (pe_tup (pa_cons pe_str (pa_cons (pe_tup (pa_strs rfl)) pa_nil))) (nomark _)) (pw_or1 (pt_cmpR (op_neD hr.units) (pe_files tq.tp hr (by omega) (pe_ix ix_tup (C8.pe_c c_merged hr (by omega) (by rfl) (pa_cons (pv 11) (pa_cons (C8.pe_mk mk_Tree hr (by omega) (by rfl) (pa_cons (pe_tup (pa_cons (pe_tup (pa_strs rfl)) pa_nil)) pa_nil)) (pa_cons (C8.pe_mk mk_Tree hr (by omega) (by rfl) (pa_cons (pe_tup (pa_cons (pe_tup (pa_strs rfl)) pa_nil)) pa_nil)) pa_nil)))) pe_int (fun _ _ => rfl))) (pe_tup pa_nil) (nomark _)))))
      (pss_one ps_never)
      pss_nil)
      (pss_cons (ps_set (i := 13) sc_law.nd rfl (.inl rfl) (C8.pe_c c_l_merged hr (by omega) (by rfl) (pa_cons (pv 3) (pa_cons (pe_files tq.tp hr (by omega) (pv 9)) (pa_cons (pe_files tq.tp hr (by omega) (pv 10)) pa_nil)))))
      (pss_cons (ps_set (i := 14) sc_law.nd rfl (.inl rfl) (C8.pe_c c_merged hr (by omega) (by rfl) (pa_cons (pv 5) (pa_cons (pv 9) (pa_cons (pv 10) pa_nil)))))
      (pss_cons (ps_set (i := 15) sc_law.nd rfl (.inl rfl) (Ks.pe_k ck_merged hr (by omega) (by rfl) (pk_cons (pv 5) (pk_cons (pv 10) (pk_cons (pv 9) pk_nil)))))
      (C8.pss_cut (ps_if (PW.pt (pw_or (pt_cmpR op_ne (pe_ix ix_tup (pv 14) pe_int (fun _ _ => rfl)) (pe_ix ix_tup (pv 13) pe_int (fun _ _ => rfl)) (nomark _)) (pw_or1 (pt_cmpR op_ne (pe_ix ix_tup (pv 15) pe_int (fun _ _ => rfl)) (pe_ix ix_tup (pv 13) pe_int (fun _ _ => rfl)) (nomark _)))))
      (pss_one ps_never)
      pss_nil)
      (pss_cons (ps_if (pt_cmpR op_eq (pe_ix ix_tup (pv 13) pe_int (fun _ _ => rfl)) pe_str (nomark _))
      (pss_one (ps_ret (pe_and (C8.pe_c c_l_so hr (by omega) (by rfl) (pa_cons (pv 14) (pa_cons (pv 13) pa_nil))) (pe_one (C8.pe_c c_l_so hr (by omega) (by rfl) (pa_cons (pv 15) (pa_cons (pv 13) pa_nil)))))))
      pss_nil)
      (C8.pss_cut (ps_if (PW.pt (pw_or (pt_not (pt_val (C8.pe_c c_l_so hr (by omega) (by rfl) (pa_cons (pe_files tq.tp hr (by omega) (pe_ix ix_tup (pv 14) pe_int (fun _ _ => rfl))) (pa_cons (pe_ix ix_tup (pv 13) pe_int (fun _ _ => rfl)) pa_nil))))) (pw_or (pt_not (pt_cmpR (op_teq tq hr (by omega)) (pe_ix ix_tup (pv 15) pe_int (fun _ _ => rfl)) (pe_ix ix_tup (pv 14) pe_int (fun _ _ => rfl)) (nomark _))) (pw_or1 (pt_not (pt_cmpR (op_teq tq hr (by omega)) (pe_ix ix_tup (C8.pe_c c_merged hr (by omega) (by rfl) (pa_cons (pv 5) (pa_cons (pv 9) (pa_cons (pv 5) pa_nil)))) pe_int (fun _ _ => rfl)) (pv 9) (nomark _)))))))
      (pss_one ps_never)
      pss_nil)
      (pss_one (ps_ret (pe_or (pe_cmpR (op_teq tq hr (by omega)) (C8.pe_c c_edited hr (by omega) (by rfl) (pa_cons (pv 9) (pa_cons (C8.pe_c c_between hr (by omega) (by rfl) (pa_cons (pv 5) (pa_cons (pv 10) pa_nil))) pa_nil))) (pe_ix ix_tup (pv 14) pe_int (fun _ _ => rfl)) (nomark _)) (pe_one (pe_cmpR op_gt (pe_callB call_len_seq (by rfl) T.len PySem.boot_len (pa_cons (C8.pe_c c_touched hr (by omega) (by rfl) (pa_cons (pv 5) (pa_cons (pv 9) pa_nil))) pa_nil)) pe_int (nomark _))))))))))))))))))))))))))))))))), ?_⟩
    refine st_seq (st_asg (te_call (ta_cons (te_v rfl (ta_nil ⟨a, ns, rfl, hS, hn, fun p row H1 s1 hp hrow hpos => st_g ?_⟩)))))
    dsimp only
    clear hS
    refine st_seq (st_asg ?_)
    refine ⟨(by show 1 ≤ sizeLine; decide), fun b hb => st_g ?_⟩
    dsimp only
    have npb : p ≠ b := ne_of_none hrow hb
    have sp : Sp0 K p b row (upd H1 b (.lst [.int 0])) := ⟨SqL.of (by rw [upd_ne npb]; exact hrow), hpos, npb, 0, Int.le_refl _, upd_same⟩
    generalize upd H1 b (.lst [.int 0]) = H2 at sp ⊢
    clear hrow hb hp s1
    refine st_seq (st_asg (te_call (ta_cons (te_v rfl (ta_cons (te_v rfl (ta_nil ⟨p, b, row, rfl, sp, fun fv fs H3 g3 hf fok fasc fne => st_g ?_⟩)))))))
    dsimp only
    replace sp := sp.go g3
    clear g3
    clear H1 H2
    obtain ⟨ft, fvs, rfl, hft, hfz, hfs⟩ := id hf
    have fl := hfs.len
    have few := fok.few
    rw [List.length_map] at fl
    refine st_seq (st_asg (te_lc ?_))
    refine ⟨_, rfl, ft, rfl, ⟨_, .inl hft⟩, fun D hD => lc_tup (K := K) (a := ft) (xs := fvs) (fun i H2 => Same H3 H2 ∧ ∃ ls : List Addr, H2 D = some (.lst (ls.map V.ref)) ∧ ls.length = i ∧ Paired (fun l q => H2 l = some (.lst [V.str q.1, V.str q.2]) ∧ H3 l = none ∧ l ≠ D) ls (fs.take i)) ⟨Same.new hD, [], upd_same, rfl, .nil⟩ (fun i H2 _ q => .inl (Rd.same q.1 hft)) ?_ ?_⟩
    · rintro i x H2 hx ⟨s2, ls, e2, l2, pr⟩
      have hil : i < fs.length := by
        have := (List.getElem?_eq_some_iff.mp hx).1
        omega
      have hq : fs[i]? = some fs[i] := List.getElem?_eq_getElem hil
      obtain ⟨v, hv, hrep⟩ := hfs.get (i := i) (d := pairD fs[i]) (by rw [List.getElem?_map, hq]; rfl)
      obtain rfl : v = x := Option.some.inj (hv.symm.trans hx)
      obtain ⟨t, rfl, ht⟩ := pair_of (hrep.keep (Same.tk s2))
      refine ⟨rfl, _, rfl, t, _, rfl, .inr (.inl ht), fun l hl => ?_⟩
      have hDl : D ≠ l := fun z => by
        rw [← z, e2] at hl
        cases hl
      have s3 : Same H3 (upd H2 l (.lst [V.str fs[i].1, V.str fs[i].2])) := fun b o e => by rw [upd_ne (ne_of_none (s2 b o e) hl)]; exact s2 b o e
      refine ⟨ls.map V.ref, by rw [upd_ne hDl]; exact e2, by rw [List.length_map]; exact small_lt (by omega), Same.mut s3 hD, ls ++ [l], by rw [upd_same, List.map_append]; rfl, by rw [List.length_append]; simp only [List.length_cons, List.length_nil]; omega, ?_⟩
      rw [List.take_add_one, hq]
      refine Paired.snoc (Paired.mono (fun a q h => ?_) pr) ?_
      · exact ⟨by rw [upd_ne h.2.2, upd_ne (ne_of_none h.1 hl)]; exact h.1, h.2.1, h.2.2⟩
      · exact ⟨by rw [upd_ne (Ne.symm hDl)]; exact upd_same, none_of s2 hl, Ne.symm hDl⟩
    rintro H4 ⟨s4, ls, e4, l4, pr⟩
    rw [fl, List.take_length] at pr
    refine st_g ?_
    dsimp only
    refine st_seq (st_asg (te_make (ta_cons (te_v rfl (ta_nil ?_)))))
    refine mk_leaf (v := .ref D) (fs := fs) ⟨D, ls.map V.ref, rfl, trivial, .inr e4, by rw [List.length_map]; exact small_of (by omega), given_rep pr⟩ (fok.good fasc) fun tr H5 s5 ht => st_g ?_
    dsimp only
    have e5 := s5 _ _ e4
    cases pr with
    | nil => exact absurd rfl fne
    | @cons l0 q0 lr fr h0 prr =>
    obtain ⟨h0, n0, d0⟩ := h0
    have h05 := s5 _ _ h0
    refine st_seq (st_asg (te_c ?_))
    refine ⟨_, rfl, D, _, 0, .ref l0, rfl, rfl, SqL.of e5, at_of (j := 0) rfl rfl, l0, _, 1, 1, rfl, rfl, h05, rfl, ?_⟩
    dsimp only
    have s6 : Same H3 (upd H5 l0 (.lst ([V.str q0.1, V.str q0.2].set 1 (.str "other")))) := Same.mut (fun b o e => s5 b o (s4 b o e)) n0
    have e6 : upd H5 l0 (.lst ([V.str q0.1, V.str q0.2].set 1 (.str "other"))) D = some (.lst ((l0 :: lr).map V.ref)) := by
      rw [upd_ne (Ne.symm d0)]
      exact e5
    replace ht := ht.upd (o := .lst ([V.str q0.1, V.str q0.2].set 1 (.str "other"))) h05
    generalize upd H5 l0 (.lst ([V.str q0.1, V.str q0.2].set 1 (.str "other"))) = H6 at s6 e6 ht ⊢
    refine st_seq (st_expr ?_)
    refine ⟨_, rfl, .inl ⟨rfl, _, SqL.of e6⟩, D, _, _, rfl, rfl, e6, by rw [List.length_map]; exact small_lt (by omega), ?_⟩
    dsimp only
    have s7 : Same H3 (upd H6 D (.lst ((l0 :: lr).map V.ref ++ [.int 5]))) := Same.mut s6 hD
    replace ht := ht.upd (o := .lst ((l0 :: lr).map V.ref ++ [.int 5])) e6
    generalize upd H6 D (.lst ((l0 :: lr).map V.ref ++ [.int 5])) = H7 at s7 ht ⊢
    generalize q0 :: fr = fs at *
    have A : Fa K C p b row (.ref ft) fs tr H7 := ⟨sp.go (Go.same sp.cell s7), hf.keep (Same.tk s7), ht⟩
    clear s7 s6 e6 h05 e5 s5 s4 e4 l4 prr h0 n0 d0 hD hft hfs hf sp ht fl
    have good := fok.good fasc
    have pok := good.ok
    have dp := dep_files fs
    refine ⟨fun σ' H' => σ' = [some (.ref a), some (.ref p), some (.ref b), some (.ref ft), some (.ref D), some (.ref tr), none, none, none, none, none, none, none, none, none, none, none] ∧ Fa K C p b row (.ref ft) fs tr H', ?_, ?_⟩
    · refine tt_or (tt_not (tt_b (te_call (ta_cons (te_filesV rfl A.ht fun t o vs h1 h2 h3 h4 => ta_cons (te_v rfl (ta_nil ⟨filesD fs, filesD fs, .ref t, .ref ft, rfl, ⟨t, vs, rfl, .inr ⟨o, h1⟩, h3, h4⟩, A.hf, by omega, _, rfl, ?_⟩)))))))
      rw [Kd.D.eqb_refl]
      refine iteF ?_
      refine tt_or (tt_not (tt_b (te_op (te_v rfl (te_makek rfl (ta_cons (te_call (ta_cons (te_v rfl (ta_cons (te_c (ta_nil ⟨filesD fs, .ref ft, 1, rfl, A.hf, by omega, fun x H8 s8 rx => ta_nil ⟨rfl, ?_⟩⟩))))))))))))
      refine mk_leaf (v := x) (fs := fs) rx.any good fun t2 H9 s9 ht2 => ?_
      replace A := (A.same s8).same s9
      refine eq_tree TF A.ht pok ht2 pok ⟨_, rfl, ?_⟩
      rw [decide_eq_true rfl]
      refine iteF ?_
      refine tt_or (tt_b (te_op (te_v rfl (te_v rfl (eq_other (t := "tuple") (Rep.ty (d := filesD fs) A.hf) TF.fT TF.kT A.ht pok ⟨_, rfl, iteF ?_⟩)))))
      refine tt_or (tt_b (te_op (te_v rfl (te_c (eq_other (t := "NoneType") (.base .non) TF.fN TF.kN A.ht pok ⟨_, rfl, iteF ?_⟩)))))
      refine tt_b (te_op (te_v rfl (te_make (ta_cons (te_sl (te_v rfl (to_part (te_c ⟨1, rfl, to_no (tail_ok A.hf fne fun q HA sA rq => ta_nil ?_)⟩))))))))
      refine mk_leaf (v := .ref q) (fs := fs.drop 1) (Rep.loose rq) (good_drop good) fun t3 HB sB ht3 => ?_
      replace A := (A.same sA).same sB
      refine eq_tree TF A.ht pok ht3 (good_drop good).ok ⟨_, rfl, ?_⟩
      rw [decide_eq_false (drop_ne fne)]
      exact iteF ⟨rfl, A⟩
    clear A H7
    rintro σ' H8 ⟨rfl, A⟩
    obtain ⟨_, fvs, e, hft, hfz, hfs⟩ := id A.hf
    cases e
    have fl := hfs.len
    rw [List.length_map] at fl
    have fpos : 0 < fs.length := List.length_pos_iff.mpr fne
    refine st_seq (st_asg (te_call (ta_cons (te_v rfl (ta_cons (te_v rfl (ta_cons (te_cb (ta_cons (te_v rfl (ta_nil ⟨ft, fvs, rfl, .inr (.inl hft), ta_nil ⟨p, b, row, (fvs.length : Int), rfl, A.sp, by omega, fun d H9 g9 d0 d1 => st_g ?_⟩⟩)))))))))))
    dsimp only
    replace A := A.go g9
    obtain ⟨i, rfl⟩ : ∃ i : Nat, d = (i : Int) := ⟨d.toNat, by omega⟩
    have hi : i < fs.length := by omega
    have hq : fs[i]? = some fs[i] := List.getElem?_eq_getElem hi
    clear g9 hft hfs hfz fl
    generalize fs[i] = q at hq
    have ix0 : ∀ vs : List V, vs.length = fs.length → ixN vs.length (i : Int) = some i := fun vs e => by
      unfold ixN
      rw [if_pos (by omega), if_pos (by omega), Int.toNat_natCast]
    have ixl : ∀ vs : List V, vs.length = fs.length → ixN vs.length (-1 : Int) = some (fs.length - 1) := fun vs e => by
      unfold ixN
      rw [if_neg (by decide), if_pos (by omega)]
      congr 1
      omega
    refine ⟨fun σ' H' => σ' = [some (.ref a), some (.ref p), some (.ref b), some (.ref ft), some (.ref D), some (.ref tr), some (.int i), none, none, none, none, none, none, none, none, none, none] ∧ Fa K C p b row (.ref ft) fs tr H', ?_, ?_⟩
    · have cq := (fok.ct q (List.mem_of_getElem? hq)).cont
      have bang := cont_bang cq
      refine tt_or <| tt_b <| te_op <| te_v rfl <| te_make <| ta_cons <| te_call <| ta_cons <| te_v rfl <| ta_cons <| te_v rfl <| ta_cons <| te_tup <| ta_cons <| te_op <| te_op <| te_v rfl <| te_v rfl <| file_at A.hf ix0 hq fun t1 ht1 => ?_
      refine te_c <| pair0 ht1 <| ta_cons <| te_op <| te_c <| te_sl <| te_op <| te_op <| te_v rfl <| te_v rfl <| file_at A.hf ix0 hq fun t2 ht2 => ?_
      refine te_c <| pair1 ht2 <| to_part <| te_c ⟨1, rfl, to_no ⟨_, rfl, small_of (by have := cq.len; omega), _, _, rfl, rfl, small_of ?_, ta_nil ⟨(by show 2 ≤ sizeLine; decide), fun t3 ht3 => ta_nil ?_⟩⟩⟩
      · have := bang.1.len
        rw [len_cat] at this
        omega
      have A3 : Fa K C p b row (.ref ft) fs tr (upd H9 t3 (.tup [.str q.1, .str ("!" ++ Txt.slice q.2 (some 1) none)])) := A.same (Same.new ht3)
      have r3 : Rep (upd H9 t3 (.tup [.str q.1, .str ("!" ++ Txt.slice q.2 (some 1) none)])) (pairD (q.1, "!" ++ Txt.slice q.2 (some 1) none)) (.ref t3) := pair_rep upd_same
      generalize upd H9 t3 (.tup [.str q.1, .str ("!" ++ Txt.slice q.2 (some 1) none)]) = HA at A3 r3 ⊢
      refine ⟨.ref ft, .ref t3, i, fs.map pairD, pairD (q.1, "!" ++ Txt.slice q.2 (some 1) none), rfl, A3.hf, r3, by rw [List.length_map]; exact hi, fun y HB sB rB => ta_nil ?_⟩
      rw [← List.map_set] at rB
      have gset := good_set good hq bang.1
      refine mk_leaf (v := y) (fs := fs.set i (q.1, "!" ++ Txt.slice q.2 (some 1) none)) (Rep.loose (d := filesD _) rB) gset fun t4 HC sC ht4 => ?_
      replace A := (A3.same sB).same sC
      refine eq_tree TF A.ht pok ht4 gset.ok ⟨_, rfl, ?_⟩
      rw [decide_eq_false (set_ne fok hq bang.2)]
      refine iteF ?_
      obtain ⟨_, fvs, e, hft, hfz, hfs⟩ := id A.hf
      cases e
      have fl := hfs.len
      rw [List.length_map] at fl
      refine tt_and <| tt_b <| te_op <| te_cb <| ta_cons <| te_v rfl <| ta_nil ⟨ft, fvs, rfl, .inr (.inl hft), te_c ?_⟩
      refine ⟨_, _, rfl, rfl, _, rfl, ite2 (fun z => ?_) (fun _ => iteF ⟨rfl, A⟩)⟩
      have z := of_decide_eq_true z
      have hl : fs[fs.length - 1]? = some fs[fs.length - 1] := List.getElem?_eq_getElem (by omega)
      generalize fs[fs.length - 1] = ql at hl
      have cl := (fok.ct ql (List.mem_of_getElem? hl)).cont
      refine tt_b <| te_op <| te_v rfl <| te_make <| ta_cons <| te_op <| te_sl <| te_v rfl <| to_no <| to_part <| te_un <| te_c ⟨1, rfl, _, rfl, init_ok A.hf fne fun q1 HD sD r1 => ?_⟩
      replace A := A.same sD
      refine te_tup <| ta_cons <| te_tup <| ta_cons <| te_c <| ta_cons <| te_op <| te_op <| te_v rfl <| te_un <| te_c ⟨1, rfl, file_at A.hf ixl hl fun t5 ht5 => te_c <| pair1 ht5 <| ta_nil ⟨(by show 2 ≤ sizeLine; decide), fun t6 ht6 => ta_nil ⟨(by show 1 ≤ sizeLine; decide), fun t7 ht7 => ?_⟩⟩⟩
      have s6 : Same HD (upd HD t6 (.tup [.str "zz/zz", .str ql.2])) := Same.new ht6
      have p6 : Rep (upd HD t6 (.tup [.str "zz/zz", .str ql.2])) (pairD ("zz/zz", ql.2)) (.ref t6) := pair_rep upd_same
      replace A := A.same s6
      replace r1 := Rep.keep (d := filesD fs.dropLast) (Same.tk s6) r1
      generalize upd HD t6 (.tup [.str "zz/zz", .str ql.2]) = HE at A r1 p6 ht7 ⊢
      have s7 : Same HE (upd HE t7 (.tup [.ref t6])) := Same.new ht7
      have p7 : upd HE t7 (.tup [.ref t6]) t7 = some (.tup [.ref t6]) := upd_same
      replace A := A.same s7
      replace r1 := Rep.keep (d := filesD fs.dropLast) (Same.tk s7) r1
      replace p6 := Rep.keep (Same.tk s7) p6
      generalize upd HE t7 (.tup [.ref t6]) = HF at A r1 p6 p7 ⊢
      obtain ⟨_, xs, e, hx, hxz, rx⟩ := r1
      cases e
      have xl := rx.len
      rw [List.length_map, List.length_dropLast] at xl
      have xne : xs ≠ [] := fun e => by
        rw [e] at xl
        simp only [List.length_nil] at xl
        omega
      refine ⟨q1, t7, xs, [.ref t6], rfl, rfl, .inl hx, SqT.of p7, small_of (by simp only [List.length_cons, List.length_nil]; omega), fun e => absurd e xne, (fun _ e => nomatch e), fun _ _ t8 ht8 => ta_nil ?_⟩
      have s8 : Same HF (upd HF t8 (.tup (xs ++ [.ref t6]))) := Same.new ht8
      have r8 : Rep (upd HF t8 (.tup (xs ++ [.ref t6]))) (filesD (fs.dropLast ++ [(("zz/zz" : Str), ql.2)])) (.ref t8) := by
        refine ⟨t8, _, rfl, .inl upd_same, small_of (by rw [List.length_append]; simp only [List.length_cons, List.length_nil]; omega), ?_⟩
        rw [List.map_append]
        exact Reps.snoc (Reps.keep (Same.tk s8) rx) (Rep.keep (Same.tk s8) p6)
      replace A := A.same s8
      generalize upd HF t8 (.tup (xs ++ [.ref t6])) = HG at A r8 ⊢
      have gl := good_last fok fasc cl (by omega)
      refine mk_leaf (v := .ref t8) (fs := fs.dropLast ++ [(("zz/zz" : Str), ql.2)]) (Rep.loose (d := filesD _) r8) gl fun t9 HH sH ht9 => ?_
      replace A := A.same sH
      refine eq_tree TF A.ht pok ht9 gl.ok ⟨_, rfl, ?_⟩
      rw [decide_eq_false (last_ne fok)]
      exact iteF ⟨rfl, A⟩
    clear A fpos hq ix0 ixl H8 H9 d0 d1
    rintro σ' H8 ⟨rfl, A⟩
    refine st_seq <| st_asg <| te_call <| ta_cons <| te_v rfl <| ta_cons <| te_v rfl <| ta_cons <| te_v rfl <| ta_nil ⟨p, b, row, .ref ft, fs, rfl, A.sp, A.hf, fok, fne, fun e1 es1 H9 g9 r1 eok1 easc1 => st_g ?_⟩
    dsimp only
    replace A := A.go g9
    clear g9
    refine st_seq <| st_asg <| te_call <| ta_cons <| te_v rfl <| ta_cons <| te_v rfl <| ta_cons <| te_v rfl <| ta_nil ⟨p, b, row, .ref ft, fs, rfl, A.sp, A.hf, fok, fne, fun e2 es2 HA gA r2 eok2 easc2 => st_g ?_⟩
    dsimp only
    replace r1 := Rep.go (d := editD es1) A.sp.cell gA r1
    replace A := A.go gA
    clear gA
    refine st_seq <| st_asg <| te_call <| ta_cons <| te_v rfl <| ta_cons <| te_call <| ta_cons <| te_v rfl <| ta_cons <| te_call <| ta_cons <| te_v rfl <| ta_cons <| te_v rfl <| ta_cons <| te_c <| ta_nil ⟨p, b, row, 2, rfl, A.sp, by decide, fun d HB gB _ _ => ta_nil ?_⟩
    replace r1 := Rep.go (d := editD es1) A.sp.cell gB r1
    replace r2 := Rep.go (d := editD es2) A.sp.cell gB r2
    replace A := A.go gB
    have de1 := dep_edit es1
    refine ⟨editD es1, e1, d, rfl, r1, by omega, fun x HC sC rx => ta_nil ?_⟩
    replace r1 := Rep.keep (d := editD es1) (Same.tk sC) r1
    replace r2 := Rep.keep (d := editD es2) (Same.tk sC) r2
    replace A := A.same sC
    refine ⟨tr, x, fs, es1, rfl, A.ht, fok, rx.any, eok1, easc1, fun ou gs HD sD hou gok gasc gval => st_g ?_⟩
    dsimp only
    replace r1 := Rep.keep (d := editD es1) (Same.tk sD) r1
    replace r2 := Rep.keep (d := editD es2) (Same.tk sD) r2
    replace A := A.same sD
    refine st_seq <| st_asg <| te_callw <| ta_cons <| te_v rfl <| ta_cons <| te_v rfl <| ta_nil ⟨rfl, tr, e2, fs, es2, rfl, A.ht, fok, Rep.loose r2, eok2, easc2, fun th hs HE sE hth hok hasc hval => st_g ?_⟩
    dsimp only
    replace r1 := Rep.keep (d := editD es1) (Same.tk sE) r1
    replace r2 := Rep.keep (d := editD es2) (Same.tk sE) r2
    replace A := A.same sE
    have B : Fc K C p b row (.ref ft) fs tr ou th gs hs HE := ⟨A, hou.same sE, hth⟩
    clear A hou hth sE sD sC gB rx
    have goodg := gok.good gasc
    have goodh := hok.good hasc
    have dpg := dep_files gs
    have dph := dep_files hs
    refine ⟨fun σ' H' => σ' = [some (.ref a), some (.ref p), some (.ref b), some (.ref ft), some (.ref D), some (.ref tr), some (.int i), some e1, some e2, some (.ref ou), some (.ref th), none, none, none, none, none, none] ∧ Fc K C p b row (.ref ft) fs tr ou th gs hs H', ?_, ?_⟩
    · refine tt_or <| tt_not <| tt_b <| te_call <| ta_cons <| te_filesV rfl B.o fun t o vs h1 h2 h3 h4 => ?_
      have rt := frz_rep h1 h3 h4
      clear h1 h2 h3 h4
      refine ta_cons <| te_call <| ta_cons <| te_v rfl <| ta_cons <| te_v rfl <| ta_nil ⟨.ref ft, e1, fs, es1, rfl, B.A.hf, fok, r1, eok1, fun x gs' HF sF rx gok' gasc' gval' => ta_nil ?_⟩
      obtain rfl := fs_unique gasc gasc' fun p => (gval p).trans (gval' p).symm
      refine ⟨filesD gs, filesD gs, .ref t, x, rfl, Rep.keep (d := filesD gs) (Same.tk sF) rt, rx, by omega, _, rfl, ?_⟩
      rw [Kd.D.eqb_refl]
      refine iteF ?_
      replace r2 := Rep.keep (d := editD es2) (Same.tk sF) r2
      replace B := B.same sF
      clear rt rx sF
      refine tt_not <| tt_b <| te_call <| ta_cons <| te_filesV rfl B.t fun t o vs h1 h2 h3 h4 => ?_
      have rt := frz_rep h1 h3 h4
      clear h1 h2 h3 h4
      refine ta_cons <| te_call <| ta_cons <| te_v rfl <| ta_cons <| te_v rfl <| ta_nil ⟨.ref ft, e2, fs, es2, rfl, B.A.hf, fok, r2, eok2, fun x hs' HG sG rx hok' hasc' hval' => ta_nil ?_⟩
      obtain rfl := fs_unique hasc hasc' fun p => (hval p).trans (hval' p).symm
      refine ⟨filesD hs, filesD hs, .ref t, x, rfl, Rep.keep (d := filesD hs) (Same.tk sG) rt, rx, by omega, _, rfl, ?_⟩
      rw [Kd.D.eqb_refl]
      exact iteF ⟨rfl, B.same sG⟩
    clear B r1 r2 HE HD HC HB HA H9 H8 de1 x
    rintro σ' H8 ⟨rfl, B⟩
    refine ⟨fun σ' H' => σ' = [some (.ref a), some (.ref p), some (.ref b), some (.ref ft), some (.ref D), some (.ref tr), some (.int i), some e1, some e2, some (.ref ou), some (.ref th), none, none, none, none, none, none] ∧ Fc K C p b row (.ref ft) fs tr ou th gs hs H', ?_, ?_⟩
    · refine tt_or <| tt_not <| tt_b <| te_call <| ta_cons <| te_call <| ta_cons <| te_v rfl <| ta_cons <| te_v rfl <| ta_nil ⟨ou, th, gs, hs, rfl, B.o, gok, B.t, hok, fun x ks H9 s9 rx kasc kmem => ?_⟩
      replace B := B.same s9
      refine ta_cons <| te_call <| ta_cons <| te_filesV rfl B.o fun t o vs h1 h2 h3 h4 => ?_
      have rt := frz_rep h1 h3 h4
      clear h1 h2 h3 h4
      refine ta_cons <| te_filesV rfl B.t fun t' o vs h1 h2 h3 h4 => ?_
      have rt' := frz_rep h1 h3 h4
      clear h1 h2 h3 h4
      refine ta_nil ⟨.ref t, .ref t', gs, hs, rfl, rt, gok, rt', hok, fun y ls HA sA ry lasc lmem => ta_nil ?_⟩
      obtain rfl := Keys2.one kasc lasc kmem lmem
      have db := dep_edit (betweenL gs hs ks)
      refine ⟨editD (betweenL gs hs ks), editD (betweenL gs hs ks), x, y, rfl, Rep.keep (d := editD _) (Same.tk sA) rx, ry, by omega, _, rfl, ?_⟩
      rw [Kd.D.eqb_refl]
      refine iteF ?_
      replace B := B.same sA
      clear rt rt' rx ry sA s9 db x y
      refine tt_not <| tt_b <| te_op <| te_call <| ta_cons <| te_v rfl <| ta_cons <| te_call <| ta_cons <| te_v rfl <| ta_cons <| te_v rfl <| ta_nil ⟨ou, th, gs, hs, rfl, B.o, gok, B.t, hok, fun x ls HB sB rx lasc lmem => ta_nil ?_⟩
      replace B := B.same sB
      refine ⟨ou, x, gs, betweenL gs hs ls, rfl, B.o, gok, Rep.loose (d := editD _) rx, EOk.between gok hok lasc lmem, betweenL_asc gs hs lasc, fun w ws HC sC hw wok wasc wval => ?_⟩
      replace B := B.same sC
      obtain rfl := fs_unique wasc hasc fun p => (wval p).trans (between_val lasc lmem p)
      refine te_v rfl <| eq_tree TF hw goodh.ok B.t goodh.ok ⟨_, rfl, ?_⟩
      rw [decide_eq_true rfl]
      exact iteF ⟨rfl, B⟩
    clear B H8
    rintro σ' H8 ⟨rfl, B⟩
    refine st_seq <| st_if <| tt_not <| tt_b <| te_call <| ta_cons <| te_callw <| ta_cons <| te_v rfl <| ta_cons <| te_v rfl <| ta_nil ⟨rfl, tr, ou, fs, gs, rfl, B.A.ht, fok, B.o, gok, fun x ks H9 s9 rx kasc kmem => ?_⟩
    replace B := B.same s9
    refine ta_cons <| te_cb <| ta_cons <| te_lc ?_
    unfold iTup
    refine te_call <| ta_cons <| te_v rfl <| ta_cons <| te_filesV rfl B.o fun t o vs h1 h2 h3 h4 => ta_nil ⟨.ref ft, .ref t, fs, gs, rfl, B.A.hf, fok, frz_rep h1 h3 h4, gok, fun y ls HA sA ry lasc lmem => ?_⟩
    clear h1 h2 h3 h4
    obtain rfl := Keys2.one kasc lasc kmem lmem
    replace B := B.same sA
    replace rx := Rep.keep (Same.tk sA) rx
    obtain ⟨yt, yvs, rfl, hy, hyz, hys⟩ := ry
    have yl := hys.len
    rw [List.length_map] at yl
    generalize betweenL fs gs ks = es at hys yl rx
    refine ⟨yt, rfl, ⟨_, .inl hy⟩, fun D2 hD2 => lc_tup (K := K) (a := yt) (xs := yvs) (fun i H2 => Same HA H2 ∧ H2 D2 = some (.lst ((es.take i).map fun q => V.str q.1))) ⟨Same.new hD2, upd_same⟩ (fun i H2 _ q => .inl (Rd.same q.1 hy)) ?_ ?_⟩
    · rintro j z H2 hz ⟨s2, e2⟩
      have hil : j < es.length := by
        have := (List.getElem?_eq_some_iff.mp hz).1
        omega
      have hq : es[j]? = some es[j] := List.getElem?_eq_getElem hil
      obtain ⟨v, hv, hrep⟩ := hys.get (i := j) (d := changeD es[j]) (by rw [List.getElem?_map, hq]; rfl)
      obtain rfl : v = z := Option.some.inj (hv.symm.trans hz)
      obtain ⟨c, ws, rfl, hc1, a1⟩ := change_at1 (hrep.keep (Same.tk s2))
      refine ⟨rfl, _, rfl, c, ws, 1, _, rfl, rfl, .inl hc1, a1, _, e2, ?_, Same.mut s2 hD2, ?_⟩
      · rw [List.length_map, List.length_take]
        rw [sizeLine_eq] at hyz ⊢
        omega
      · rw [upd_same, List.take_add_one, hq, List.map_append]
        rfl
    rintro HB ⟨sB, eB⟩
    rw [yl, List.take_length] at eB
    refine ⟨D2, _, rfl, .inl ⟨SqL.of eB, fun l hl => ta_nil ?_⟩⟩
    have sC : Same HA (upd HB l (.tup (es.map fun q => V.str q.1))) := fun b o e => by rw [upd_ne (ne_of_none (sB b o e) hl)]; exact sB b o e
    have rl : Rep (upd HB l (.tup (es.map fun q => V.str q.1))) (.tup (es.map fun q => Kd.D.str q.1)) (.ref l) := by
      refine ⟨l, _, rfl, .inl upd_same, by rw [List.length_map]; omega, ?_⟩
      have sr : ∀ (H : Hp) (xs : List (Str × Option Str)), Reps H (xs.map fun q => Kd.D.str q.1) (xs.map fun q => V.str q.1) := fun H xs => by
        induction xs with
        | nil => rfl
        | cons q r ih => exact ⟨_, _, rfl, rfl, ih⟩
      exact sr _ es
    replace B := B.same sC
    replace rx := Rep.keep (Same.tk sC) rx
    generalize upd HB l (.tup (es.map fun q => V.str q.1)) = HC at B rx rl
    have dl : Kd.D.dep (.tup (es.map fun q => Kd.D.str q.1)) < 5 := by
      have h : Kd.D.deps (es.map fun q => Kd.D.str q.1) ≤ 0 := by
        clear hys yl eB rx rl sC sB hD2
        induction es with
        | nil => exact Nat.le_refl _
        | cons q r ih =>
          have e : Kd.D.deps ((q :: r).map fun q => Kd.D.str q.1) = max 0 (Kd.D.deps (r.map fun q => Kd.D.str q.1)) := rfl
          omega
      show Kd.D.deps (es.map fun q => Kd.D.str q.1) + 1 < 5
      omega
    refine ⟨_, _, x, .ref l, rfl, rx, rl, dl, _, rfl, ?_⟩
    rw [Kd.D.eqb_refl]
    refine iteF (st_next ?_)
    dsimp only
    clear rx rl dl sC sB eB hl yl hys hyz hy sA s9 kasc kmem lasc lmem
    refine st_seq <| st_if <| tt_not <| tt_b <| te_op <| te_op <| te_call <| ta_cons <| te_v rfl <| ta_cons <| te_v rfl <| ta_cons <| te_v rfl <| ta_nil ⟨tr, ou, ou, fs, gs, gs, allPaths, rfl, B.A.ht, good, B.o, goodg, B.o, goodg, by decide, in_all fok gok gok, fun x ks H9 s9 kasc kmem hc _ => te_c ?_⟩
    replace B := B.same s9
    obtain ⟨t, d, rfl, ht, hd⟩ := hc (clash_none fun p => by rw [one_self]; rfl)
    rw [made_self kasc gasc kmem] at hd
    refine ⟨t, _, 1, .ref d, rfl, rfl, .inl ht, rfl, te_v rfl <| eq_tree TF hd goodg.ok B.o goodg.ok ⟨_, rfl, ?_⟩⟩
    rw [decide_eq_true rfl]
    refine iteF (st_next ?_)
    dsimp only
    clear ht hd hc kasc kmem s9
    have glow : Good lowF := good_of (by decide +kernel)
    have ghigh : Good highF := good_of (by decide +kernel)
    have gmid : Good midF := good_of (by decide +kernel)
    have gb1 : Good [(("b" : Str), ("0" : Str))] := good_of (by decide +kernel)
    have gc1 : Good [(("c" : Str), ("0" : Str))] := good_of (by decide +kernel)
    refine st_seq <| st_asg <| te_make <| ta_cons <| lit3 fun t1 HD sD rD => ta_nil <| mk_leaf (v := .ref t1) (fs := lowF) (Rep.loose (d := filesD _) rD) glow fun lo HE sE hlo => st_g ?_
    dsimp only
    replace B := (B.same sD).same sE
    clear sD rD sE
    refine st_seq <| st_asg <| te_make <| ta_cons <| lit3 fun t2 HF sF rF => ta_nil <| mk_leaf (v := .ref t2) (fs := highF) (Rep.loose (d := filesD _) rF) ghigh fun hi' HG sG hhi => st_g ?_
    dsimp only
    replace B := (B.same sF).same sG
    replace hlo := (hlo.same sF).same sG
    clear sF rF sG
    refine ⟨fun σ' H' => σ' = [some (.ref a), some (.ref p), some (.ref b), some (.ref ft), some (.ref D), some (.ref tr), some (.int i), some e1, some e2, some (.ref ou), some (.ref th), some (.ref lo), some (.ref hi'), none, none, none, none] ∧ Fc K C p b row (.ref ft) fs tr ou th gs hs H', ?_, ?_⟩
    · refine tt_or <| tt_b <| te_op <| te_call <| ta_cons <| te_v rfl <| ta_cons <| te_v rfl <| ta_cons <| te_make <| ta_cons <| lit2 fun t3 HH sH rH => ta_nil <| mk_leaf (v := .ref t3) (fs := midF) (Rep.loose (d := filesD _) rH) gmid fun bt HI sI hbt => ?_
      replace B := (B.same sH).same sI
      replace hlo := (hlo.same sH).same sI
      replace hhi := (hhi.same sH).same sI
      refine ta_nil ⟨lo, hi', bt, lowF, highF, midF, abc, rfl, hlo, glow, hhi, ghigh, hbt, gmid, by decide, fun q hq => ?_, fun x ks HJ sJ kasc kmem _ hn => ?_⟩
      · rcases hq with (h | h) | h
        · exact h
        · exact h
        · exact List.mem_cons_of_mem _ h
      obtain rfl := abc_of kasc kmem (fun _ h => h) (fun _ h => List.mem_cons_of_mem _ h)
      rw [low_clash] at hn
      replace hn := hn (by decide)
      replace B := B.same sJ
      replace hlo := hlo.same sJ
      refine te_tup <| ta_cons <| te_c <| ta_cons <| te_tup <| ta_strs ⟨(by show 2 ≤ sizeLine; decide), fun t4 ht4 => ta_nil ⟨(by show 2 ≤ sizeLine; decide), fun t5 ht5 => ?_⟩⟩
      have s4 : Same HJ (upd HJ t4 (.tup (ab.map V.str))) := Same.new ht4
      have r4 : upd HJ t4 (.tup (ab.map V.str)) t4 = some (.tup (ab.map V.str)) := upd_same
      have s5 : Same (upd HJ t4 (.tup (ab.map V.str))) (upd (upd HJ t4 (.tup (ab.map V.str))) t5 (.tup [.str "clash", .ref t4])) := Same.new ht5
      have r5 := told_rep (nm := "clash") upd_same (s5 _ _ r4) (by decide) (strs_reps ab)
      replace hn := Rep.keep (Same.tk s5) (Rep.keep (Same.tk s4) hn)
      replace B := (B.same s4).same s5
      replace hlo := (hlo.same s4).same s5
      generalize upd (upd HJ t4 (.tup (ab.map V.str))) t5 (.tup [.str "clash", .ref t4]) = HK at hn r5 B hlo ⊢
      refine ⟨_, _, Rep.dp hn, Rep.dp r5, by decide +kernel, by decide +kernel, _, rfl, ?_⟩
      have ev : (!PyData.eqv (py (.tup [.str "clash", .tup (ab.map Kd.D.str)])) (py (.tup [.str "clash", .tup (ab.map Kd.D.str)]))) = false := by decide +kernel
      rw [ev]
      refine iteF ?_
      clear ev hn r5 s5 r4 s4 ht4 ht5 sJ hbt rH sH sI hhi kasc kmem
      refine tt_b <| te_op <| te_prop <| te_op <| te_call <| ta_cons <| te_v rfl <| ta_cons <| te_make <| ta_cons <| lit1 fun t6 HL sL rL => ta_nil <| mk_leaf (v := .ref t6) (fs := [(("b" : Str), ("0" : Str))]) (Rep.loose (d := filesD _) rL) gb1 fun x1 HM sM h1 => ?_
      replace B := (B.same sL).same sM
      replace hlo := (hlo.same sL).same sM
      refine ta_cons <| te_make <| ta_cons <| lit1 fun t7 HN sN rN => ta_nil <| mk_leaf (v := .ref t7) (fs := [(("c" : Str), ("0" : Str))]) (Rep.loose (d := filesD _) rN) gc1 fun x2 HO' sO h2 => ?_
      replace B := (B.same sN).same sO
      replace hlo := (hlo.same sN).same sO
      replace h1 := (h1.same sN).same sO
      refine ta_nil ⟨lo, x1, x2, lowF, _, _, abc, rfl, hlo, glow, h1, gb1, h2, gc1, by decide, fun q hq => ?_, fun x ks HP sP kasc kmem hc _ => te_c ?_⟩
      · rcases hq with (h | h) | h
        · exact h
        · exact in_one (x := "b") h (by decide)
        · exact in_one (x := "c") h (by decide)
      obtain rfl := abc_of kasc kmem (fun _ h => in_one (x := "b") h (by decide)) (fun _ h => in_one (x := "c") h (by decide))
      rw [low_made] at hc
      obtain ⟨t8, d8, rfl, ht8, hd8⟩ := hc low_none
      replace B := B.same sP
      refine ⟨t8, _, 1, .ref d8, rfl, rfl, .inl ht8, rfl, files_leaf hd8 fun t9 o vs g1 g2 g3 g4 => ?_⟩
      have r9 := frz_rep g1 g3 g4
      refine te_tup <| ta_nil ⟨(by show 0 ≤ sizeLine; decide), fun tz htz => ?_⟩
      have sz : Same HP (upd HP tz (.tup [])) := Same.new htz
      have rz : Rep (upd HP tz (.tup [])) (filesD []) (.ref tz) := ⟨tz, [], rfl, .inl upd_same, by decide, rfl⟩
      refine ⟨_, _, Rep.dp (d := filesD []) (Rep.keep (d := filesD []) (Same.tk sz) r9), Rep.dp (d := filesD []) rz, by decide +kernel, by decide +kernel, _, rfl, ?_⟩
      exact iteF ⟨rfl, B.same sz⟩
    clear hlo hhi B glow ghigh gmid gb1 gc1 H8
    rintro σ' H8 ⟨rfl, B⟩
    refine st_seq <| st_asg <| te_call <| ta_cons <| te_v rfl <| ta_cons <| te_filesV rfl B.o fun t o vs h1 h2 h3 h4 => ?_
    have rt := frz_rep h1 h3 h4
    clear h1 h2 h3 h4
    refine ta_cons <| te_filesV rfl B.t fun t' o vs h1 h2 h3 h4 => ?_
    have rt' := frz_rep h1 h3 h4
    clear h1 h2 h3 h4
    refine ta_nil ⟨.ref ft, .ref t, .ref t', fs, gs, hs, rfl, B.A.hf, fok, rt, gok, rt', hok, fun due ks H9 s9 rdue kasc kmem => st_g ?_⟩
    dsimp only
    replace B := B.same s9
    clear rt rt' s9
    refine st_seq <| st_asg <| te_call <| ta_cons <| te_v rfl <| ta_cons <| te_v rfl <| ta_cons <| te_v rfl <| ta_nil ⟨tr, ou, th, fs, gs, hs, allPaths, rfl, B.A.ht, good, B.o, goodg, B.t, goodh, by decide, in_all fok gok hok, fun told l2 HA sA lasc2 lmem2 tc tn => st_g ?_⟩
    dsimp only
    obtain rfl : ks = l2 := Keys3.one kasc lasc2 kmem lmem2
    replace B := B.same sA
    replace rdue := Rep.keep (Same.tk sA) rdue
    refine st_seq <| st_asg <| te_callw <| ta_cons <| te_v rfl <| ta_cons <| te_v rfl <| ta_cons <| te_v rfl <| ta_nil ⟨rfl, tr, th, ou, fs, hs, gs, allPaths, rfl, B.A.ht, good, B.t, goodh, B.o, goodg, by decide, in_all fok hok gok, fun back l3 HB sB lasc3 lmem3 bc bn => st_g ?_⟩
    dsimp only
    obtain rfl : ks = l3 := Keys3.one kasc lasc3 kmem (Keys3.swap lmem3)
    replace B := B.same sB
    replace rdue := Rep.keep (Same.tk sB) rdue
    rw [← clash_swap fs gs hs ks, ← made_swap fs gs hs ks] at bc
    rw [← clash_swap fs gs hs ks] at bn
    by_cases hcl : clashL fs gs hs ks = []
    · unfold mergedD at rdue
      rw [if_pos hcl] at rdue
      obtain ⟨dt, du, rfl, hdt, hdu⟩ := rep_two rdue
      obtain ⟨tt, td, rfl, htt, htd⟩ := tc hcl
      obtain ⟨bt, bd, rfl, hbt, hbd⟩ := bc hcl
      replace htt := Rd.same sB htt
      replace htd := htd.same sB
      clear tc tn bc bn sB sA lasc2 lmem2 lasc3 lmem3 rdue
      have gm : Good (madeL fs gs hs ks) := by
        have l60 : ks.length ≤ 60 := Nat.le_trans (nodup_le (ys := allPaths) kasc.nodup fun p hp => in_all fok gok hok p ((kmem p).mp hp)) (by decide)
        exact made_good goodg goodh kasc l60
      have dpm := dep_files (madeL fs gs hs ks)
      refine ⟨fun σ' H' => σ' = [some (.ref a), some (.ref p), some (.ref b), some (.ref ft), some (.ref D), some (.ref tr), some (.int i), some e1, some e2, some (.ref ou), some (.ref th), some (.ref lo), some (.ref hi'), some (.ref dt), some (.ref tt), some (.ref bt), none] ∧ H' = HB, ?_, ?_⟩
      · refine tt_or <| tt_b <| te_op <| te_op <| te_v rfl <| te_c ⟨tt, _, 0, .str "tree", rfl, rfl, .inl htt, rfl, te_op <| te_v rfl <| te_c ⟨dt, _, 0, .str "tree", rfl, rfl, .inl hdt, rfl, rfl, _, rfl, ite2 (fun z => by simp at z) (fun _ => ?_)⟩⟩
        exact tt_b <| te_op <| te_op <| te_v rfl <| te_c ⟨bt, _, 0, .str "tree", rfl, rfl, .inl hbt, rfl, te_op <| te_v rfl <| te_c ⟨dt, _, 0, .str "tree", rfl, rfl, .inl hdt, rfl, rfl, _, rfl, ite2 (fun z => by simp at z) (fun _ => ⟨rfl, rfl⟩)⟩⟩
      rintro σ' H' ⟨rfl, rfl⟩
      refine st_seq <| st_if <| tt_b <| te_op <| te_op <| te_v rfl <| te_c ⟨dt, _, 0, .str "tree", rfl, rfl, .inl hdt, rfl, te_c ⟨rfl, _, rfl, ite2 (fun z => absurd (V.str.inj (of_decide_eq_true z)) (by decide)) (fun _ => st_next ?_)⟩⟩
      dsimp only
      refine ⟨fun σ' H' => σ' = [some (.ref a), some (.ref p), some (.ref b), some (.ref ft), some (.ref D), some (.ref tr), some (.int i), some e1, some e2, some (.ref ou), some (.ref th), some (.ref lo), some (.ref hi'), some (.ref dt), some (.ref tt), some (.ref bt), none] ∧ Fc K C p b row (.ref ft) fs tr ou th gs hs H' ∧ Rd H' tt (.tup [.str "tree", .ref td]) ∧ TreeAt C H' td (madeL fs gs hs ks), ?_, ?_⟩
      · refine tt_or <| tt_not <| tt_b <| te_call <| ta_cons <| te_prop <| te_op <| te_v rfl <| te_c ⟨tt, _, 1, .ref td, rfl, rfl, .inl htt, rfl, files_leaf htd fun t o vs h1 h2 h3 h4 => ta_cons <| te_op <| te_v rfl <| te_c ⟨dt, _, 1, du, rfl, rfl, .inl hdt, rfl, ta_nil ⟨filesD (madeL fs gs hs ks), filesD (madeL fs gs hs ks), .ref t, du, rfl, frz_rep h1 h3 h4, hdu, by omega, _, rfl, ?_⟩⟩⟩
        rw [Kd.D.eqb_refl]
        refine iteF ?_
        refine tt_or <| tt_not <| tt_b <| te_op <| te_op <| te_v rfl <| te_c ⟨bt, _, 1, .ref bd, rfl, rfl, .inl hbt, rfl, te_op <| te_v rfl <| te_c ⟨tt, _, 1, .ref td, rfl, rfl, .inl htt, rfl, eq_tree TF hbd gm.ok htd gm.ok ⟨_, rfl, ?_⟩⟩⟩
        rw [decide_eq_true rfl]
        refine iteF ?_
        refine tt_not <| tt_b <| te_op <| te_op <| te_call <| ta_cons <| te_v rfl <| ta_cons <| te_v rfl <| ta_cons <| te_v rfl <| ta_nil ⟨tr, ou, tr, fs, gs, fs, allPaths, rfl, B.A.ht, good, B.o, goodg, B.A.ht, good, by decide, in_all fok gok fok, fun x ls HC sC lasc lmem hc _ => te_c ?_⟩
        obtain ⟨t9, d9, rfl, h9, hd9⟩ := hc (clash_none fun p => by rw [one_base]; rfl)
        rw [made_base lasc gasc lmem] at hd9
        replace B := B.same sC
        refine ⟨t9, _, 1, .ref d9, rfl, rfl, .inl h9, rfl, te_v rfl <| eq_tree TF hd9 goodg.ok B.o goodg.ok ⟨_, rfl, ?_⟩⟩
        rw [decide_eq_true rfl]
        exact iteF ⟨rfl, B, Rd.same sC htt, htd.same sC⟩
      clear B htt htd hbt hbd hdt hdu
      rintro σ' H8 ⟨rfl, B, htt, htd⟩
      refine st_ret <| te_orv <| te_op <| te_call <| ta_cons <| te_v rfl <| ta_cons <| te_call <| ta_cons <| te_v rfl <| ta_cons <| te_v rfl <| ta_nil ⟨tr, th, fs, hs, rfl, B.A.ht, fok, B.t, hok, fun x ls HC sC rx lasc lmem => ta_nil ?_⟩
      replace B := B.same sC
      refine ⟨ou, x, gs, betweenL fs hs ls, rfl, B.o, gok, Rep.loose (d := editD _) rx, EOk.between fok hok lasc lmem, betweenL_asc fs hs lasc, fun w ws HD sD hw wok wasc wval => ?_⟩
      replace B := B.same sD
      replace htt := Rd.same sD (Rd.same sC htt)
      replace htd := (htd.same sC).same sD
      refine te_op <| te_v rfl <| te_c ⟨tt, _, 1, .ref td, rfl, rfl, .inl htt, rfl, eq_tree TF hw (wok.good wasc).ok htd gm.ok ⟨_, rfl, ite2 (fun _ => kend _) (fun z => ?_)⟩⟩
      have hne : ws ≠ madeL fs gs hs ks := fun e => z (decide_eq_true e)
      refine te_op <| te_cb <| ta_cons <| te_call <| ta_cons <| te_v rfl <| ta_cons <| te_v rfl <| ta_nil ⟨tr, ou, fs, gs, rfl, B.A.ht, fok, B.o, gok, fun y ms HE sE ry masc mmem => ?_⟩
      obtain ⟨yt, yvs, rfl, hy, hyz, hys⟩ := ry
      have yl := hys.len
      rw [List.length_map] at yl
      refine ta_nil ⟨yt, yvs, rfl, .inr (.inl hy), te_c ⟨_, _, rfl, rfl, ?_⟩⟩
      have pos : 0 < yvs.length := by
        rcases Nat.eq_zero_or_pos yvs.length with e | e
        · exfalso
          have hn : betweenL fs gs ms = [] := List.length_eq_zero_iff.mp (by omega)
          have hfg := between_nil fasc gasc masc mmem hn
          subst hfg
          refine hne (fs_unique wasc (madeL_asc fs fs hs kasc) fun p => ?_)
          rw [wval p, between_val lasc lmem p, made_base2 kasc hasc kmem]
        · exact e
      have e : decide ((0 : Int) < (yvs.length : Int)) = true := decide_eq_true (by omega)
      show Q (.bl (decide ((0 : Int) < (yvs.length : Int)))) HE
      rw [e]
      exact kend _
    · unfold mergedD at rdue
      rw [if_neg hcl] at rdue
      have rtold := Rep.keep (Same.tk sB) (tn hcl)
      have rback := bn hcl
      clear tc tn bc bn sB sA lasc2 lmem2 lasc3 lmem3
      have dpc := dep_clash (clashL fs gs hs ks)
      obtain ⟨dt, du, e1', hdt, _⟩ := rep_two rdue
      obtain ⟨tt, tu, e2', htt, _⟩ := rep_two rtold
      obtain ⟨bt, bu, e3', hbt, _⟩ := rep_two rback
      subst e1' e2' e3'
      refine ⟨fun σ' H' => σ' = [some (.ref a), some (.ref p), some (.ref b), some (.ref ft), some (.ref D), some (.ref tr), some (.int i), some e1, some e2, some (.ref ou), some (.ref th), some (.ref lo), some (.ref hi'), some (.ref dt), some (.ref tt), some (.ref bt), none] ∧ H' = HB, ?_, ?_⟩
      · refine tt_or <| tt_b <| te_op <| te_op <| te_v rfl <| te_c ⟨tt, _, 0, .str "clash", rfl, rfl, .inl htt, rfl, te_op <| te_v rfl <| te_c ⟨dt, _, 0, .str "clash", rfl, rfl, .inl hdt, rfl, rfl, _, rfl, ite2 (fun z => by simp at z) (fun _ => ?_)⟩⟩
        exact tt_b <| te_op <| te_op <| te_v rfl <| te_c ⟨bt, _, 0, .str "clash", rfl, rfl, .inl hbt, rfl, te_op <| te_v rfl <| te_c ⟨dt, _, 0, .str "clash", rfl, rfl, .inl hdt, rfl, rfl, _, rfl, ite2 (fun z => by simp at z) (fun _ => ⟨rfl, rfl⟩)⟩⟩
      rintro σ' H' ⟨rfl, rfl⟩
      refine st_seq <| st_if <| tt_b <| te_op <| te_op <| te_v rfl <| te_c ⟨dt, _, 0, .str "clash", rfl, rfl, .inl hdt, rfl, te_c ⟨rfl, _, rfl, ite2 (fun _ => ?_) (fun z => absurd (decide_eq_true rfl) z)⟩⟩
      refine st_ret <| te_andv <| te_call <| ta_cons <| te_v rfl <| ta_cons <| te_v rfl <| ta_nil ⟨_, _, .ref tt, .ref dt, rfl, rtold, rdue, by omega, _, rfl, ?_⟩
      rw [Kd.D.eqb_refl]
      refine iteT ?_
      refine te_call <| ta_cons <| te_v rfl <| ta_cons <| te_v rfl <| ta_nil ⟨_, _, .ref bt, .ref dt, rfl, rback, rdue, by omega, ?_⟩
      rw [Kd.D.eqb_refl]
      exact kend _
end
end Kl

namespace Kl
open PySem L2 Kd
theorem all_mk {l : PySem.W.OpenLaw} {w : World} {K : PySem.W.Frag} {h : Heap} {mg : Str → Option Value} {fa fSq fRw fSh fWd fPt fSg fCt fAs fFi fCk fCh fIe fMd fEd fBt fTo fMg fSo fNu fDr fTk fLo fSe fTx fEx fRr fSr fCo fPr fOr fGr fTr fLe fLd fLb fLm fM C fI fP fE pF TI eI : Addr} (X : K.In h) (G : h.Ns mainGlobals mg) (hfa : mg "law" = some (.ref fa))
    {odSq anSq odRw anRw odSh anSh odWd anWd odPt anPt odSg anSg odCt anCt odAs anAs odFi anFi odCk anCk odCh anCh odIe anIe odMd anMd odEd anEd odBt anBt odTo anTo odMg anMg odSo anSo odNu anNu odDr anDr odTk anTk odLo anLo odSe anSe odTx anTx odEx anEx odRr anRr odSr anSr odCo anCo odPr anPr odOr anOr odGr anGr odTr anTr odLe anLe odLd anLd odLb anLb odLm anLm odM anM odI anI odT odE anE odP anP : Option Addr} {slSq slRw slSh slWd slPt slSg slCt slAs slFi slCk slCh slIe slMd slEd slBt slTo slMg slSo slNu slDr slTk slLo slSe slTx slEx slRr slSr slCo slPr slOr slGr slTr slLe slLd slLb slLm slM slI slT slE slP : Array (Option Value)} {ocSq kVSq dcSq pmSq cdSq ctSq ocRw kVRw dcRw pmRw cdRw ctRw ocSh kVSh dcSh pmSh cdSh ctSh ocWd kVWd dcWd pmWd cdWd ctWd ocPt kVPt dcPt pmPt cdPt ctPt ocSg kVSg dcSg pmSg cdSg ctSg ocCt kVCt dcCt pmCt cdCt ctCt ocAs kVAs dcAs pmAs cdAs ctAs ocFi kVFi dcFi pmFi cdFi ctFi ocCk kVCk dcCk pmCk cdCk ctCk ocCh kVCh dcCh pmCh cdCh ctCh ocIe kVIe dcIe pmIe cdIe ctIe ocMd kVMd dcMd pmMd cdMd ctMd ocEd kVEd dcEd pmEd cdEd ctEd ocBt kVBt dcBt pmBt cdBt ctBt ocTo kVTo dcTo pmTo cdTo ctTo ocMg kVMg dcMg pmMg cdMg ctMg ocSo kVSo dcSo pmSo cdSo ctSo ocNu kVNu dcNu pmNu cdNu ctNu ocDr kVDr dcDr pmDr cdDr ctDr ocTk kVTk dcTk pmTk cdTk ctTk ocLo kVLo dcLo pmLo cdLo ctLo ocSe kVSe dcSe pmSe cdSe ctSe ocTx kVTx dcTx pmTx cdTx ctTx ocEx kVEx dcEx pmEx cdEx ctEx ocRr kVRr dcRr pmRr cdRr ctRr ocSr kVSr dcSr pmSr cdSr ctSr ocCo kVCo dcCo pmCo cdCo ctCo ocPr kVPr dcPr pmPr cdPr ctPr ocOr kVOr dcOr pmOr cdOr ctOr ocGr kVGr dcGr pmGr cdGr ctGr ocTr kVTr dcTr pmTr cdTr ctTr ocLe kVLe dcLe pmLe cdLe ctLe ocLd kVLd dcLd pmLd cdLd ctLd ocLb kVLb dcLb pmLb cdLb ctLb ocLm kVLm dcLm pmLm cdLm ctLm ocM kVM dcM pmM cdM ctM ocI kVI dcI pmI cdI ctI ocT ocE kVE dcE pmE cdE ctE ocP kVP dcP pmP cdP ctP : Value} {tk_MOST_WORD_SIGNS tk_MOST_PATH_WORDS tk_MOST_CONTENT_SIGNS tk_PERCENT_NUMBER tk_MOST_FILES : Tok} {nT : Nat} {rest : List Value}
    (aSq : PySem.W.nsIn K mainGlobals "is_sequence" = some (some (.ref fSq)))
    (aRw : PySem.W.nsIn K mainGlobals "is_row" = some (some (.ref fRw)))
    (aSh : PySem.W.nsIn K mainGlobals "is_shown" = some (some (.ref fSh)))
    (aWd : PySem.W.nsIn K mainGlobals "is_word" = some (some (.ref fWd)))
    (aPt : PySem.W.nsIn K mainGlobals "is_path" = some (some (.ref fPt)))
    (aSg : PySem.W.nsIn K mainGlobals "is_signs" = some (some (.ref fSg)))
    (aCt : PySem.W.nsIn K mainGlobals "is_content" = some (some (.ref fCt)))
    (aAs : PySem.W.nsIn K mainGlobals "is_ascending" = some (some (.ref fAs)))
    (aFi : PySem.W.nsIn K mainGlobals "is_files" = some (some (.ref fFi)))
    (aCk : PySem.W.nsIn K mainGlobals "check_tree" = some (some (.ref fCk)))
    (aCh : PySem.W.nsIn K mainGlobals "is_change" = some (some (.ref fCh)))
    (aIe : PySem.W.nsIn K mainGlobals "is_edit" = some (some (.ref fIe)))
    (aMd : PySem.W.nsIn K mainGlobals "tree_made" = some (some (.ref fMd)))
    (aEd : PySem.W.nsIn K mainGlobals "edited" = some (some (.ref fEd)))
    (aBt : PySem.W.nsIn K mainGlobals "between" = some (some (.ref fBt)))
    (aTo : PySem.W.nsIn K mainGlobals "touched" = some (some (.ref fTo)))
    (aMg : PySem.W.nsIn K mainGlobals "merged" = some (some (.ref fMg)))
    (aSo : PySem.W.nsIn K mainGlobals "_law_so" = some (some (.ref fSo)))
    (aNu : PySem.W.nsIn K mainGlobals "_law_numbers" = some (some (.ref fNu)))
    (aDr : PySem.W.nsIn K mainGlobals "_law_draw" = some (some (.ref fDr)))
    (aTk : PySem.W.nsIn K mainGlobals "_law_take" = some (some (.ref fTk)))
    (aLo : PySem.W.nsIn K mainGlobals "_law_loose" = some (some (.ref fLo)))
    (aSe : PySem.W.nsIn K mainGlobals "_law_set" = some (some (.ref fSe)))
    (aTx : PySem.W.nsIn K mainGlobals "_law_text" = some (some (.ref fTx)))
    (aEx : PySem.W.nsIn K mainGlobals "_law_expression" = some (some (.ref fEx)))
    (aRr : PySem.W.nsIn K mainGlobals "_law_rule_rows" = some (some (.ref fRr)))
    (aSr : PySem.W.nsIn K mainGlobals "_law_setting_rows" = some (some (.ref fSr)))
    (aCo : PySem.W.nsIn K mainGlobals "_law_content" = some (some (.ref fCo)))
    (aPr : PySem.W.nsIn K mainGlobals "_law_place_rows" = some (some (.ref fPr)))
    (aOr : PySem.W.nsIn K mainGlobals "_law_own_rows" = some (some (.ref fOr)))
    (aGr : PySem.W.nsIn K mainGlobals "_law_goal_rows" = some (some (.ref fGr)))
    (aTr : PySem.W.nsIn K mainGlobals "_law_tree" = some (some (.ref fTr)))
    (aLe : PySem.W.nsIn K mainGlobals "_law_edit" = some (some (.ref fLe)))
    (aLd : PySem.W.nsIn K mainGlobals "_law_edited" = some (some (.ref fLd)))
    (aLb : PySem.W.nsIn K mainGlobals "_law_between" = some (some (.ref fLb)))
    (aLm : PySem.W.nsIn K mainGlobals "_law_merged" = some (some (.ref fLm)))
    (aM : PySem.W.nsIn K mainGlobals "law" = some (some (.ref fM)))
    (m0_MOST_WORD_SIGNS : PySem.W.nsIn K mainGlobals "MOST_WORD_SIGNS" = some (some (.int 12 tk_MOST_WORD_SIGNS)))
    (m0_MOST_PATH_WORDS : PySem.W.nsIn K mainGlobals "MOST_PATH_WORDS" = some (some (.int 4 tk_MOST_PATH_WORDS)))
    (m0_MOST_CONTENT_SIGNS : PySem.W.nsIn K mainGlobals "MOST_CONTENT_SIGNS" = some (some (.int 1000 tk_MOST_CONTENT_SIGNS)))
    (m0_PERCENT_NUMBER : PySem.W.nsIn K mainGlobals "PERCENT_NUMBER" = some (some (.int 37 tk_PERCENT_NUMBER)))
    (m0_MOST_FILES : PySem.W.nsIn K mainGlobals "MOST_FILES" = some (some (.int 60 tk_MOST_FILES)))
    (aC : PySem.W.nsIn K mainGlobals "Tree" = some (some (.ref C)))
    (z_len : PySem.W.nsIn K mainGlobals "len" = some none)
    (z_int : PySem.W.nsIn K mainGlobals "int" = some none)
    (z_range : PySem.W.nsIn K mainGlobals "range" = some none)
    (z_isinstance : PySem.W.nsIn K mainGlobals "isinstance" = some none)
    (z_tuple : PySem.W.nsIn K mainGlobals "tuple" = some none)
    (z_list : PySem.W.nsIn K mainGlobals "list" = some none)
    (z_bool : PySem.W.nsIn K mainGlobals "bool" = some none)
    (z_str : PySem.W.nsIn K mainGlobals "str" = some none)
    (z_dict : PySem.W.nsIn K mainGlobals "dict" = some none)
    (z_sorted : PySem.W.nsIn K mainGlobals "sorted" = some none)
    (z_all : PySem.W.nsIn K mainGlobals "all" = some none)
    (z_ord : PySem.W.nsIn K mainGlobals "ord" = some none)
    (z_zip : PySem.W.nsIn K mainGlobals "zip" = some none)
    (z_max : PySem.W.nsIn K mainGlobals "max" = some none)
    (z_min : PySem.W.nsIn K mainGlobals "min" = some none)
    (lSq : K.lookup fSq = some ⟨ocSq, odSq, .func (PySem.W.fnOf "is_sequence" "is_sequence" (defArgs s_is_sequence) (defBody s_is_sequence) (defScope s_is_sequence) .none kVSq dcSq pmSq anSq cdSq ctSq), slSq⟩)
    (cSq : PySem.W.codeIn K cdSq "is_sequence" = true)
    (kSq : PySem.W.keepIn K (.ref fSq) = true)
    (lRw : K.lookup fRw = some ⟨ocRw, odRw, .func (PySem.W.fnOf "is_row" "is_row" (defArgs s_is_row) (defBody s_is_row) (defScope s_is_row) .none kVRw dcRw pmRw anRw cdRw ctRw), slRw⟩)
    (cRw : PySem.W.codeIn K cdRw "is_row" = true)
    (kRw : PySem.W.keepIn K (.ref fRw) = true)
    (lSh : K.lookup fSh = some ⟨ocSh, odSh, .func (PySem.W.fnOf "is_shown" "is_shown" (defArgs s_is_shown) (defBody s_is_shown) (defScope s_is_shown) .none kVSh dcSh pmSh anSh cdSh ctSh), slSh⟩)
    (cSh : PySem.W.codeIn K cdSh "is_shown" = true)
    (kSh : PySem.W.keepIn K (.ref fSh) = true)
    (lWd : K.lookup fWd = some ⟨ocWd, odWd, .func (PySem.W.fnOf "is_word" "is_word" (defArgs s_is_word) (defBody s_is_word) (defScope s_is_word) .none kVWd dcWd pmWd anWd cdWd ctWd), slWd⟩)
    (cWd : PySem.W.codeIn K cdWd "is_word" = true)
    (kWd : PySem.W.keepIn K (.ref fWd) = true)
    (lPt : K.lookup fPt = some ⟨ocPt, odPt, .func (PySem.W.fnOf "is_path" "is_path" (defArgs s_is_path) (defBody s_is_path) (defScope s_is_path) .none kVPt dcPt pmPt anPt cdPt ctPt), slPt⟩)
    (cPt : PySem.W.codeIn K cdPt "is_path" = true)
    (kPt : PySem.W.keepIn K (.ref fPt) = true)
    (lSg : K.lookup fSg = some ⟨ocSg, odSg, .func (PySem.W.fnOf "is_signs" "is_signs" (defArgs s_is_signs) (defBody s_is_signs) (defScope s_is_signs) .none kVSg dcSg pmSg anSg cdSg ctSg), slSg⟩)
    (cSg : PySem.W.codeIn K cdSg "is_signs" = true)
    (kSg : PySem.W.keepIn K (.ref fSg) = true)
    (lCt : K.lookup fCt = some ⟨ocCt, odCt, .func (PySem.W.fnOf "is_content" "is_content" (defArgs s_is_content) (defBody s_is_content) (defScope s_is_content) .none kVCt dcCt pmCt anCt cdCt ctCt), slCt⟩)
    (cCt : PySem.W.codeIn K cdCt "is_content" = true)
    (kCt : PySem.W.keepIn K (.ref fCt) = true)
    (lAs : K.lookup fAs = some ⟨ocAs, odAs, .func (PySem.W.fnOf "is_ascending" "is_ascending" (defArgs s_is_ascending) (defBody s_is_ascending) (defScope s_is_ascending) .none kVAs dcAs pmAs anAs cdAs ctAs), slAs⟩)
    (cAs : PySem.W.codeIn K cdAs "is_ascending" = true)
    (kAs : PySem.W.keepIn K (.ref fAs) = true)
    (lFi : K.lookup fFi = some ⟨ocFi, odFi, .func (PySem.W.fnOf "is_files" "is_files" (defArgs s_is_files) (defBody s_is_files) (defScope s_is_files) .none kVFi dcFi pmFi anFi cdFi ctFi), slFi⟩)
    (cFi : PySem.W.codeIn K cdFi "is_files" = true)
    (kFi : PySem.W.keepIn K (.ref fFi) = true)
    (lCk : K.lookup fCk = some ⟨ocCk, odCk, .func (PySem.W.fnOf "check_tree" "check_tree" (defArgs s_check_tree) (defBody s_check_tree) (defScope s_check_tree) .none kVCk dcCk pmCk anCk cdCk ctCk), slCk⟩)
    (cCk : PySem.W.codeIn K cdCk "check_tree" = true)
    (kCk : PySem.W.keepIn K (.ref fCk) = true)
    (lCh : K.lookup fCh = some ⟨ocCh, odCh, .func (PySem.W.fnOf "is_change" "is_change" (defArgs s_is_change) (defBody s_is_change) (defScope s_is_change) .none kVCh dcCh pmCh anCh cdCh ctCh), slCh⟩)
    (cCh : PySem.W.codeIn K cdCh "is_change" = true)
    (kCh : PySem.W.keepIn K (.ref fCh) = true)
    (lIe : K.lookup fIe = some ⟨ocIe, odIe, .func (PySem.W.fnOf "is_edit" "is_edit" (defArgs s_is_edit) (defBody s_is_edit) (defScope s_is_edit) .none kVIe dcIe pmIe anIe cdIe ctIe), slIe⟩)
    (cIe : PySem.W.codeIn K cdIe "is_edit" = true)
    (kIe : PySem.W.keepIn K (.ref fIe) = true)
    (lMd : K.lookup fMd = some ⟨ocMd, odMd, .func (PySem.W.fnOf "tree_made" "tree_made" (defArgs s_tree_made) (defBody s_tree_made) (defScope s_tree_made) .none kVMd dcMd pmMd anMd cdMd ctMd), slMd⟩)
    (cMd : PySem.W.codeIn K cdMd "tree_made" = true)
    (kMd : PySem.W.keepIn K (.ref fMd) = true)
    (lEd : K.lookup fEd = some ⟨ocEd, odEd, .func (PySem.W.fnOf "edited" "edited" (defArgs s_edited) (defBody s_edited) (defScope s_edited) .none kVEd dcEd pmEd anEd cdEd ctEd), slEd⟩)
    (cEd : PySem.W.codeIn K cdEd "edited" = true)
    (kEd : PySem.W.keepIn K (.ref fEd) = true)
    (lBt : K.lookup fBt = some ⟨ocBt, odBt, .func (PySem.W.fnOf "between" "between" (defArgs s_between) (defBody s_between) (defScope s_between) .none kVBt dcBt pmBt anBt cdBt ctBt), slBt⟩)
    (cBt : PySem.W.codeIn K cdBt "between" = true)
    (kBt : PySem.W.keepIn K (.ref fBt) = true)
    (lTo : K.lookup fTo = some ⟨ocTo, odTo, .func (PySem.W.fnOf "touched" "touched" (defArgs s_touched) (defBody s_touched) (defScope s_touched) .none kVTo dcTo pmTo anTo cdTo ctTo), slTo⟩)
    (cTo : PySem.W.codeIn K cdTo "touched" = true)
    (kTo : PySem.W.keepIn K (.ref fTo) = true)
    (lMg : K.lookup fMg = some ⟨ocMg, odMg, .func (PySem.W.fnOf "merged" "merged" (defArgs s_merged) (defBody s_merged) (defScope s_merged) .none kVMg dcMg pmMg anMg cdMg ctMg), slMg⟩)
    (cMg : PySem.W.codeIn K cdMg "merged" = true)
    (kMg : PySem.W.keepIn K (.ref fMg) = true)
    (lSo : K.lookup fSo = some ⟨ocSo, odSo, .func (PySem.W.fnOf "_law_so" "_law_so" (defArgs sSo) (defBody sSo) (defScope sSo) .none kVSo dcSo pmSo anSo cdSo ctSo), slSo⟩)
    (cSo : PySem.W.codeIn K cdSo "_law_so" = true)
    (kSo : PySem.W.keepIn K (.ref fSo) = true)
    (lNu : K.lookup fNu = some ⟨ocNu, odNu, .func (PySem.W.fnOf "_law_numbers" "_law_numbers" (defArgs sNum) (defBody sNum) (defScope sNum) .none kVNu dcNu pmNu anNu cdNu ctNu), slNu⟩)
    (cNu : PySem.W.codeIn K cdNu "_law_numbers" = true)
    (kNu : PySem.W.keepIn K (.ref fNu) = true)
    (lDr : K.lookup fDr = some ⟨ocDr, odDr, .func (PySem.W.fnOf "_law_draw" "_law_draw" (defArgs sDraw) (defBody sDraw) (defScope sDraw) .none kVDr dcDr pmDr anDr cdDr ctDr), slDr⟩)
    (cDr : PySem.W.codeIn K cdDr "_law_draw" = true)
    (kDr : PySem.W.keepIn K (.ref fDr) = true)
    (lTk : K.lookup fTk = some ⟨ocTk, odTk, .func (PySem.W.fnOf "_law_take" "_law_take" (defArgs sTake) (defBody sTake) (defScope sTake) .none kVTk dcTk pmTk anTk cdTk ctTk), slTk⟩)
    (cTk : PySem.W.codeIn K cdTk "_law_take" = true)
    (kTk : PySem.W.keepIn K (.ref fTk) = true)
    (lLo : K.lookup fLo = some ⟨ocLo, odLo, .func (PySem.W.fnOf "_law_loose" "_law_loose" (defArgs s_l_loose) (defBody s_l_loose) (defScope s_l_loose) .none kVLo dcLo pmLo anLo cdLo ctLo), slLo⟩)
    (cLo : PySem.W.codeIn K cdLo "_law_loose" = true)
    (kLo : PySem.W.keepIn K (.ref fLo) = true)
    (lSe : K.lookup fSe = some ⟨ocSe, odSe, .func (PySem.W.fnOf "_law_set" "_law_set" (defArgs s_l_set) (defBody s_l_set) (defScope s_l_set) .none kVSe dcSe pmSe anSe cdSe ctSe), slSe⟩)
    (cSe : PySem.W.codeIn K cdSe "_law_set" = true)
    (kSe : PySem.W.keepIn K (.ref fSe) = true)
    (lTx : K.lookup fTx = some ⟨ocTx, odTx, .func (PySem.W.fnOf "_law_text" "_law_text" (defArgs s_l_text) (defBody s_l_text) (defScope s_l_text) .none kVTx dcTx pmTx anTx cdTx ctTx), slTx⟩)
    (cTx : PySem.W.codeIn K cdTx "_law_text" = true)
    (kTx : PySem.W.keepIn K (.ref fTx) = true)
    (lEx : K.lookup fEx = some ⟨ocEx, odEx, .func (PySem.W.fnOf "_law_expression" "_law_expression" (defArgs s_l_expression) (defBody s_l_expression) (defScope s_l_expression) .none kVEx dcEx pmEx anEx cdEx ctEx), slEx⟩)
    (cEx : PySem.W.codeIn K cdEx "_law_expression" = true)
    (kEx : PySem.W.keepIn K (.ref fEx) = true)
    (lRr : K.lookup fRr = some ⟨ocRr, odRr, .func (PySem.W.fnOf "_law_rule_rows" "_law_rule_rows" (defArgs s_l_rule_rows) (defBody s_l_rule_rows) (defScope s_l_rule_rows) .none kVRr dcRr pmRr anRr cdRr ctRr), slRr⟩)
    (cRr : PySem.W.codeIn K cdRr "_law_rule_rows" = true)
    (kRr : PySem.W.keepIn K (.ref fRr) = true)
    (lSr : K.lookup fSr = some ⟨ocSr, odSr, .func (PySem.W.fnOf "_law_setting_rows" "_law_setting_rows" (defArgs s_l_setting_rows) (defBody s_l_setting_rows) (defScope s_l_setting_rows) .none kVSr dcSr pmSr anSr cdSr ctSr), slSr⟩)
    (cSr : PySem.W.codeIn K cdSr "_law_setting_rows" = true)
    (kSr : PySem.W.keepIn K (.ref fSr) = true)
    (lCo : K.lookup fCo = some ⟨ocCo, odCo, .func (PySem.W.fnOf "_law_content" "_law_content" (defArgs s_l_content) (defBody s_l_content) (defScope s_l_content) .none kVCo dcCo pmCo anCo cdCo ctCo), slCo⟩)
    (cCo : PySem.W.codeIn K cdCo "_law_content" = true)
    (kCo : PySem.W.keepIn K (.ref fCo) = true)
    (lPr : K.lookup fPr = some ⟨ocPr, odPr, .func (PySem.W.fnOf "_law_place_rows" "_law_place_rows" (defArgs s_l_place_rows) (defBody s_l_place_rows) (defScope s_l_place_rows) .none kVPr dcPr pmPr anPr cdPr ctPr), slPr⟩)
    (cPr : PySem.W.codeIn K cdPr "_law_place_rows" = true)
    (kPr : PySem.W.keepIn K (.ref fPr) = true)
    (lOr : K.lookup fOr = some ⟨ocOr, odOr, .func (PySem.W.fnOf "_law_own_rows" "_law_own_rows" (defArgs s_l_own_rows) (defBody s_l_own_rows) (defScope s_l_own_rows) .none kVOr dcOr pmOr anOr cdOr ctOr), slOr⟩)
    (cOr : PySem.W.codeIn K cdOr "_law_own_rows" = true)
    (kOr : PySem.W.keepIn K (.ref fOr) = true)
    (lGr : K.lookup fGr = some ⟨ocGr, odGr, .func (PySem.W.fnOf "_law_goal_rows" "_law_goal_rows" (defArgs s_l_goal_rows) (defBody s_l_goal_rows) (defScope s_l_goal_rows) .none kVGr dcGr pmGr anGr cdGr ctGr), slGr⟩)
    (cGr : PySem.W.codeIn K cdGr "_law_goal_rows" = true)
    (kGr : PySem.W.keepIn K (.ref fGr) = true)
    (lTr : K.lookup fTr = some ⟨ocTr, odTr, .func (PySem.W.fnOf "_law_tree" "_law_tree" (defArgs s_l_tree) (defBody s_l_tree) (defScope s_l_tree) .none kVTr dcTr pmTr anTr cdTr ctTr), slTr⟩)
    (cTr : PySem.W.codeIn K cdTr "_law_tree" = true)
    (kTr : PySem.W.keepIn K (.ref fTr) = true)
    (lLe : K.lookup fLe = some ⟨ocLe, odLe, .func (PySem.W.fnOf "_law_edit" "_law_edit" (defArgs s_l_edit) (defBody s_l_edit) (defScope s_l_edit) .none kVLe dcLe pmLe anLe cdLe ctLe), slLe⟩)
    (cLe : PySem.W.codeIn K cdLe "_law_edit" = true)
    (kLe : PySem.W.keepIn K (.ref fLe) = true)
    (lLd : K.lookup fLd = some ⟨ocLd, odLd, .func (PySem.W.fnOf "_law_edited" "_law_edited" (defArgs s_l_edited) (defBody s_l_edited) (defScope s_l_edited) .none kVLd dcLd pmLd anLd cdLd ctLd), slLd⟩)
    (cLd : PySem.W.codeIn K cdLd "_law_edited" = true)
    (kLd : PySem.W.keepIn K (.ref fLd) = true)
    (lLb : K.lookup fLb = some ⟨ocLb, odLb, .func (PySem.W.fnOf "_law_between" "_law_between" (defArgs s_l_between) (defBody s_l_between) (defScope s_l_between) .none kVLb dcLb pmLb anLb cdLb ctLb), slLb⟩)
    (cLb : PySem.W.codeIn K cdLb "_law_between" = true)
    (kLb : PySem.W.keepIn K (.ref fLb) = true)
    (lLm : K.lookup fLm = some ⟨ocLm, odLm, .func (PySem.W.fnOf "_law_merged" "_law_merged" (defArgs s_l_merged) (defBody s_l_merged) (defScope s_l_merged) .none kVLm dcLm pmLm anLm cdLm ctLm), slLm⟩)
    (cLm : PySem.W.codeIn K cdLm "_law_merged" = true)
    (kLm : PySem.W.keepIn K (.ref fLm) = true)
    (lM : K.lookup fM = some ⟨ocM, odM, .func (PySem.W.fnOf "law" "law" (defArgs s_law) (defBody s_law) (defScope s_law) .none kVM dcM pmM anM cdM ctM), slM⟩)
    (cM : PySem.W.codeIn K cdM "law" = true)
    (kM : PySem.W.keepIn K (.ref fM) = true)
    (iI : PySem.W.findIn K (.ref C) "__init__" = some (some (.ref fI)))
    (tI : PySem.W.isFn K (.ref fI) = true)
    (lI : K.lookup fI = some ⟨ocI, odI, .func (PySem.W.fnOf "__init__" "Tree.__init__" (defArgs s_Tree_init) (defBody s_Tree_init) (defScope s_Tree_init) (.ref TI) kVI dcI pmI anI cdI ctI), slI⟩)
    (cI : PySem.W.codeIn K cdI "Tree.__init__" = true)
    (kI : PySem.W.keepIn K (.ref fI) = true)
    (lT : K.lookup TI = some ⟨ocT, odT, .seq #[.ref eI] nT, slT⟩)
    (iE : PySem.W.findIn K (.ref C) "__eq__" = some (some (.ref fE)))
    (tE : PySem.W.isFn K (.ref fE) = true)
    (lE : K.lookup fE = some ⟨ocE, odE, .func (PySem.W.fnOf "__eq__" "Tree.__eq__" (defArgs s_Tree_eq) (defBody s_Tree_eq) (defScope s_Tree_eq) .none kVE dcE pmE anE cdE ctE), slE⟩)
    (cE : PySem.W.codeIn K cdE "Tree.__eq__" = true)
    (kE : PySem.W.keepIn K (.ref fE) = true)
    (iP : PySem.W.findIn K (.ref C) "files" = some (some (.ref pF)))
    (gP : PySem.W.specialIn K (.ref pF) "__get__" = some (some (.builtin "property.__get__")))
    (tP : PySem.W.takesIn K (.ref pF) = some true)
    (rP : PySem.W.recIn K pF "property" = some (.ref fP :: rest))
    (lP : K.lookup fP = some ⟨ocP, odP, .func (PySem.W.fnOf "files" "Tree.files" (defArgs s_Tree_files) (defBody s_Tree_files) (defScope s_Tree_files) .none kVP dcP pmP anP cdP ctP), slP⟩)
    (cP : PySem.W.codeIn K cdP "Tree.files" = true)
    (kP : PySem.W.keepIn K (.ref fP) = true)
    (x_pg : PySem.W.plainGet K C Str.empty = true)
    (x_hd : PySem.W.hasDictIn K C = true)
    (x_po : PySem.W.plainOver K C = true)
    (x_sa : PySem.W.findIn K (.ref C) "__setattr__" = some (some (.builtin "object.__setattr__")))
    (x_ca : PySem.W.findIn K (.ref C) "__class__" = some (some (.builtin "object.__class__")))
    (x_cg : PySem.W.specialIn K (.builtin "object.__class__") "__get__" = some (some (.builtin "getset_descriptor.__get__")))
    (x_ct : PySem.W.takesIn K (.builtin "object.__class__") = some true)
    (x_cm : PySem.W.mroIn K C (.type "object") = some true)
    (x_nf : PySem.W.findIn K (.ref C) "_files" = some none)
    (x_mk : PySem.W.makesIn K C = true)
    (x_kp : PySem.W.keepIn K (.ref C) = true)
    (x_kC : PySem.W.kitOne K (.ref C) (.ref C) = some true)
    (x_kT : PySem.W.kitOne K (.type "tuple") (.ref C) = some false)
    (x_kN : PySem.W.kitOne K (.type "NoneType") (.ref C) = some false)
    (x_fT : PySem.W.notFirst K C (.type "tuple") = true)
    (x_fN : PySem.W.notFirst K C (.type "NoneType") = true)
    : ∃ fd : FuncData, (∀ (s : Shared) (v : Value), BindsTo s fd ⟨[v], []⟩ [("script", v)]) ∧ ∀ base : Heap, K.In base → base.Ns mainGlobals mg → FnOk l.prog w K mg base CX0 9 fa fd ["script"] (spLaw K) := by
  have e := hfa.symm.trans (PySem.W.mg_of X G aM)
  cases e
  have T : Glo mg := ⟨PySem.W.mg_none_of X G z_len, PySem.W.mg_none_of X G z_int, PySem.W.mg_none_of X G z_range, PySem.W.mg_none_of X G z_isinstance, PySem.W.mg_none_of X G z_tuple, PySem.W.mg_none_of X G z_list, PySem.W.mg_none_of X G z_bool, PySem.W.mg_none_of X G z_str, PySem.W.mg_none_of X G z_dict, PySem.W.mg_none_of X G z_sorted, PySem.W.mg_none_of X G z_all, PySem.W.mg_none_of X G z_ord, PySem.W.mg_none_of X G z_zip, PySem.W.mg_none_of X G z_max, PySem.W.mg_none_of X G z_min⟩
  have FSq := fun_mk (st := s_is_sequence) lSq cSq kSq
  have ASq : At K mg "is_sequence" s_is_sequence ["value"] fSq _ := ⟨FSq, PySem.W.mg_of X G aSq, FSq.binds fun _ _ _ _ _ _ us hl => match us, hl with | [_], _ => rfl⟩
  have FRw := fun_mk (st := s_is_row) lRw cRw kRw
  have ARw : At K mg "is_row" s_is_row ["value", "length"] fRw _ := ⟨FRw, PySem.W.mg_of X G aRw, FRw.binds fun _ _ _ _ _ _ us hl => match us, hl with | [_, _], _ => rfl⟩
  have FSh := fun_mk (st := s_is_shown) lSh cSh kSh
  have ASh : At K mg "is_shown" s_is_shown ["value"] fSh _ := ⟨FSh, PySem.W.mg_of X G aSh, FSh.binds fun _ _ _ _ _ _ us hl => match us, hl with | [_], _ => rfl⟩
  have FWd := fun_mk (st := s_is_word) lWd cWd kWd
  have AWd : At K mg "is_word" s_is_word ["value"] fWd _ := ⟨FWd, PySem.W.mg_of X G aWd, FWd.binds fun _ _ _ _ _ _ us hl => match us, hl with | [_], _ => rfl⟩
  have FPt := fun_mk (st := s_is_path) lPt cPt kPt
  have APt : At K mg "is_path" s_is_path ["value"] fPt _ := ⟨FPt, PySem.W.mg_of X G aPt, FPt.binds fun _ _ _ _ _ _ us hl => match us, hl with | [_], _ => rfl⟩
  have FSg := fun_mk (st := s_is_signs) lSg cSg kSg
  have ASg : At K mg "is_signs" s_is_signs ["value", "most"] fSg _ := ⟨FSg, PySem.W.mg_of X G aSg, FSg.binds fun _ _ _ _ _ _ us hl => match us, hl with | [_, _], _ => rfl⟩
  have FCt := fun_mk (st := s_is_content) lCt cCt kCt
  have ACt : At K mg "is_content" s_is_content ["value"] fCt _ := ⟨FCt, PySem.W.mg_of X G aCt, FCt.binds fun _ _ _ _ _ _ us hl => match us, hl with | [_], _ => rfl⟩
  have FAs := fun_mk (st := s_is_ascending) lAs cAs kAs
  have AAs : At K mg "is_ascending" s_is_ascending ["keys"] fAs _ := ⟨FAs, PySem.W.mg_of X G aAs, FAs.binds fun _ _ _ _ _ _ us hl => match us, hl with | [_], _ => rfl⟩
  have FFi := fun_mk (st := s_is_files) lFi cFi kFi
  have AFi : At K mg "is_files" s_is_files ["value"] fFi _ := ⟨FFi, PySem.W.mg_of X G aFi, FFi.binds fun _ _ _ _ _ _ us hl => match us, hl with | [_], _ => rfl⟩
  have FCk := fun_mk (st := s_check_tree) lCk cCk kCk
  have ACk : At K mg "check_tree" s_check_tree ["value", "at"] fCk _ := ⟨FCk, PySem.W.mg_of X G aCk, FCk.binds fun _ _ _ _ _ _ us hl => match us, hl with | [_, _], _ => rfl⟩
  have FCh := fun_mk (st := s_is_change) lCh cCh kCh
  have ACh : At K mg "is_change" s_is_change ["value"] fCh _ := ⟨FCh, PySem.W.mg_of X G aCh, FCh.binds fun _ _ _ _ _ _ us hl => match us, hl with | [_], _ => rfl⟩
  have FIe := fun_mk (st := s_is_edit) lIe cIe kIe
  have AIe : At K mg "is_edit" s_is_edit ["value"] fIe _ := ⟨FIe, PySem.W.mg_of X G aIe, FIe.binds fun _ _ _ _ _ _ us hl => match us, hl with | [_], _ => rfl⟩
  have FMd := fun_mk (st := s_tree_made) lMd cMd kMd
  have AMd : At K mg "tree_made" s_tree_made ["tree", "edit"] fMd _ := ⟨FMd, PySem.W.mg_of X G aMd, FMd.binds fun _ _ _ _ _ _ us hl => match us, hl with | [_, _], _ => rfl⟩
  have FEd := fun_mk (st := s_edited) lEd cEd kEd
  have AEd : At K mg "edited" s_edited ["tree", "edit"] fEd _ := ⟨FEd, PySem.W.mg_of X G aEd, FEd.binds fun _ _ _ _ _ _ us hl => match us, hl with | [_, _], _ => rfl⟩
  have FBt := fun_mk (st := s_between) lBt cBt kBt
  have ABt : At K mg "between" s_between ["old", "new"] fBt _ := ⟨FBt, PySem.W.mg_of X G aBt, FBt.binds fun _ _ _ _ _ _ us hl => match us, hl with | [_, _], _ => rfl⟩
  have FTo := fun_mk (st := s_touched) lTo cTo kTo
  have ATo : At K mg "touched" s_touched ["old", "new"] fTo _ := ⟨FTo, PySem.W.mg_of X G aTo, FTo.binds fun _ _ _ _ _ _ us hl => match us, hl with | [_, _], _ => rfl⟩
  have FMg := fun_mk (st := s_merged) lMg cMg kMg
  have AMg : At K mg "merged" s_merged ["base", "ours", "theirs"] fMg _ := ⟨FMg, PySem.W.mg_of X G aMg, FMg.binds fun _ _ _ _ _ _ us hl => match us, hl with | [_, _, _], _ => rfl⟩
  have FSo := fun_mk (st := sSo) lSo cSo kSo
  have ASo : At K mg "_law_so" sSo ["found", "meant"] fSo _ := ⟨FSo, PySem.W.mg_of X G aSo, FSo.binds fun _ _ _ _ _ _ us hl => match us, hl with | [_, _], _ => rfl⟩
  have FNu := fun_mk (st := sNum) lNu cNu kNu
  have ANu : At K mg "_law_numbers" sNum ["script"] fNu _ := ⟨FNu, PySem.W.mg_of X G aNu, FNu.binds fun _ _ _ _ _ _ us hl => match us, hl with | [_], _ => rfl⟩
  have FDr := fun_mk (st := sDraw) lDr cDr kDr
  have ADr : At K mg "_law_draw" sDraw ["row", "at", "limit"] fDr _ := ⟨FDr, PySem.W.mg_of X G aDr, FDr.binds fun _ _ _ _ _ _ us hl => match us, hl with | [_, _, _], _ => rfl⟩
  have FTk := fun_mk (st := sTake) lTk cTk kTk
  have ATk : At K mg "_law_take" sTake ["row", "spot", "limit"] fTk _ := ⟨FTk, PySem.W.mg_of X G aTk, FTk.binds fun _ _ _ _ _ _ us hl => match us, hl with | [_, _, _], _ => rfl⟩
  have FLo := fun_mk (st := s_l_loose) lLo cLo kLo
  have ALo : At K mg "_law_loose" s_l_loose ["value", "turn"] fLo _ := ⟨FLo, PySem.W.mg_of X G aLo, FLo.binds fun _ _ _ _ _ _ us hl => match us, hl with | [_, _], _ => rfl⟩
  have FSe := fun_mk (st := s_l_set) lSe cSe kSe
  have ASe : At K mg "_law_set" s_l_set ["values", "at", "value"] fSe _ := ⟨FSe, PySem.W.mg_of X G aSe, FSe.binds fun _ _ _ _ _ _ us hl => match us, hl with | [_, _, _], _ => rfl⟩
  have FTx := fun_mk (st := s_l_text) lTx cTx kTx
  have ATx : At K mg "_law_text" s_l_text ["row", "spot"] fTx _ := ⟨FTx, PySem.W.mg_of X G aTx, FTx.binds fun _ _ _ _ _ _ us hl => match us, hl with | [_, _], _ => rfl⟩
  have FEx := fun_mk (st := s_l_expression) lEx cEx kEx
  have AEx : At K mg "_law_expression" s_l_expression ["row", "spot", "targets", "deep"] fEx _ := ⟨FEx, PySem.W.mg_of X G aEx, FEx.binds fun _ _ _ _ _ _ us hl => match us, hl with | [_, _, _, _], _ => rfl⟩
  have FRr := fun_mk (st := s_l_rule_rows) lRr cRr kRr
  have ARr : At K mg "_law_rule_rows" s_l_rule_rows ["row", "spot", "many"] fRr _ := ⟨FRr, PySem.W.mg_of X G aRr, FRr.binds fun _ _ _ _ _ _ us hl => match us, hl with | [_, _, _], _ => rfl⟩
  have FSr := fun_mk (st := s_l_setting_rows) lSr cSr kSr
  have ASr : At K mg "_law_setting_rows" s_l_setting_rows ["row", "spot"] fSr _ := ⟨FSr, PySem.W.mg_of X G aSr, FSr.binds fun _ _ _ _ _ _ us hl => match us, hl with | [_, _], _ => rfl⟩
  have FCo := fun_mk (st := s_l_content) lCo cCo kCo
  have ACo : At K mg "_law_content" s_l_content ["rows"] fCo _ := ⟨FCo, PySem.W.mg_of X G aCo, FCo.binds fun _ _ _ _ _ _ us hl => match us, hl with | [_], _ => rfl⟩
  have FPr := fun_mk (st := s_l_place_rows) lPr cPr kPr
  have APr : At K mg "_law_place_rows" s_l_place_rows ["row", "spot"] fPr _ := ⟨FPr, PySem.W.mg_of X G aPr, FPr.binds fun _ _ _ _ _ _ us hl => match us, hl with | [_, _], _ => rfl⟩
  have FOr := fun_mk (st := s_l_own_rows) lOr cOr kOr
  have AOr : At K mg "_law_own_rows" s_l_own_rows ["row", "spot"] fOr _ := ⟨FOr, PySem.W.mg_of X G aOr, FOr.binds fun _ _ _ _ _ _ us hl => match us, hl with | [_, _], _ => rfl⟩
  have FGr := fun_mk (st := s_l_goal_rows) lGr cGr kGr
  have AGr : At K mg "_law_goal_rows" s_l_goal_rows ["row", "spot"] fGr _ := ⟨FGr, PySem.W.mg_of X G aGr, FGr.binds fun _ _ _ _ _ _ us hl => match us, hl with | [_, _], _ => rfl⟩
  have FTr := fun_mk (st := s_l_tree) lTr cTr kTr
  have ATr : At K mg "_law_tree" s_l_tree ["row", "spot"] fTr _ := ⟨FTr, PySem.W.mg_of X G aTr, FTr.binds fun _ _ _ _ _ _ us hl => match us, hl with | [_, _], _ => rfl⟩
  have FLe := fun_mk (st := s_l_edit) lLe cLe kLe
  have ALe : At K mg "_law_edit" s_l_edit ["row", "spot", "files"] fLe _ := ⟨FLe, PySem.W.mg_of X G aLe, FLe.binds fun _ _ _ _ _ _ us hl => match us, hl with | [_, _, _], _ => rfl⟩
  have FLd := fun_mk (st := s_l_edited) lLd cLd kLd
  have ALd : At K mg "_law_edited" s_l_edited ["files", "edit"] fLd _ := ⟨FLd, PySem.W.mg_of X G aLd, FLd.binds fun _ _ _ _ _ _ us hl => match us, hl with | [_, _], _ => rfl⟩
  have FLb := fun_mk (st := s_l_between) lLb cLb kLb
  have ALb : At K mg "_law_between" s_l_between ["old", "new"] fLb _ := ⟨FLb, PySem.W.mg_of X G aLb, FLb.binds fun _ _ _ _ _ _ us hl => match us, hl with | [_, _], _ => rfl⟩
  have FLm := fun_mk (st := s_l_merged) lLm cLm kLm
  have ALm : At K mg "_law_merged" s_l_merged ["base", "ours", "theirs"] fLm _ := ⟨FLm, PySem.W.mg_of X G aLm, FLm.binds fun _ _ _ _ _ _ us hl => match us, hl with | [_, _, _], _ => rfl⟩
  have FM := fun_mk (st := s_law) lM cM kM
  have AM : At K mg "law" s_law ["script"] fa _ := ⟨FM, PySem.W.mg_of X G aM, FM.binds fun _ _ _ _ _ _ us hl => match us, hl with | [_], _ => rfl⟩
  have m_MOST_WORD_SIGNS := PySem.W.mg_of X G m0_MOST_WORD_SIGNS
  have m_MOST_PATH_WORDS := PySem.W.mg_of X G m0_MOST_PATH_WORDS
  have m_MOST_CONTENT_SIGNS := PySem.W.mg_of X G m0_MOST_CONTENT_SIGNS
  have m_PERCENT_NUMBER := PySem.W.mg_of X G m0_PERCENT_NUMBER
  have m_MOST_FILES := PySem.W.mg_of X G m0_MOST_FILES
  have TF : TreeF K mg C := ⟨⟨x_pg, x_hd, x_po, x_sa⟩, x_ca, x_cg, x_ct, x_cm, PySem.W.mg_of X G aC, x_nf, x_kC, x_kT, x_kN, x_fT, x_fN⟩
  have FI : FunD K "__init__" "Tree.__init__" (defArgs s_Tree_init) (defBody s_Tree_init) (defScope s_Tree_init) [V.ref eI] [] fI _ := ⟨⟨_, _, _, _, _, _, _, _, _, _, rfl, lI, cI, .inr ⟨(fun z => nomatch z), TI, _, [.ref eI], nT, rfl, lT, rfl, .cons rfl .nil⟩, .inl rfl⟩, kI⟩
  have BI0 := FI.binds1 (ps := ["self", "files"]) 2 1 (fun z => nomatch z) rfl (fun _ _ _ _ _ _ _ us its hl hi => match us, its, hl, hi with | [_, _], [_], _, _ => ⟨_, rfl, rfl⟩)
  obtain ⟨dsI, hdI, BI⟩ := BI0
  cases hdI
  have KI := FI.kbindsD (ps := ["self", "files"]) 1 ["files"] (fun us _ ws => us ++ ws) (fun z => nomatch z) (fun r1 _ r3 => r1.append r3) (fun _ _ _ _ _ _ _ us its ws hl hi hw => match us, its, ws, hl, hi, hw with | [_], [_], [_], _, _, _ => ⟨_, rfl, rfl⟩)
  have MI : Mk K C fI := ⟨x_mk, iI, tI, x_kp⟩
  have FE := fun_mk (st := s_Tree_eq) lE cE kE
  have BE : Binds K _ ["self", "other"] [] := FE.binds fun _ _ _ _ _ _ us hl => match us, hl with | [_, _], _ => rfl
  have FP := fun_mk (st := s_Tree_files) lP cP kP
  have BP : Binds K _ ["self"] [] := FP.binds fun _ _ _ _ _ _ us hl => match us, hl with | [_], _ => rfl
  refine ⟨PySem.W.fnOf "law" "law" (defArgs s_law) (defBody s_law) (defScope s_law) .none kVM dcM pmM anM cdM ctM, fun s v => .of_eq rfl, fun base _ _ => ?_⟩
  have c_sq := cal_of (P := l.prog) (w := w) (base := base) ASq (ok_sequence FSq T)
  have c_rw := cal_of ARw (ok_row FRw T c_sq)
  have c_sh := cal_of (P := l.prog) (w := w) (base := base) ASh (ok_shown FSh T m_PERCENT_NUMBER)
  have c_wd := cal_of (P := l.prog) (w := w) (base := base) AWd (ok_word FWd T m_MOST_WORD_SIGNS)
  have c_pt := cal_of APt (ok_path FPt T m_MOST_PATH_WORDS c_wd)
  have c_sg := cal_of ASg (ok_signs FSg T c_sh)
  have c_ct := cal_of ACt (ok_cont FCt m_MOST_CONTENT_SIGNS c_sg)
  have c_as := cal_of (P := l.prog) (w := w) (base := base) AAs (ok_asc FAs T)
  have c_fi := cal_of AFi (ok_isfiles FFi T m_MOST_FILES c_sq c_rw c_pt c_ct c_as)
  have c_ch := cal_of ACh (ok_change FCh T c_rw c_pt c_ct)
  have c_ie := cal_of AIe (ok_isedit FIe T c_sq c_ch c_as)
  have GI : FnOk l.prog w K mg base CX0 5 fI _ ["self", "files"] (spInit K C) := ok_init FI T TF c_fi
  have tp : TreeP l.prog w K mg base C := ⟨TF, pF, fP, _, ⟨iP, gP, tP, _, rP⟩, ok_files FP TF, BP⟩
  have tq : TreeQ l.prog w K mg base C := ⟨tp, fE, _, ok_teq FE T TF, iE, tE, BE⟩
  have mk_Tree : C8.Mak l.prog w K mg base 5 "Tree" C (spInit K C) [] := ⟨fI, _, _, [], MI, GI, PySem.W.mg_of X G aC, BI, .nil⟩
  have mkk_Tree : Ks.MakK l.prog w K mg base 5 "Tree" C ["files"] (spInit K C) := by
    obtain ⟨its, hk⟩ := KI
    exact ⟨fI, _, _, _, MI, GI, PySem.W.mg_of X G aC, hk⟩
  have c_ck := cal_of (P := l.prog) (w := w) (base := base) ACk (ok_check FCk T TF)
  have c_md := cal_of AMd (ok_pmade FMd T tp m_MOST_FILES c_ie mk_Tree)
  have GEd := ok_pedited FEd c_ck c_md
  have GBt := ok_pbetween FBt T tp c_ck
  have c_bt := cal_of ABt GBt
  have GTo := ok_touched FTo T c_bt
  have GMg := ok_pmerged FMg T tp m_MOST_FILES c_ck mk_Tree
  have c_tk := cal_of (P := l.prog) (w := w) (base := base) ATk (take_tk (ok_take FTk T ADr))
  have c_tx := cal_of ATx (ok_text FTx c_tk)
  have c_ex := cal_of AEx (ok_ex AEx T c_tk 3 (by decide))
  have c_rr := cal_of ARr (ok_rule_rows FRr T c_tk c_ex)
  have c_sr := cal_of ASr (ok_setting_rows FSr T c_tk)
  have c_co := cal_of (P := l.prog) (w := w) (base := base) ACo (ok_content FCo)
  have c_pr := cal_of APr (ok_place_rows FPr T c_tk)
  have c_or := cal_of AOr (ok_own_rows FOr T c_tk)
  have c_gr := cal_of AGr (ok_goal_rows FGr T c_tk)
  exact ok_law FM T {
    tq := tq
    c_l_numbers := cal_of ANu (ok_num FNu T)
    c_l_take := c_tk
    c_l_tree := cal_of ATr (ok_tree FTr T c_tk c_tx c_rr c_co c_sr c_pr c_or c_gr)
    c_l_edit := cal_of ALe (ok_edit FLe T c_tk c_tx c_ex c_co c_sr c_pr c_or c_gr)
    c_l_set := cal_of ASe (ok_set FSe T)
    c_l_loose := cal_of ALo (ok_loose ALo T 5)
    c_l_so := cal_of ASo (ok_so ASo T 5)
    c_l_edited := cal_of ALd (ok_edited FLd T)
    c_l_between := cal_of ALb (ok_between FLb T)
    c_l_merged := cal_of ALm (ok_merged FLm T)
    c_edited := cal_of AEd GEd
    c_between := c_bt
    c_touched := cal_of ATo GTo
    c_merged := cal_of AMg GMg
    ck_edited := ⟨fEd, _, _, GEd, AEd.mf, AEd.fn.kp, fun s ws _ hl => match ws, hl with | [_, _], _ => .of_eq rfl⟩
    ck_touched := ⟨fTo, _, _, GTo, ATo.mf, ATo.fn.kp, fun s ws _ hl => match ws, hl with | [_, _], _ => .of_eq rfl⟩
    ck_merged := ⟨fMg, _, _, GMg, AMg.mf, AMg.fn.kp, fun s ws _ hl => match ws, hl with | [_, _, _], _ => .of_eq rfl⟩
    mk_Tree := mk_Tree
    mkk_Tree := mkk_Tree }
theorem walk {l : PySem.W.OpenLaw} {q : Program} {loose : List Str} {XP : (Str → Option Value) → Heap → Prop} {YP : World → Heap → Prop} {d : DefRec} {K : Params → PySem.W.Frag} (hn : l.most = some 63) (hdf : d.params.defaults = [])
    (hY : ∀ (w : World) (h : Heap), YP w h → (K w.params).In h)
    (F : ∀ (w : World) (mg : Str → Option Value) (fa : Addr) (h : Heap), (K w.params).In h → h.Ns mainGlobals mg → mg d.name = some (.ref fa) →
      ∃ fd : FuncData, (∀ (s : Shared) (u : Value), BindsTo s fd ⟨[u], []⟩ [("script", u)]) ∧ ∀ base : Heap, (K w.params).In base → base.Ns mainGlobals mg → FnOk l.prog w (K w.params) mg base CX0 9 fa fd ["script"] (spLaw (K w.params))) :
    PySem.W.WalkO q loose XP YP l.row.toRowW d [] (fun f vs => PySem.call f vs) :=
  L2.walk_of (n := 63) (k := 9) (x := "script") (CX := fun _ => CX0) (sp := fun w => spLaw (K w.params)) hn (by decide) hdf ⟨rfl, by decide, by decide⟩ hY F (fun _ _ a ns hl _ hS => ⟨a, ns, rfl, hS, hl, fun _ => rfl⟩) fun _ _ _ _ _ z => z
end Kl

open PySem PySem.W PyProof.Rows
set_option maxRecDepth 100000 in
set_option maxHeartbeats 0 in
theorem PySem.Challenge.cw_releasehouse_k10_trees_edited_and_merged_holds : PySem.Challenge.rw_releasehouse_k10_trees_edited_and_merged.Holds := by
  w_on; o_law; k_head; (case hw => w_witness2)
  k_fill
  refine Kl.walk (l := PySem.Challenge.rw_releasehouse_k10_trees_edited_and_merged) rfl rfl (fun w h Y => PySem.W.kIn_of Y) ?F
  case F =>
    intro w mg fa h KX G hmg
    refine' Kl.all_mk KX G hmg ?aSq ?aRw ?aSh ?aWd ?aPt ?aSg ?aCt ?aAs ?aFi ?aCk ?aCh ?aIe ?aMd ?aEd ?aBt ?aTo ?aMg ?aSo ?aNu ?aDr ?aTk ?aLo ?aSe ?aTx ?aEx ?aRr ?aSr ?aCo ?aPr ?aOr ?aGr ?aTr ?aLe ?aLd ?aLb ?aLm ?aM ?m0_MOST_WORD_SIGNS ?m0_MOST_PATH_WORDS ?m0_MOST_CONTENT_SIGNS ?m0_PERCENT_NUMBER ?m0_MOST_FILES ?aC ?z_len ?z_int ?z_range ?z_isinstance ?z_tuple ?z_list ?z_bool ?z_str ?z_dict ?z_sorted ?z_all ?z_ord ?z_zip ?z_max ?z_min ?lSq ?cSq ?kSq ?lRw ?cRw ?kRw ?lSh ?cSh ?kSh ?lWd ?cWd ?kWd ?lPt ?cPt ?kPt ?lSg ?cSg ?kSg ?lCt ?cCt ?kCt ?lAs ?cAs ?kAs ?lFi ?cFi ?kFi ?lCk ?cCk ?kCk ?lCh ?cCh ?kCh ?lIe ?cIe ?kIe ?lMd ?cMd ?kMd ?lEd ?cEd ?kEd ?lBt ?cBt ?kBt ?lTo ?cTo ?kTo ?lMg ?cMg ?kMg ?lSo ?cSo ?kSo ?lNu ?cNu ?kNu ?lDr ?cDr ?kDr ?lTk ?cTk ?kTk ?lLo ?cLo ?kLo ?lSe ?cSe ?kSe ?lTx ?cTx ?kTx ?lEx ?cEx ?kEx ?lRr ?cRr ?kRr ?lSr ?cSr ?kSr ?lCo ?cCo ?kCo ?lPr ?cPr ?kPr ?lOr ?cOr ?kOr ?lGr ?cGr ?kGr ?lTr ?cTr ?kTr ?lLe ?cLe ?kLe ?lLd ?cLd ?kLd ?lLb ?cLb ?kLb ?lLm ?cLm ?kLm ?lM ?cM ?kM ?iI ?tI ?lI ?cI ?kI ?lT ?iE ?tE ?lE ?cE ?kE ?iP ?gP ?tP ?rP ?lP ?cP ?kP ?x_pg ?x_hd ?x_po ?x_sa ?x_ca ?x_cg ?x_ct ?x_cm ?x_nf ?x_mk ?x_kp ?x_kC ?x_kT ?x_kN ?x_fT ?x_fN
    (case aSq => k_is)
    (case aRw => k_is)
    (case aSh => k_is)
    (case aWd => k_is)
    (case aPt => k_is)
    (case aSg => k_is)
    (case aCt => k_is)
    (case aAs => k_is)
    (case aFi => k_is)
    (case aCk => k_is)
    (case aCh => k_is)
    (case aIe => k_is)
    (case aMd => k_is)
    (case aEd => k_is)
    (case aBt => k_is)
    (case aTo => k_is)
    (case aMg => k_is)
    (case aSo => k_is)
    (case aNu => k_is)
    (case aDr => k_is)
    (case aTk => k_is)
    (case aLo => k_is)
    (case aSe => k_is)
    (case aTx => k_is)
    (case aEx => k_is)
    (case aRr => k_is)
    (case aSr => k_is)
    (case aCo => k_is)
    (case aPr => k_is)
    (case aOr => k_is)
    (case aGr => k_is)
    (case aTr => k_is)
    (case aLe => k_is)
    (case aLd => k_is)
    (case aLb => k_is)
    (case aLm => k_is)
    (case aM => k_is)
    (case m0_MOST_WORD_SIGNS => k_is)
    (case m0_MOST_PATH_WORDS => k_is)
    (case m0_MOST_CONTENT_SIGNS => k_is)
    (case m0_PERCENT_NUMBER => k_is)
    (case m0_MOST_FILES => k_is)
    (case aC => k_is)
    (case z_len => k_is)
    (case z_int => k_is)
    (case z_range => k_is)
    (case z_isinstance => k_is)
    (case z_tuple => k_is)
    (case z_list => k_is)
    (case z_bool => k_is)
    (case z_str => k_is)
    (case z_dict => k_is)
    (case z_sorted => k_is)
    (case z_all => k_is)
    (case z_ord => k_is)
    (case z_zip => k_is)
    (case z_max => k_is)
    (case z_min => k_is)
    (case lSq => k_is)
    (case cSq => k_is)
    (case kSq => k_is)
    (case lRw => k_is)
    (case cRw => k_is)
    (case kRw => k_is)
    (case lSh => k_is)
    (case cSh => k_is)
    (case kSh => k_is)
    (case lWd => k_is)
    (case cWd => k_is)
    (case kWd => k_is)
    (case lPt => k_is)
    (case cPt => k_is)
    (case kPt => k_is)
    (case lSg => k_is)
    (case cSg => k_is)
    (case kSg => k_is)
    (case lCt => k_is)
    (case cCt => k_is)
    (case kCt => k_is)
    (case lAs => k_is)
    (case cAs => k_is)
    (case kAs => k_is)
    (case lFi => k_is)
    (case cFi => k_is)
    (case kFi => k_is)
    (case lCk => k_is)
    (case cCk => k_is)
    (case kCk => k_is)
    (case lCh => k_is)
    (case cCh => k_is)
    (case kCh => k_is)
    (case lIe => k_is)
    (case cIe => k_is)
    (case kIe => k_is)
    (case lMd => k_is)
    (case cMd => k_is)
    (case kMd => k_is)
    (case lEd => k_is)
    (case cEd => k_is)
    (case kEd => k_is)
    (case lBt => k_is)
    (case cBt => k_is)
    (case kBt => k_is)
    (case lTo => k_is)
    (case cTo => k_is)
    (case kTo => k_is)
    (case lMg => k_is)
    (case cMg => k_is)
    (case kMg => k_is)
    (case lSo => k_is)
    (case cSo => k_is)
    (case kSo => k_is)
    (case lNu => k_is)
    (case cNu => k_is)
    (case kNu => k_is)
    (case lDr => k_is)
    (case cDr => k_is)
    (case kDr => k_is)
    (case lTk => k_is)
    (case cTk => k_is)
    (case kTk => k_is)
    (case lLo => k_is)
    (case cLo => k_is)
    (case kLo => k_is)
    (case lSe => k_is)
    (case cSe => k_is)
    (case kSe => k_is)
    (case lTx => k_is)
    (case cTx => k_is)
    (case kTx => k_is)
    (case lEx => k_is)
    (case cEx => k_is)
    (case kEx => k_is)
    (case lRr => k_is)
    (case cRr => k_is)
    (case kRr => k_is)
    (case lSr => k_is)
    (case cSr => k_is)
    (case kSr => k_is)
    (case lCo => k_is)
    (case cCo => k_is)
    (case kCo => k_is)
    (case lPr => k_is)
    (case cPr => k_is)
    (case kPr => k_is)
    (case lOr => k_is)
    (case cOr => k_is)
    (case kOr => k_is)
    (case lGr => k_is)
    (case cGr => k_is)
    (case kGr => k_is)
    (case lTr => k_is)
    (case cTr => k_is)
    (case kTr => k_is)
    (case lLe => k_is)
    (case cLe => k_is)
    (case kLe => k_is)
    (case lLd => k_is)
    (case cLd => k_is)
    (case kLd => k_is)
    (case lLb => k_is)
    (case cLb => k_is)
    (case kLb => k_is)
    (case lLm => k_is)
    (case cLm => k_is)
    (case kLm => k_is)
    (case lM => k_is)
    (case cM => k_is)
    (case kM => k_is)
    (case iI => k_is)
    (case tI => k_is)
    (case lI => k_is)
    (case cI => k_is)
    (case kI => k_is)
    (case lT => k_is)
    (case iE => k_is)
    (case tE => k_is)
    (case lE => k_is)
    (case cE => k_is)
    (case kE => k_is)
    (case iP => k_is)
    (case gP => k_is)
    (case tP => k_is)
    (case rP => k_is)
    (case lP => k_is)
    (case cP => k_is)
    (case kP => k_is)
    (case x_pg => k_is)
    (case x_hd => k_is)
    (case x_po => k_is)
    (case x_sa => k_is)
    (case x_ca => k_is)
    (case x_cg => k_is)
    (case x_ct => k_is)
    (case x_cm => k_is)
    (case x_nf => k_is)
    (case x_mk => k_is)
    (case x_kp => k_is)
    (case x_kC => kit_is)
    (case x_kT => kit_is)
    (case x_kN => kit_is)
    (case x_fT => k_is)
    (case x_fN => k_is)
