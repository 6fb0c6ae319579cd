import PyProof.Rows.All
import Wide.All
import OpenK.AllK
import Wide.FinOn
import HandS.ForMost
import HandS.ForExc
import HandS.IsInst
import KE.KExcTry
import KE.KExcStr
import KE.KExcIs
import HandS.ExcInit
import HandS.ExcField
import HandS.ExcIs
import HandS.ExcCtx
import HandS.HotCalls
import HandS.ExcInitHot
import PySem.Challenge.RW_releasehouse_k00_errors
set_option Elab.async false
set_option linter.all false
set_option maxRecDepth 100000
set_option maxHeartbeats 4000000
namespace Kd
open PySem L2
inductive D where
  | non
  | bl (b : Bool)
  | int (i : Int)
  | str (x : Str)
  | tup (ds : List D)
mutual
def Rep (H : Hp) : D → V → Prop
  | .non, v => v = .non
  | .bl b, v => v = .bl b
  | .int i, v => v = .int i
  | .str x, v => v = .str x
  | .tup ds, v => ∃ (a : Addr) (vs : List V), v = .ref a ∧ Rd H a (.tup vs) ∧ vs.length ≤ sizeLine ∧ Reps H ds vs
def Reps (H : Hp) : List D → List V → Prop
  | [], vs => vs = []
  | d :: ds, vs => ∃ (v : V) (r : List V), vs = v :: r ∧ Rep H d v ∧ Reps H ds r
end
/-- tuples stand still -/
def Tk (H H' : Hp) : Prop := ∀ a xs, Rd H a (.tup xs) → Rd H' a (.tup xs)
theorem Tk.refl (H : Hp) : Tk H H := fun _ _ h => h
theorem Tk.trans {H H1 H2 : Hp} (a : Tk H H1) (b : Tk H1 H2) : Tk H H2 := fun x o h => b x o (a x o h)
theorem Rd.same {H H' : Hp} {a : Addr} {u : HO} (s : Same H H') (h : Rd H a u) : Rd H' a u := h.imp (s _ _) fun ⟨o, e⟩ => ⟨o, s _ _ e⟩
theorem Tk.same {H H' : Hp} (s : Same H H') : Tk H H' := fun a xs h => Rd.same s h
theorem Tk.lst {H : Hp} {p : Addr} {xs : List V} {o : HO} (h : H p = some (.lst xs)) : Tk H (upd H p o) := fun a ys e => e.imp
    (fun e => by rw [upd_ne (ne_of e h (fun z => nomatch z))]; exact e)
    (fun ⟨o, e⟩ => ⟨o, by rw [upd_ne (ne_of e h (fun z => nomatch z))]; exact e⟩)
theorem Tk.new {H : Hp} {p : Addr} {o : HO} (h : H p = none) : Tk H (upd H p o) := fun a ys e => e.imp
    (fun e => by rw [upd_ne (ne_of_none e h)]; exact e)
    (fun ⟨o, e⟩ => ⟨o, by rw [upd_ne (ne_of_none e h)]; exact e⟩)
mutual
theorem Rep.keep {H H' : Hp} (k : Tk H H') : ∀ {d : D} {v : V}, Rep H d v → Rep H' d v
  | .non, _, h => h
  | .bl _, _, h => h
  | .int _, _, h => h
  | .str _, _, h => h
  | .tup _, _, ⟨a, vs, e, h, l, r⟩ => ⟨a, vs, e, k a vs h, l, Reps.keep k r⟩
theorem Reps.keep {H H' : Hp} (k : Tk H H') : ∀ {ds : List D} {vs : List V}, Reps H ds vs → Reps H' ds vs
  | [], _, h => h
  | _ :: _, _, ⟨v, r, e, h, q⟩ => ⟨v, r, e, Rep.keep k h, Reps.keep k q⟩
end
theorem Reps.len {H : Hp} : ∀ {ds : List D} {vs : List V}, Reps H ds vs → vs.length = ds.length
  | [], _, h => by cases (show _ = [] from h); rfl
  | d :: ds, _, ⟨v, r, e, h, q⟩ => by subst e; exact congrArg (· + 1) (Reps.len q)
theorem Reps.get {H : Hp} : ∀ {ds : List D} {vs : List V} {i : Nat} {d : D}, Reps H ds vs → ds[i]? = some d → ∃ v, vs[i]? = some v ∧ Rep H d v
  | [], _, i, d, _, e => by simp at e
  | c :: ds, _, 0, d, ⟨v, r, e1, h, q⟩, e => by
    subst e1
    obtain rfl : c = d := Option.some.inj e
    exact ⟨v, rfl, h⟩
  | c :: ds, _, i + 1, d, ⟨v, r, e1, h, q⟩, e => by
    subst e1
    exact Reps.get (ds := ds) (i := i) q e
theorem Reps.snoc {H : Hp} : ∀ {ds : List D} {vs : List V} {d : D} {v : V}, Reps H ds vs → Rep H d v → Reps H (ds ++ [d]) (vs ++ [v])
  | [], _, d, v, h, r => by
    cases (show _ = [] from h)
    exact ⟨v, [], rfl, r, rfl⟩
  | c :: ds, _, d, v, ⟨u, r, e, h, q⟩, rv => by
    subst e
    exact ⟨u, r ++ [v], rfl, h, Reps.snoc q rv⟩
def D.ty : D → String
  | .non => "NoneType"
  | .bl _ => "bool"
  | .int _ => "int"
  | .str _ => "str"
  | .tup _ => "tuple"
theorem Rep.ty {K : PySem.W.Frag} {H : Hp} : ∀ {d : D} {v : V}, Rep H d v → TyX K H v (.type d.ty)
  | .non, _, h => by cases (show _ = V.non from h); exact .base .non
  | .bl b, _, h => by cases (show _ = V.bl b from h); exact .base (.bl _)
  | .int i, _, h => by cases (show _ = V.int i from h); exact .base (.int _)
  | .str x, _, h => by cases (show _ = V.str x from h); exact .base (.str _)
  | .tup ds, _, ⟨a, vs, e, h, l, r⟩ => by cases e; exact h.elim (fun h => .base (.tup h)) (fun ⟨_, h⟩ => .fTuple h)
mutual
def D.eqb : D → D → Bool
  | .non, .non => true
  | .bl a, .bl b => a == b
  | .int a, .int b => decide (a = b)
  | .str a, .str b => decide (a = b)
  | .tup a, .tup b => D.eqbs a b
  | _, _ => false
def D.eqbs : List D → List D → Bool
  | [], [] => true
  | a :: r, b :: q => D.eqb a b && D.eqbs r q
  | _, _ => false
end
mutual
theorem D.eqb_refl : ∀ d : D, D.eqb d d = true
  | .non => rfl
  | .bl b => by simp [D.eqb]
  | .int i => by simp [D.eqb]
  | .str x => by simp [D.eqb]
  | .tup ds => by simp only [D.eqb]; exact D.eqbs_refl ds
theorem D.eqbs_refl : ∀ ds : List D, D.eqbs ds ds = true
  | [] => rfl
  | d :: ds => by simp only [D.eqbs, Bool.and_eq_true]; exact ⟨D.eqb_refl d, D.eqbs_refl ds⟩
end
mutual
def D.dep : D → Nat
  | .tup ds => D.deps ds + 1
  | _ => 0
def D.deps : List D → Nat
  | [] => 0
  | d :: ds => max (D.dep d) (D.deps ds)
end
theorem D.dep_mem : ∀ {ds : List D} {i : Nat} {d : D}, ds[i]? = some d → D.dep d ≤ D.deps ds
  | [], i, d, e => by simp at e
  | c :: ds, 0, d, e => by
    obtain rfl : c = d := Option.some.inj e
    simp only [D.deps]
    omega
  | c :: ds, i + 1, d, e => by
    have := D.dep_mem (ds := ds) (i := i) (d := d) e
    simp only [D.deps]
    omega
theorem D.eqbs_len : ∀ {a b : List D}, D.eqbs a b = true → a.length = b.length
  | [], [], _ => rfl
  | [], _ :: _, h => by simp [D.eqbs] at h
  | _ :: _, [], h => by simp [D.eqbs] at h
  | x :: a, y :: b, h => by
    simp only [D.eqbs, Bool.and_eq_true] at h
    exact congrArg (· + 1) (D.eqbs_len h.2)
/-- part by part -/
theorem D.eqbs_take : ∀ {a b : List D} {i : Nat} {x y : D}, a[i]? = some x → b[i]? = some y → D.eqbs (a.take (i + 1)) (b.take (i + 1)) = (D.eqbs (a.take i) (b.take i) && D.eqb x y)
  | [], _, i, x, y, h, _ => by simp at h
  | _ :: _, [], i, x, y, _, h => by simp at h
  | c :: a, d :: b, 0, x, y, h, g => by
    obtain rfl : c = x := Option.some.inj h
    obtain rfl : d = y := Option.some.inj g
    simp [D.eqbs]
  | c :: a, d :: b, i + 1, x, y, h, g => by
    have ih := D.eqbs_take (a := a) (b := b) (i := i) (x := x) (y := y) h g
    simp only [List.take_succ_cons, D.eqbs] at ih ⊢
    rw [ih, Bool.and_assoc]
theorem D.eqbs_cut : ∀ {a b : List D} {i : Nat} {x y : D}, a[i]? = some x → b[i]? = some y → D.eqb x y = false → D.eqbs a b = false
  | [], _, i, x, y, h, _, _ => by simp at h
  | _ :: _, [], i, x, y, _, h, _ => by simp at h
  | c :: a, d :: b, 0, x, y, h, g, e => by
    obtain rfl : c = x := Option.some.inj h
    obtain rfl : d = y := Option.some.inj g
    simp [D.eqbs, e]
  | c :: a, d :: b, i + 1, x, y, h, g, e => by
    have ih := D.eqbs_cut (a := a) (b := b) (i := i) (x := x) (y := y) h g e
    simp [D.eqbs, ih]
theorem kOne {K : PySem.W.Frag} {a b : String} {r : Bool} (h : kitB a b = some r) : PySem.W.kitOne K (.type a) (.type b) = some r := kit_ty h
def D.isTup : D → Bool
  | .tup _ => true
  | _ => false
def D.isBl : D → Bool
  | .bl _ => true
  | _ => false
def D.isInt : D → Bool
  | .int _ => true
  | .bl _ => true
  | _ => false
def D.isStr : D → Bool
  | .str _ => true
  | _ => false
theorem D.kTup {K : PySem.W.Frag} : ∀ d : D, PySem.W.kitOne K (.type d.ty) (.type "tuple") = some d.isTup
  | .non => kit_ty (show kitB "NoneType" "tuple" = some false by decide +kernel)
  | .bl _ => kit_ty (show kitB "bool" "tuple" = some false by decide +kernel)
  | .int _ => kit_ty (show kitB "int" "tuple" = some false by decide +kernel)
  | .str _ => kit_ty (show kitB "str" "tuple" = some false by decide +kernel)
  | .tup _ => kit_ty (show kitB "tuple" "tuple" = some true by decide +kernel)
theorem D.kList {K : PySem.W.Frag} : ∀ d : D, PySem.W.kitOne K (.type d.ty) (.type "list") = some false
  | .non => kit_ty (show kitB "NoneType" "list" = some false by decide +kernel)
  | .bl _ => kit_ty (show kitB "bool" "list" = some false by decide +kernel)
  | .int _ => kit_ty (show kitB "int" "list" = some false by decide +kernel)
  | .str _ => kit_ty (show kitB "str" "list" = some false by decide +kernel)
  | .tup _ => kit_ty (show kitB "tuple" "list" = some false by decide +kernel)
theorem D.kBl {K : PySem.W.Frag} : ∀ d : D, PySem.W.kitOne K (.type d.ty) (.type "bool") = some d.isBl
  | .non => kit_ty (show kitB "NoneType" "bool" = some false by decide +kernel)
  | .bl _ => kit_ty (show kitB "bool" "bool" = some true by decide +kernel)
  | .int _ => kit_ty (show kitB "int" "bool" = some false by decide +kernel)
  | .str _ => kit_ty (show kitB "str" "bool" = some false by decide +kernel)
  | .tup _ => kit_ty (show kitB "tuple" "bool" = some false by decide +kernel)
theorem D.kInt {K : PySem.W.Frag} : ∀ d : D, PySem.W.kitOne K (.type d.ty) (.type "int") = some d.isInt
  | .non => kit_ty (show kitB "NoneType" "int" = some false by decide +kernel)
  | .bl _ => kit_ty (show kitB "bool" "int" = some true by decide +kernel)
  | .int _ => kit_ty (show kitB "int" "int" = some true by decide +kernel)
  | .str _ => kit_ty (show kitB "str" "int" = some false by decide +kernel)
  | .tup _ => kit_ty (show kitB "tuple" "int" = some false by decide +kernel)
theorem D.kStr {K : PySem.W.Frag} : ∀ d : D, PySem.W.kitOne K (.type d.ty) (.type "str") = some d.isStr
  | .non => kit_ty (show kitB "NoneType" "str" = some false by decide +kernel)
  | .bl _ => kit_ty (show kitB "bool" "str" = some false by decide +kernel)
  | .int _ => kit_ty (show kitB "int" "str" = some false by decide +kernel)
  | .str _ => kit_ty (show kitB "str" "str" = some true by decide +kernel)
  | .tup _ => kit_ty (show kitB "tuple" "str" = some false by decide +kernel)
end Kd

/-! own exception classes over Exception: made, stored into, told apart -/
namespace Kx
open PySem PySem.Spec PyProof.Rows L2
abbrev exMro : List Value := [.type "Exception", .type "BaseException", .type "object"]
/-- what the written part says of such a class -/
structure ExC (K : PySem.W.Frag) (C : Addr) : Prop where
  mkd : PySem.W.excInitIn K C exMro "Exception.__new__" = true
  ov : PySem.W.excOver K C exMro = true
  hd : PySem.W.hasDictIn K C = true
  sa : PySem.W.findIn K (.ref C) "__setattr__" = some (some (.builtin "object.__setattr__"))
  sb : PySem.W.subIn K (.ref C) (.type "BaseException") = some true
  ty : PySem.W.typeIn K (.ref C) = some (.type "type")
  kp : PySem.W.keepIn K (.ref C) = true
section
open PySem.W PySem.Calls PySem.HandSPX Builtin Builtin.ObjectAttr
variable {prog : Program} {w : World} {A : Around} {R : Result → Shared → Prop} {K : PySem.W.Frag} {C x : Addr} {hh : Heap} {gs : Array GenState} {dr : Drawn} {tt : Nat} {oo : OsState} {nm : Str} {tk : Tok} {v : Value} {flds : Array Value}
theorem own_store (T : ExC K C) (X : K.In hh) {od : Option Obj} {ox : Obj} (I : InstAt hh x ox C od) (hn : findIn K (.ref C) nm = some none)
    (k : ∀ b, wpAny (model prog w) A.in1 (storeInOwnDict (.ref x) (.ref C) (.str nm tk) nm v b) (fun fin s' => match fin with | .done f => R (.ok f) s' | .again c' => c'.quiet = true ∧ codeAny (model prog w) A c' R s') (fun e s' => R (.error e) s') ⟨hh, gs, dr, tt, oo⟩) :
    codeAny (model prog w) A (.call (.builtin "object.__setattr__") ⟨[.ref x, .str nm tk, v], []⟩) R ⟨hh, gs, dr, tt, oo⟩ := by
  have ht : takerIn K C nm = some none := by
    unfold takerIn
    rw [hn]
    rfl
  exact osa_openX (r := none) F.store_Exception X I T.ov ht k
/-- the first field -/
theorem first_store (T : ExC K C) (X : K.In hh) (ho : hh.get? x = some { cls := .ref C, data := .fields flds }) (hn : findIn K (.ref C) nm = some none)
    (k : ∀ h2 t2 dx, (∀ b o, b ≠ x → hh.get? b = some o → h2.get? b = some o) → hh.objs.size ≤ dx → dx ≠ x → h2.get? x = some { cls := .ref C, dict := some dx, data := .fields flds } →
      h2.Ns1 dx (fun y => if y = nm then some v else none) → R (.ok (.ret .none)) ⟨h2, gs, dr, t2, oo⟩) :
    codeAny (model prog w) A (.call (.builtin "object.__setattr__") ⟨[.ref x, .str nm tk, v], []⟩) R ⟨hh, gs, dr, tt, oo⟩ := by
  have I : InstAt hh x { cls := .ref C, data := .fields flds } C none := ⟨ho, rfl, rfl, trivial⟩
  refine own_store T X I hn fun b => ?_
  obtain ⟨cd, hc, hb⟩ := any_some T.hd
  have lc : Looks (model prog w) hh (classData C) cd := looks_clsIn X hc
  have ne : x ≠ hh.objs.size := Nat.ne_of_lt (Heap.lt_size ho)
  obtain ⟨c1, c2, c3, c4, c5, c6, c7, c8, c9, c10, c11⟩ := cd
  dsimp only at hb
  subst hb
  unfold storeInOwnDict ownDictForStores
  repeat (first | with_reducible refine store_in_new ?_ ?_ | with_reducible refine wpAny_loadPart_at ho ?_ | with_reducible refine lc.at ?_ | wp_step)
  · exact ⟨_, #[], _, (Heap.get?_update_ne _ _ _ _ ne.symm).trans (Heap.get?_push_at rfl rfl), rfl, fun e he => absurd he (by simp), fun _ => rfl⟩
  · intro h2 t2 hns hsb
    have ho1 : (hh.push { cls := .type "dict", data := .dict #[] }).get? x = some { cls := .ref C, data := .fields flds } := Heap.get?_push_of_some _ ho
    exact k h2 t2 hh.objs.size (fun b o hb e => (hsb.2 b (Nat.ne_of_lt (Heap.lt_size e))).trans ((Heap.get?_update_ne _ _ _ _ hb).trans (Heap.get?_push_of_some _ e))) (Nat.le_refl _) ne.symm
      ((hsb.2 x ne).trans (Heap.get?_update_self _ ho1 rfl)) hns
/-- a further field -/
theorem next_store {dx : Addr} {m0 : Str → Option Value} {nl : List Str} (T : ExC K C) (X : K.In hh) (ho : hh.get? x = some { cls := .ref C, dict := some dx, data := .fields flds }) (hm : hh.Ns1 dx m0) (hw : Within m0 nl) (hz : nl.length ≤ 1000) (hn : findIn K (.ref C) nm = some none)
    (k : ∀ h2 t2, (∀ b o, b ≠ dx → hh.get? b = some o → h2.get? b = some o) → h2.Ns1 dx (fun y => if y = nm then some v else m0 y) → R (.ok (.ret .none)) ⟨h2, gs, dr, t2, oo⟩) :
    codeAny (model prog w) A (.call (.builtin "object.__setattr__") ⟨[.ref x, .str nm tk, v], []⟩) R ⟨hh, gs, dr, tt, oo⟩ := by
  obtain ⟨oD, q1, q2, hoD, q3, q4⟩ := hm.count hw
  have I : InstAt hh x { cls := .ref C, dict := some dx, data := .fields flds } C (some oD) := ⟨ho, rfl, rfl, hoD⟩
  refine own_store T X I hn fun b => ?_
  obtain ⟨cd, hc, hb⟩ := any_some T.hd
  have lc : Looks (model prog w) hh (classData C) cd := looks_clsIn X hc
  obtain ⟨c1, c2, c3, c4, c5, c6, c7, c8, c9, c10, c11⟩ := cd
  dsimp only at hb
  subst hb
  unfold storeInOwnDict ownDictForStores
  repeat (first | with_reducible refine PySem.OEX.store_in_old hm hw hz ?_ | with_reducible refine wpAny_loadPart_at ho ?_ | with_reducible refine lc.at ?_ | wp_step)
  intro h2 t2 hns hsb
  exact k h2 t2 (fun b o hb e => (hsb.2 b hb).trans e) hns
end
section
variable {X : Cx} {pins : List (Addr × Obj)} {σ : L2.St} {H : Hp} {s : Shared} {a C dx : Addr} {f : Str} {y : V} {u : Value} {fs : List (Str × V)} {Q : Unit → Shared → Prop} {E : Value → Shared → Prop} {A : Around}
theorem put_first (T : ExC X.K C) (I : Inv X pins σ H s) (e : H a = some (exo a C none)) (hno : PySem.W.findIn X.K (.ref C) f = some none) (ry : RelV y u)
    (k : ∀ dx s2, H dx = none → dx ≠ a → Inv X pins σ (upd (upd H dx (exd dx [(f, y)])) a (exo a C (some dx))) s2 → Q () s2) : wpAny (model X.prog X.w) A (setAttr (.ref a) f u) Q E s := by
  obtain ⟨t1, ho⟩ := exo_at I.hok e
  obtain ⟨hh, gs, dr, tt, oo⟩ := s
  refine PySem.W.set_plain I.kIn (ox := { cls := .ref C, dict := none, data := .fields #[.ref t1, .none, .none, .none, .bool false, .none] }) (od := none) ⟨ho, rfl, rfl, trivial⟩ T.sa ?_
  refine first_store T I.kIn ho hno (fun h2 t2 dx kk dn dne hx hn => ?_)
  have fresh : H dx = none := I.hok.fresh dn
  have old : ∀ {b : Addr} {o : Obj}, hh.get? b = some o → b ≠ dx := fun {b o} q => Nat.ne_of_lt (Nat.lt_of_lt_of_le (Heap.lt_size q) dn)
  have na : ∀ {b : Addr}, H b = none → b ≠ a := fun {b} n z => by
    rw [z, e] at n
    exact nomatch n
  have through : ∀ {b : Addr} {o : HO}, H b = some o → exo a C none ≠ o → (upd (upd H dx (exd dx [(f, y)])) a (exo a C (some dx))) b = some o := fun {b o} q d => by
    rw [upd_ne (at_ne e q d), upd_ne (ne_of_none q fresh)]
    exact q
  refine k dx _ fresh dne (I.un (t' := t2) (h' := h2) ⟨fun b o q n _ _ => kk b o (na n) q, fun b o q n _ _ => ⟨o.slots, kk b o (na n) q⟩, fun b o q n _ => ?_, fun b o q _ => ?_, fun b xs q => through q exo_tup, fun b o v q => through q exo_frz, fun b ps q => ⟨#[], ?_⟩⟩ fun b o q => ?_)
  · rw [upd_ne (na n), upd_ne (old q)]
    exact n
  · by_cases hb : b = a
    · subst hb
      exact ⟨_, hx⟩
    · exact ⟨o, kk b o hb q⟩
  · rw [through q exo_tbl]
    simp
  · by_cases hb : b = a
    · subst hb
      rw [upd_same] at q
      obtain rfl := Option.some.inj q
      exact exo_ok hx
    · rw [upd_ne hb] at q
      by_cases hd : b = dx
      · subst hd
        rw [upd_same] at q
        obtain rfl := Option.some.inj q
        exact exd_ok hn (relO_put (fs := []) ry fun g => trivial)
      · rw [upd_ne hd] at q
        refine (I.hok b o q).stay (fun c v hc z => kk c v ?_ z) (fun c hc => through hc exo_own) (fun c xs hc => through hc exo_tup)
        rcases hc with hc | hc
        · rw [hc]
          exact hb
        · exact at_ne e hc exo_own
theorem put_next (T : ExC X.K C) (I : Inv X pins σ H s) (e : H a = some (exo a C (some dx))) (ed : H dx = some (exd dx fs)) (hl : fs.length ≤ 900) (hno : PySem.W.findIn X.K (.ref C) f = some none) (ry : RelV y u)
    (k : ∀ s2, Inv X pins σ (upd H dx (exd dx ((f, y) :: fs))) s2 → Q () s2) : wpAny (model X.prog X.w) A (setAttr (.ref a) f u) Q E s := by
  obtain ⟨t1, ho⟩ := exo_at I.hok e
  obtain ⟨m0, hm, rel⟩ := exd_at I.hok ed
  have hw := within_of rel
  obtain ⟨hh, gs, dr, tt, oo⟩ := s
  obtain ⟨oD, q1, q2, hoD, q3, q4⟩ := hm.count hw
  refine PySem.W.set_plain I.kIn (ox := { cls := .ref C, dict := some dx, data := .fields #[.ref t1, .none, .none, .none, .bool false, .none] }) (od := some oD) ⟨ho, rfl, rfl, hoD⟩ T.sa ?_
  refine next_store T I.kIn ho hm hw (by rw [List.length_map]; omega) hno (fun h2 t2 kk hn => ?_)
  have there : ∃ o, h2.get? dx = some o := by
    obtain ⟨o, z1, z2, e2, z3⟩ := hn
    exact ⟨o, e2⟩
  exact k _ (I.write (t' := t2) (x := dx) (e := dx) (o := exd dx ((f, y) :: fs)) (by rw [ed]; trivial) (.inl rfl) kk there (exd_ok hn (relO_put ry rel)))
end
/-- self.f = e, self an exception that is being made -/
def tPut (K : PySem.W.Frag) (f : Str) (to te : TE) : TS := fun D σ H => te σ H fun y H1 => to σ H1 fun x H2 => ∃ a C : Addr, x = .ref a ∧ ExC K C ∧ PySem.W.findIn K (.ref C) f = some none ∧
  ((H2 a = some (exo a C none) ∧ ∀ dx, H2 dx = none → dx ≠ a → D.nx σ (upd (upd H2 dx (exd dx [(f, y)])) a (exo a C (some dx)))) ∨
    ∃ (dx : Addr) (fs : List (Str × V)), H2 a = some (exo a C (some dx)) ∧ H2 dx = some (exd dx fs) ∧ fs.length ≤ 900 ∧ D.nx σ (upd H2 dx (exd dx ((f, y) :: fs))))
section
variable {X : Cx} {o e : Expr} {es : List Expr} {to te : TE} {ta : TA} {f : Str} {p p' p1 p2 pos : Pos}
theorem ps_put (ho : PE X o to) (he : PE X e te) (hs : swapsWith e (some (.Attribute o f p')) pos.line X.env = pure false := by rfl) : PS X (.Assign [.Attribute o f p'] e pos) (tPut X.K f to te) := by
  refine ⟨fun pins s σ H D I h => plainObj_wpAny_Assign_Attribute (thn (he.run pins s σ H _ I h) fun v s1 ⟨y, H1, I1, r1, q1⟩ => thn (ho.run pins s1 σ H1 _ I1 q1) fun u s2 ⟨x, H2, I2, r2, a, C, ex, T, hno, q⟩ => ?_) hs⟩
  subst ex
  obtain rfl : u = Value.ref a := r2
  rcases q with ⟨ea, q⟩ | ⟨dx, fs, ea, ed, hl, q⟩
  · exact put_first T I2 ea hno r1 fun dx s2 n ne J => ⟨σ, _, J, q dx n ne⟩
  · exact put_next T I2 ea ed hl hno r1 fun s2 J => ⟨σ, _, J, q⟩
/-- C(e, ..) by its own __init__ -/
theorem nmk_ex {CX : CXT} {x : Str} {C fI : Addr} {k : Nat} {fd : FuncData} {ps : List Str} {sp : Sp} (T : ExC X.K C) (iC : PySem.W.findIn X.K (.ref C) "__init__" = some (some (.ref fI))) (tI : PySem.W.typeIn X.K (.ref fI) = some (.type "function"))
    (G : FnOk X.prog X.w X.K X.mg X.base CX k fI fd ps sp) (hr : Room (k + 1) X.A) (hb : Binds X.K fd ps []) (hx : Passes CX X (fun _ _ _ => False)) (hg : Gl X x) (hm : X.mg x = some (.ref C)) (ha : PA X (e :: es) ta)
    (hdb : (x == ("__debug__" : Str)) = false := by decide) (he : starEach (e :: es) X.env = (false, eval e X.env) :: starEach es X.env := by rfl) (hpl : (backTo pos (starEach es X.env)).any (·.1) = false := by rfl) :
    L2N.PMk X (.Call (.Name x p) (e :: es) [] pos) (tMkO C sp [] ta) := by
  intro pins s σ H Q I h
  refine wpAny_Call_Name_kw (ld_glob I hg hm ?_ hdb)
  refine PySem.W.callWith_K (h₀ := X.base) I.ok.mod.kin T.kp (thn (ha.run pos pins s σ H _ I h) fun us s1 ⟨vs, H1, I1, r1, hz, q1⟩ => ⟨I1.kIn, ?_⟩) he hpl
  obtain ⟨hh, gs, dr, tt, oo⟩ := s1
  obtain ⟨c1, c2, c3, c4, c5, c6, c7, c8, c9, c10, c11, c12, c13, c14, c15, c16, hC, hT⟩ := PySem.W.excInit_of I1.kIn T.mkd
  have up : hh.objs.size ≤ hh.objs.size + 1 := Nat.le_succ _
  have now := q1 (hh.objs.size + 1) (I1.hok.fresh up)
  rw [List.append_nil] at now
  have keeps : ∀ b o, hh.get? b = some o → ((hh.push (PySem.W.kdv_tup us)).push (PySem.HandSPX.excO C hh.objs.size)).get? b = some o := fun b o z => Heap.get?_push_of_some _ (Heap.get?_push_of_some _ z)
  have made : ((hh.push (PySem.W.kdv_tup us)).push (PySem.HandSPX.excO C hh.objs.size)).get? (hh.objs.size + 1) = some (PySem.HandSPX.excO C hh.objs.size) := by heap_get
  have J : Inv X pins σ (upd H1 (hh.objs.size + 1) (exo (hh.objs.size + 1) C none)) ⟨(hh.push (PySem.W.kdv_tup us)).push (PySem.HandSPX.excO C hh.objs.size), gs, dr, tt, oo⟩ :=
    I1.laid (t' := tt) (a := hh.objs.size + 1) (o := exo (hh.objs.size + 1) C none) (h' := (hh.push (PySem.W.kdv_tup us)).push (PySem.HandSPX.excO C hh.objs.size)) keeps up (exo_ok made)
  have rr : Vals (V.ref (hh.objs.size + 1) :: vs) (Value.ref (hh.objs.size + 1) :: us) := .cons rfl r1
  have ll : (Value.ref (hh.objs.size + 1) :: us).length = ps.length := by
    have z := rr.length
    rw [G.len _ _ _ _ now] at z
    exact z.symm
  have small : us.length ≤ sizeLine := by
    rw [← Paired.length r1, sizeLine_eq]
    omega
  have run := G.run _ X.stack _ _ ⟨Value.ref (hh.objs.size + 1) :: us, []⟩ (Value.ref (hh.objs.size + 1) :: us) _ _ (fun _ _ _ => False) (hr.make C us []) (J.env0.make C us []) (by
    have z := hb _ (Value.ref (hh.objs.size + 1) :: us) J.kIn (by simpa using ll)
    rwa [List.append_nil] at z) rr now
  refine wpAny_call (PySem.HandSPX.call_own F.excBase_Exception hT hC (PySem.W.looks_findIn I1.kIn iC) (fun self => PySem.W.bind_fn I1.kIn self tI) small (codeAny_mono run fun r s2 z => ?_))
  match r, z with
  | .error er, z => exact hx pins σ _ _ er s2 J z
  | .ok (.ret u), z =>
    obtain ⟨v, H2, o2, b2, un2, ok2, rv, ev, d, fs, ea, ed, hd1, q2⟩ := z
    subst ev
    obtain ⟨h2, g2, d2, t2, oo2⟩ := s2
    obtain ⟨t0, G0, J2, kG, ge, hoe, na⟩ := mk_end0 (d2 := d2) (t2 := t2) I1 up keeps un2 ok2 o2 b2 ea ed hd1
    exact ⟨rv, hh.objs.size + 1, _, _, ⟨G0, g2, d2, t2, oo2⟩, _, .ref C, some d, rfl, J2, kG, ge, hoe, ⟨rfl, rfl, fun vs hv => by cases hv; rfl⟩, rfl, rfl, na, rfl, b2, raises_own T.sb T.ty, q2⟩
  | .ok .next, z => exact False.elim z
  | .ok .brk, z => exact False.elim z
  | .ok .cont, z => exact False.elim z
end
/-- what isinstance asks of the class of an error that a suite holds -/
structure IsC (K : PySem.W.Frag) (D : Addr) : Prop where
  c0 : (PySem.W.clsIn K D).isSome = true
  ga : PySem.W.findIn K (.ref D) "__getattribute__" = some (some (.builtin "BaseException.__getattribute__"))
  gg : PySem.W.findIn K (.ref D) "__getattr__" = some none
  sb : PySem.W.subIn K (.ref D) (.type "BaseException") = some true
  cl : PySem.W.findIn K (.ref D) "__class__" = some (some (.builtin "object.__class__"))
  gt : PySem.W.specialIn K (.builtin "object.__class__") "__get__" = some (some (.builtin "getset_descriptor.__get__"))
  tk : PySem.W.takesIn K (.builtin "object.__class__") = some true
  ob : PySem.W.mroIn K D (.type "object") = some true
/-- isinstance(e, c), e the error that the suite holds, at a: its class cls, its dict d -/
def rIsX (K : PySem.W.Frag) (cls : Value) (a : Addr) (d : Option Addr) : List V → Hp → VK → Prop := fun xs H Q => ∃ (D : Addr) (c : V) (cv : Value) (b : Bool), cls = .ref D ∧ IsC K D ∧ xs = [.ref a, c] ∧ ClsV c cv ∧ PySem.W.kitOne K (.ref D) cv = some b ∧ (∃ dd fs, d = some dd ∧ H dd = some (.xd fs)) ∧ Q (.bl b) H
theorem call_isX {X : Cx} {a : Addr} {cls : Value} {oe : Obj} {d : Option Addr} {pn : List (Addr × Obj)} (hz : Zc cls d oe) (hf : ∃ vs, oe.data = .fields vs) : CallR (X.suite a ((a, oe) :: pn)) (.builtin "isinstance") (rIsX X.K cls a d) := by
  intro pins s σ H xs us Q I r h
  obtain ⟨D, c, cv, b, rfl, T, rfl, hcv, e, ⟨dd, fs, rfl, hdd⟩, q⟩ := h
  obtain ⟨vs, hv⟩ := hf
  match r with
  | .cons rx (.cons rt .nil) =>
    cases rx
    have ec := hcv.eq rt
    subst ec
    obtain ⟨hget, _⟩ := I.pin (a, oe) (List.mem_append.mpr (.inl List.mem_cons_self))
    have hxd : ObjOk X.prog X.w H s.heap dd (.xd fs) := I.hok dd _ hdd
    obtain ⟨mA, hns, _⟩ := hxd
    obtain ⟨od, ho, _⟩ := lookIn_ns hns
    have J : PySem.W.InstAt s.heap a oe D (some od) := ⟨hget, hz.1, by unfold PySem.W.notCls; rw [hv] <;> rfl, by rw [hz.2]; exact ho⟩
    exact PySem.W.kia_one (PySem.W.kitx_exc T.c0 T.ga T.gg T.sb T.cl T.gt T.tk T.ob) I.kIn J e (fun z => by cases hcv <;> cases z) fun tk => ⟨.bl b, H, I.kept (t' := tk) fun _ _ z => z, rfl, q⟩
/-- e.f, e the error that the suite holds -/
def tGet (K : PySem.W.Frag) (a : Addr) (cls : Value) (d : Option Addr) (f : Str) (te : TE) : TE := fun σ H Q => te σ H fun x H1 => x = .ref a ∧ ∃ (C dd : Addr) (fs : List (Str × V)) (v : V), cls = .ref C ∧ XfC K C ∧ PySem.W.findIn K (.ref C) f = some none ∧ d = some dd ∧ H1 dd = some (.xd fs) ∧ fs.lookup f = some v ∧ Q v H1
theorem pe_get {X : Cx} {a : Addr} {oe : Obj} {cls : Value} {d : Option Addr} {pn : List (Addr × Obj)} {e : Expr} {te : TE} {pos : Pos} {n : Str} (hz : Zc cls d oe) (hf : ∃ vs, oe.data = .fields vs) (he : PE (X.suite a ((a, oe) :: pn)) e te)
    (hb : attributeBase e n X.env (eval e X.env) = eval e X.env := by rfl) : PE (X.suite a ((a, oe) :: pn)) (.Attribute e n pos) (tGet X.K a cls d n te) := by
  refine ⟨fun pins s σ H Q I h => attr_of hb (thn (he.run pins s σ H _ I h) fun u s1 hh => ?_)⟩
  obtain ⟨x, H1, I1, rx, rfl, C, dd, fs, v, rfl, T, hno, rfl, ea, l, q⟩ := hh
  obtain rfl : u = Value.ref a := rx
  obtain ⟨hget, _⟩ := I1.pin (a, oe) (List.mem_append_left _ List.mem_cons_self)
  obtain ⟨vs, hd⟩ := hf
  have hxd : ObjOk X.prog X.w H1 s1.heap dd (.xd fs) := I1.hok dd _ ea
  obtain ⟨mA, hns, hr⟩ := hxd
  obtain ⟨od, ho, hl⟩ := lookIn_ns hns
  obtain ⟨u, hu, ru⟩ := RelO.some_of (v := v) (o := mA n) (by rw [← l]; exact hr n)
  have J : PySem.W.InstAt s1.heap a oe C (some od) := ⟨hget, hz.1, by unfold PySem.W.notCls; rw [hd] <;> rfl, by rw [hz.2]; exact ho⟩
  exact HandSPX.exc_get I1.kIn J T.ga T.gg T.exC (PySem.W.findObj_own T.hdC hno rfl (by rw [hl, hu])) (handed_of ru) ⟨v, H1, I1.tok _, ru, q⟩
/-- a def that may raise, what it raises having no context -/
theorem okN {P : Program} {w : World} {K : PySem.W.Frag} {mg : Str → Option Value} {base : Heap} {x qual : Str} {st : Stmt} {f : Addr} {fd : FuncData} {N ps : List Str} {k : Nat} {sp : Sp} (F : Fun K x qual st f fd) (S : FnScope N ps (defScope st)) (len : ∀ vs H Q E, sp vs H Q E → vs.length = ps.length)
    (body : ∀ (cdv : Value) (A : Around) (outer : List Env) (s : Shared) (H : Hp) (vs : List V) (Q : VK) (E : XK), Room k (A.deeper (envOfC qual (defScope st) s.heap.objs.size f cdv)) → sp vs H Q E →
      ∃ t, PSs (cxOf (L2N.CX P w) P w K mg base N qual (defScope st) f cdv A outer s H E) (defBody st) t ∧ t { nx := fun _ H' => Q .non H', rt := Q } (start N vs) H) : FnOk P w K mg base (L2N.CX P w) (k + 1) f fd ps sp := by
  obtain ⟨e1, e2, e3, e4, e5, e6, e7, e8, e9, rfl, lk, hcd⟩ := F.ex
  exact fn_of lk hcd S len fun A outer s H vs Q E hr hs => body e7 A outer s H vs Q E hr hs
/-- a def called in an except suite -/
theorem okH {P : Program} {w : World} {K : PySem.W.Frag} {mg : Str → Option Value} {base : Heap} {x qual : Str} {st : Stmt} {f : Addr} {fd : FuncData} {N ps : List Str} {k : Nat} {sp : Sp} (F : Fun K x qual st f fd) (S : FnScope N ps (defScope st)) (len : ∀ vs H Q E, sp vs H Q E → vs.length = ps.length)
    (body : ∀ (cdv : Value) (A : Around) (outer : List Env) (s : Shared) (H : Hp) (vs : List V) (Q : VK) (E : XK) (p : Addr × Obj), L2H.Hot1 A p → L2H.RoomH k (A.deeper (envOfC qual (defScope st) s.heap.objs.size f cdv)) → sp vs H Q E →
      ∃ t, PSs (L2H.cxH CX0 P w K mg base N qual (defScope st) f cdv A outer s H E p).nox (defBody st) t ∧ t { nx := fun _ H' => Q .non H', rt := Q } (start N vs) H) : L2H.FnH P w K mg base CX0 (k + 1) f fd ps sp := by
  obtain ⟨e1, e2, e3, e4, e5, e6, e7, e8, e9, rfl, lk, hcd⟩ := F.ex
  refine L2H.fn_ofH lk hcd S len fun A outer s H vs Q E p hot hr hs => ?_
  obtain ⟨t, h, q⟩ := body e7 A outer s H vs Q E p hot hr hs
  exact ⟨t, h.nox, q⟩
/-- for the bodies of defs called in a suite -/
theorem hot_of {CXx : CXT} {P : Program} {w : World} {K : PySem.W.Frag} {mg : Str → Option Value} {base : Heap} {N : List Str} {qual : Str} {scope : Scope} {f : Addr} {cd : Value} {A : Around} {outer : List Env} {s : Shared} {H : Hp} {E : XK} {p : Addr × Obj}
    (h : L2H.Hot1 A p) : L2H.HotC (L2H.cxH CXx P w K mg base N qual scope f cd A outer s H E p).nox := ⟨p, h, List.mem_cons_self⟩
theorem pass_at {X : Cx} {E : L2.St → XK} : ∀ σ, PassesAt CX0 X σ (E σ) := fun _ _ _ _ _ _ _ h => h.elim
theorem hot_suite {X : Cx} {a : Addr} {cls : Value} {d : Option Addr} {oe : Obj} {pn : List (Addr × Obj)} (hz : L2N.Zn cls d oe) (hf : ∃ vs, oe.data = .fields vs) : L2H.HotC (X.suite a ((a, oe) :: pn)) := by
  obtain ⟨vs, hv⟩ := hf
  exact ⟨(a, oe), ⟨rfl, vs, hv, hz.2.2 vs hv⟩, List.mem_cons_self⟩
end Kx

namespace Kl
open PySem L2 Kd
def topS (i : Nat) : Stmt := PySem.Challenge.pw_releasehouse_k00_errors.main.body.getD i (.Pass ⟨0, 0, 0, 0⟩)
/-- the built-in names that no text of ours hides -/
structure Glo (mg : Str → Option Value) : Prop where
  len : mg "len" = none
  int : mg "int" = none
  range : mg "range" = none
  isi : mg "isinstance" = none
  tuple : mg "tuple" = none
  list : mg "list" = none
  bool : mg "bool" = none
  str : mg "str" = none
  dict : mg "dict" = none
  sorted : mg "sorted" = none
  all : mg "all" = none
  ord : mg "ord" = none
  zip : mg "zip" = none
  max : mg "max" = none
  min : mg "min" = none
/-- a def at its name -/
structure At (K : PySem.W.Frag) (mg : Str → Option Value) (x : Str) (st : Stmt) (ps : List Str) (f : Addr) (fd : FuncData) : Prop where
  fn : Fun K x x st f fd
  mf : mg x = some (.ref f)
  bd : Binds K fd ps []
theorem Same.new {H : Hp} {p : Addr} {o : HO} (h : H p = none) : Same H (upd H p o) := fun b u e => by
  rw [upd_ne (ne_of_none e h)]
  exact e
/-- what is new may change -/
theorem Same.mut {H H' : Hp} {p : Addr} {o : HO} (s : Same H H') (h : H p = none) : Same H (upd H' p o) := fun b u e => by
  rw [upd_ne (ne_of_none e h)]
  exact s b u e
end Kl

namespace Kl
open PySem L2 Kd
/-- a list of ints at a -/
abbrev Ints (K : PySem.W.Frag) (H : Hp) (a : Addr) (ns : List Int) : Prop := SqL K H a (ns.map V.int)
theorem at_int {ns : List Int} {z : Int} (h0 : 0 ≤ z) (h1 : z < (ns.length : Int)) : ∃ y : Int, atI (ns.map V.int) z = some (V.int y) := by
  have hl : z.toNat < ns.length := by omega
  refine ⟨ns[z.toNat], at_of (j := z.toNat) (by omega) ?_⟩
  rw [List.getElem?_map, List.getElem?_eq_getElem hl]
  rfl
def spDraw (K : PySem.W.Frag) : Sp := fun vs H Q _ => ∃ (a : Addr) (ns : List Int) (i m : Int), vs = [.ref a, .int i, .int m] ∧ Ints K H a ns ∧ 0 < ns.length ∧ 0 ≤ i ∧ 0 < m ∧
  ∀ d : Int, 0 ≤ d → d < m → Q (.int d) H
def spTake (K : PySem.W.Frag) : Sp := fun vs H Q _ => ∃ (a b : Addr) (ns : List Int) (i m : Int), vs = [.ref a, .ref b, .int m] ∧ a ≠ b ∧ Ints K H a ns ∧ H b = some (.lst [.int i]) ∧ 0 < ns.length ∧ 0 ≤ i ∧ 0 < m ∧
  ∀ d : Int, 0 ≤ d → d < m → Q (.int d) (upd H b (.lst [.int (i + 1)]))
section
variable {P : Program} {w : World} {K : PySem.W.Frag} {mg : Str → Option Value} {base : Heap}
abbrev sDraw : Stmt := topS 12
abbrev sTake : Stmt := topS 13
theorem scDraw : FnScope ["row", "at", "limit", "mixed"] ["row", "at", "limit"] (defScope sDraw) := ⟨rfl, rfl, rfl, by decide +kernel, rfl, by decide +kernel, by decide +kernel⟩
theorem ok_draw {f : Addr} {fd : FuncData} (F : Fun K "_law_draw" "_law_draw" sDraw f fd) (T : Glo mg) : FnOk P w K mg base CX0 1 f fd ["row", "at", "limit"] (spDraw K) := by
  refine F.ok scDraw (fun vs H Q E h => ?_) (fun cdv A outer s H vs Q E hr h => ?_)
  · obtain ⟨a, ns, i, m, rfl, _⟩ := h
    rfl
  · obtain ⟨a, ns, i, m, rfl, hS, hn, hi, hm, k⟩ := h
    refine ⟨_, pss_cons (ps_if (pt_cmpR op_lt (pv 1) (pe_callB call_len_seq (by rfl) T.len PySem.boot_len (pa_cons (pv 0) pa_nil)) (nomark _))
        (pss_one (ps_ret (pe_op op_mod (pe_callTy call_int1 (by rfl) T.int PyProof.Rows.boot_int (pa_cons (pe_ix ix_list (pv 0) (pv 1) (fun _ _ => rfl)) pa_nil)) (pv 2)))) pss_nil)
      (pss_cons (ps_set (i := 3) scDraw.nd rfl (.inl rfl) (pe_op op_mod (pe_callTy call_int1 (by rfl) T.int PyProof.Rows.boot_int (pa_cons
          (pe_op op_add (pe_op op_add (pe_op op_mul (pe_ix ix_list (pv 0) (pe_op op_mod (pe_callTy call_int1 (by rfl) T.int PyProof.Rows.boot_int (pa_cons (pv 1) pa_nil)) (pe_callB call_len_seq (by rfl) T.len PySem.boot_len (pa_cons (pv 0) pa_nil))) (fun _ _ => rfl)) pe_int)
            (pe_op op_mul (pv 1) pe_int)) pe_int) pa_nil)) pe_int))
      (pss_one (ps_ret (pe_op op_mod (pe_callTy call_int1 (by rfl) T.int PyProof.Rows.boot_int (pa_cons
          (pe_op op_mod (pe_callTy call_int1 (by rfl) T.int PyProof.Rows.boot_int (pa_cons (pe_op op_add (pe_op op_mul (pv 3) pe_int) (pv 1)) pa_nil)) pe_int) pa_nil)) (pv 2))))), ?_⟩
    have hl : (ns.map V.int).length = ns.length := List.length_map _
    refine ⟨_, rfl, _, rfl, a, _, rfl, .inl hS, _, _, rfl, rfl, _, rfl, ?_⟩
    refine ite2 (fun c => ?_) (fun c => ?_)
    · have c' : i < ((ns.map V.int).length : Int) := of_decide_eq_true c
      rw [hl] at c'
      obtain ⟨y, hy⟩ := at_int (ns := ns) hi c'
      exact ⟨_, rfl, _, rfl, a, _, i, _, rfl, rfl, hS, hy, .inl ⟨_, rfl, _, rfl, _, _, rfl, rfl, hm, k _ (Int.emod_nonneg _ (by omega)) (Int.emod_lt_of_pos _ hm)⟩⟩
    · have hp : (0 : Int) < ((ns.map V.int).length : Int) := by rw [hl]; omega
      obtain ⟨y, hy⟩ := at_int (ns := ns) (z := i % ((ns.map V.int).length : Int)) (Int.emod_nonneg _ (by omega)) (by rw [← hl]; exact Int.emod_lt_of_pos _ hp)
      refine ⟨_, rfl, _, rfl, .inl ⟨_, rfl, _, rfl, a, _, rfl, .inl hS, _, _, rfl, rfl, hp, a, _, _, _, rfl, rfl, hS, hy, _, _, rfl, rfl, .inr ⟨by decide, by decide⟩, ?_⟩⟩
      refine ⟨_, rfl, _, _, rfl, rfl, .inr ⟨by decide, by decide⟩, _, _, rfl, rfl, _, _, rfl, rfl, .inl ⟨_, rfl, _, _, rfl, rfl, (by show (0 : Int) < 2147483399; decide), ?_⟩⟩
      exact ⟨_, rfl, _, _, rfl, rfl, .inr ⟨by decide, by decide⟩, _, rfl, _, _, rfl, rfl, .inl ⟨_, rfl, _, _, rfl, rfl, (by show (0 : Int) < 2147483647; decide), .inl ⟨_, rfl, _, rfl, _, _, rfl, rfl, hm, k _ (Int.emod_nonneg _ (by omega)) (Int.emod_lt_of_pos _ hm)⟩⟩⟩
theorem scTake : FnScope ["row", "spot", "limit"] ["row", "spot", "limit"] (defScope sTake) := ⟨rfl, rfl, rfl, by decide +kernel, rfl, by decide +kernel, by decide +kernel⟩
theorem ok_take {f fD : Addr} {fd fdD : FuncData} (F : Fun K "_law_take" "_law_take" sTake f fd) (T : Glo mg) (D : At K mg "_law_draw" sDraw ["row", "at", "limit"] fD fdD) : FnOk P w K mg base CX0 2 f fd ["row", "spot", "limit"] (spTake K) := by
  have GD : FnOk P w K mg base CX0 1 fD fdD _ _ := ok_draw D.fn T
  refine F.ok scTake (fun vs H Q E h => ?_) (fun cdv A outer s H vs Q E hr h => ?_)
  · obtain ⟨a, b, ns, i, m, rfl, _⟩ := h
    rfl
  · obtain ⟨a, b, ns, i, m, rfl, hab, hS, hb, hn, hi, hm, k⟩ := h
    refine ⟨_, pss_cons (ps_asg (pe_op op_add (pe_ix ix_list (pv 1) pe_int (fun _ _ => rfl)) pe_int) (pg_sub (pv 1) pe_int set_list))
      (pss_one (ps_ret (pe_call GD hr (by rfl) D.mf D.fn.kp D.bd .nil pass0 (pa_cons (pv 0) (pa_cons (pe_op op_sub (pe_ix ix_list (pv 1) pe_int (fun _ _ => rfl)) pe_int) (pa_cons (pv 2) pa_nil)))))), ?_⟩
    refine ⟨_, rfl, b, _, 0, _, rfl, rfl, SqL.of hb, atI_nat (j := 0) rfl, _, _, rfl, rfl, _, rfl, b, _, 0, 0, rfl, rfl, hb, rfl, ?_⟩
    refine ⟨_, rfl, _, rfl, b, _, 0, _, rfl, rfl, SqL.of upd_same, atI_nat (j := 0) rfl, _, _, rfl, rfl, _, rfl, ?_⟩
    refine ⟨a, ns, _, m, rfl, ?_, hn, ?_, hm, k⟩
    · rcases hS with (h | ⟨o, h⟩) | h
      · exact .inl (.inl (by rw [upd_ne hab]; exact h))
      · exact .inl (.inr ⟨o, by rw [upd_ne hab]; exact h⟩)
      · exact .inr h
    · omega

abbrev sNum : Stmt := topS 11
theorem scNum : FnScope ["script", "row", "cell", "left", "k", "mixed"] ["script"] (defScope sNum) := ⟨rfl, rfl, rfl, by decide +kernel, rfl, by decide +kernel, by decide +kernel⟩
def spNum (K : PySem.W.Frag) : Sp := fun vs H Q _ => ∃ (a : Addr) (ns : List Int), vs = [.ref a] ∧ Ints K H a ns ∧ ns.length ≤ 63 ∧
  ∀ (p : Addr) (row : List Int) (H' : Hp), Same H H' → H p = none → H' p = some (.lst (row.map V.int)) → 0 < row.length → Q (.ref p) H'
theorem cut_ints (ns : List Int) (lo hi : Option Int) : ∃ ms : List Int, cutV (ns.map V.int) lo hi = ms.map V.int ∧ ms.length ≤ ns.length := by
  have e := cutV_length (ns.map V.int) lo hi
  unfold cutV at e ⊢
  rw [← List.map_drop, ← List.map_take] at e ⊢
  exact ⟨_, rfl, by simpa using e⟩
/-- the frame within _law_numbers -/
structure NumSt (a p q : Addr) (H0 : Hp) (ms : List Int) (n : Nat) (row : List Int) (H : Hp) : Prop where
  rw : H p = some (.lst (row.map V.int))
  q : H q = some (.lst (ms.map V.int))
  sm : Same H0 H
  ln : row.length ≤ n
theorem NumSt.app {a p q : Addr} {H0 H : Hp} {ms row : List Int} {n : Nat} (h : NumSt a p q H0 ms n row H) (hp : H0 p = none) (hqp : q ≠ p) (z : Int) : NumSt a p q H0 ms (n + 1) (row ++ [z]) (upd H p (.lst (row.map V.int ++ [V.int z]))) :=
  ⟨by rw [upd_same, List.map_append]; rfl, by rw [upd_ne hqp]; exact h.q, fun b o e => by rw [upd_ne (ne_of_none e hp)]; exact h.sm b o e, by rw [List.length_append]; exact Nat.succ_le_succ h.ln⟩
theorem NumSt.mono {a p q : Addr} {H0 H : Hp} {ms row : List Int} {n m : Nat} (h : NumSt a p q H0 ms n row H) (hm : n ≤ m) : NumSt a p q H0 ms m row H := ⟨h.rw, h.q, h.sm, Nat.le_trans h.ln hm⟩
theorem ok_num {f : Addr} {fd : FuncData} (F : Fun K "_law_numbers" "_law_numbers" sNum f fd) (T : Glo mg) : FnOk P w K mg base CX0 1 f fd ["script"] (spNum K) := by
  refine F.ok scNum (fun vs H Q E h => ?_) (fun cdv A outer s H vs Q E hr h => ?_)
  · obtain ⟨a, ns, rfl, _⟩ := h
    rfl
  · obtain ⟨a, ns, rfl, hS, hn, k⟩ := h
    refine ⟨_, pss_cons (ps_set (i := 1) scNum.nd rfl (.inl rfl) (pe_lst pa_nil))
      (pss_cons (ps_for PassesOwn.never rfl (pi_list (pe_slice sl_list (pv 0) po_none (po_some pe_int))) (pg_name (i := 2) scNum.nd rfl (.inl rfl))
        (pss_one (ps_if (pt_cmpR op_ge (pv 2) (pe_op op_pow pe_int pe_int) (nomark _))
          (pss_cons (ps_set (i := 3) scNum.nd rfl (.inl rfl) (pv 2))
          (pss_one (ps_for PassesOwn.never rfl (pi_range1 (by rfl) T.range (pa_cons pe_int pa_nil)) (pg_name (i := 4) scNum.nd rfl (.inl rfl))
            (pss_cons (ps_if (pt_cmpR op_eq (pv 3) pe_int (nomark _)) (pss_one ps_break) pss_nil)
            (pss_cons (ps_expr (pe_bm PySem.F.plainAttrs_list PySem.F.slot_list_append PySem.F.type_list_append mt_append (pv 1) (pa_cons (pe_op op_mod (pe_callTy call_int1 (by rfl) T.int PyProof.Rows.boot_int (pa_cons (pv 3) pa_nil)) pe_int) pa_nil)))
            (pss_one (ps_set (i := 3) scNum.nd rfl (.inl rfl) (pe_op op_fdiv (pv 3) pe_int))))))))
          (pss_one (ps_for PassesOwn.never rfl (pi_range1 (by rfl) T.range (pa_cons pe_int pa_nil)) (pg_name (i := 4) scNum.nd rfl (.inl rfl))
            (pss_cons (ps_set (i := 5) scNum.nd rfl (.inl rfl) (pe_op op_mod (pe_callTy call_int1 (by rfl) T.int PyProof.Rows.boot_int (pa_cons (pe_op op_add (pe_op op_add (pe_op op_mul (pv 2) pe_int) (pe_op op_mul (pv 4) pe_int)) pe_int) pa_nil)) pe_int))
            (pss_one (ps_expr (pe_bm PySem.F.plainAttrs_list PySem.F.slot_list_append PySem.F.type_list_append mt_append (pv 1) (pa_cons (pe_op op_mod (pe_callTy call_int1 (by rfl) T.int PyProof.Rows.boot_int (pa_cons (pe_op op_add (pe_op op_mul (pv 5) pe_int) (pv 4)) pa_nil)) pe_int) pa_nil))))))))))
      (pss_cons (ps_if (pt_cmpR op_eq (pe_callB call_len_seq (by rfl) T.len PySem.boot_len (pa_cons (pv 1) pa_nil)) pe_int (nomark _))
        (pss_one (ps_expr (pe_bm PySem.F.plainAttrs_list PySem.F.slot_list_append PySem.F.type_list_append mt_append (pv 1) (pa_cons pe_int pa_nil)))) pss_nil)
      (pss_one (ps_ret (pv 1))))), ?_⟩
    refine ⟨(by decide), fun p hp => ?_⟩
    have s1 : Same H (upd H p (.lst [])) := fun b o e => by rw [upd_ne (ne_of_none e hp)]; exact e
    refine ⟨_, rfl, _, rfl, a, _, rfl, s1.seq hS, fun q hq => ?_⟩
    obtain ⟨ms, em, hms⟩ := cut_ints ns none (some 63)
    rw [em]
    have hqp : q ≠ p := fun z => by
      rw [z, upd_same] at hq
      cases hq
    have hq0 : H q = none := by rw [upd_ne hqp] at hq; exact hq
    have S0 : NumSt a p q H ms 0 [] (upd (upd H p (.lst [])) q (.lst (ms.map V.int))) := ⟨by rw [upd_ne (Ne.symm hqp), upd_same]; rfl, upd_same, fun b o e => by rw [upd_ne (ne_of_none e hq0), upd_ne (ne_of_none e hp)]; exact e, Nat.le_refl _⟩
    refine ⟨q, rfl, ⟨_, SqL.of S0.q⟩, for_list (K := K) (a := q) (xs := ms.map V.int) (fun i σ H2 => ∃ (row : List Int) (c l k m : Option V), σ = [some (.ref a), some (.ref p), c, l, k, m] ∧ NumSt a p q H ms (60 * i) row H2)
      ⟨[], none, none, none, none, rfl, S0⟩ (fun i σ H2 _ ⟨_, _, _, _, _, _, h2⟩ => SqL.of h2.q) ?_ ?_⟩
    · rintro i y σ H2 hi ⟨row, c, l, kk, m, rfl, h2⟩
      have hil : i < ms.length := by
        have := (List.getElem?_eq_some_iff.mp hi).1
        simpa using this
      obtain ⟨z, rfl⟩ : ∃ z, y = V.int z := by
        rw [List.getElem?_map] at hi
        cases e : ms[i]? with
        | none => rw [e] at hi; cases hi
        | some z => rw [e] at hi; exact ⟨z, (Option.some.inj hi).symm⟩
      refine ⟨_, rfl, _, _, rfl, rfl, ⟨by decide, by decide, by decide⟩, _, _, rfl, rfl, _, rfl, ?_⟩
      refine ite2 (fun _ => ?_) (fun _ => ?_)
      · refine ⟨_, rfl, 60, rfl, by decide, by decide, for_range (n := 60) (fun j σ H3 => ∃ (row : List Int) (c k m : Option V) (l : Int), σ = [some (.ref a), some (.ref p), c, some (.int l), k, m] ∧ NumSt a p q H ms (60 * i + j) row H3)
          ⟨row, _, _, _, z, rfl, h2⟩ ?_ ?_⟩
        · rintro j σ H3 hj ⟨row, c, k3, m3, l3, rfl, h3⟩
          refine ⟨_, rfl, rfl, _, rfl, ?_⟩
          refine ite2 (fun _ => ?_) (fun _ => ?_)
          · exact ⟨row, _, _, _, _, rfl, h3.mono (by omega)⟩
          · refine ⟨_, rfl, .inl ⟨rfl, _, SqL.of h3.rw⟩, _, rfl, .inl ⟨_, rfl, _, _, rfl, rfl, (by show (0 : Int) < 997; decide), p, _, _, rfl, rfl, h3.rw, ?_, ?_⟩⟩
            · have := h3.ln
              rw [List.length_map]
              exact Nat.lt_of_le_of_lt (by omega : _ ≤ 4000) (by decide)
            · exact ⟨_, rfl, _, _, rfl, rfl, ⟨by decide, by decide⟩, row ++ [_], _, _, _, _, rfl, h3.app hp hqp _⟩
        · rintro σ H3 ⟨row, c, k3, m3, l3, rfl, h3⟩
          exact ⟨row, _, _, _, _, rfl, h3.mono (by omega)⟩
      · refine ⟨4, rfl, by decide, by decide, for_range (n := 4) (fun j σ H3 => ∃ (row : List Int) (l k m : Option V), σ = [some (.ref a), some (.ref p), some (.int z), l, k, m] ∧ NumSt a p q H ms (60 * i + j) row H3)
          ⟨row, _, _, _, rfl, h2⟩ ?_ ?_⟩
        · rintro j σ H3 hj ⟨row, l3, k3, m3, rfl, h3⟩
          refine ⟨_, rfl, _, _, rfl, rfl, .inr ⟨by decide, by decide⟩, _, rfl, _, _, rfl, rfl, .inr ⟨by decide, by decide⟩, _, _, rfl, rfl, _, _, rfl, rfl, .inl ⟨_, rfl, _, _, rfl, rfl, (by show (0 : Int) < 2147483647; decide), ?_⟩⟩
          refine ⟨_, rfl, .inl ⟨rfl, _, SqL.of h3.rw⟩, _, rfl, _, _, rfl, rfl, .inr ⟨by decide, by decide⟩, _, rfl, _, _, rfl, rfl, .inl ⟨_, rfl, _, _, rfl, rfl, (by show (0 : Int) < 2147483629; decide), p, _, _, rfl, rfl, h3.rw, ?_, ?_⟩⟩
          · have := h3.ln
            rw [List.length_map]
            exact Nat.lt_of_le_of_lt (by omega : _ ≤ 4000) (by decide)
          · exact ⟨row ++ [_], _, _, _, rfl, h3.app hp hqp _⟩
        · rintro σ H3 ⟨row, l3, k3, m3, rfl, h3⟩
          exact ⟨row, _, _, _, _, rfl, h3.mono (by omega)⟩
    · rintro σ H2 ⟨row, c, l, kk, m, rfl, h2⟩
      refine ⟨_, rfl, p, _, rfl, .inl (SqL.of h2.rw), rfl, _, rfl, ?_⟩
      refine ite2 (fun c0 => ?_) (fun c0 => ?_)
      · refine ⟨_, rfl, .inl ⟨rfl, _, SqL.of h2.rw⟩, p, _, _, rfl, rfl, h2.rw, ?_, ?_⟩
        · have := h2.ln
          rw [List.length_map]
          exact Nat.lt_of_le_of_lt (Nat.le_trans this (by omega : 60 * (ms.map V.int).length ≤ 60 * (ms.map V.int).length)) (by
            rw [List.length_map]
            exact Nat.lt_of_le_of_lt (by omega : 60 * ms.length ≤ 4000) (by decide))
        · exact ⟨_, rfl, k p (row ++ [0]) _ (h2.app hp hqp 0).sm hp (h2.app hp hqp 0).rw (by rw [List.length_append]; exact Nat.succ_pos _)⟩
      · have hr0 : 0 < row.length := by
          rcases Nat.eq_zero_or_pos row.length with e | e
          · exfalso
            apply c0
            rw [List.length_map, e]
            decide
          · exact e
        exact ⟨_, rfl, k p row _ h2.sm hp h2.rw hr0⟩
end
end Kl

namespace Kl
open PySem L2 Kd
section
variable {P : Program} {w : World} {K : PySem.W.Frag} {mg : Str → Option Value} {base : Heap}
abbrev sWide : Stmt := topS 14
theorem scWide : FnScope ["row", "spot", "limit", "first", "second", "third"] ["row", "spot", "limit"] (defScope sWide) := ⟨rfl, rfl, rfl, by decide +kernel, rfl, by decide +kernel, by decide +kernel⟩
def spWide (K : PySem.W.Frag) : Sp := fun vs H Q _ => ∃ (a b : Addr) (ns : List Int) (i m : Int), vs = [.ref a, .ref b, .int m] ∧ a ≠ b ∧ Ints K H a ns ∧ H b = some (.lst [.int i]) ∧ 0 < ns.length ∧ 0 ≤ i ∧ 0 < m ∧
  ∀ d : Int, 0 ≤ d → d < m → Q (.int d) (upd H b (.lst [.int (i + 1 + 1 + 1)]))
theorem ints_upd {H : Hp} {a b : Addr} {ns : List Int} {o : HO} (hab : a ≠ b) (h : Ints K H a ns) : Ints K (upd H b o) a ns := by
  rcases h with (h | ⟨o', h⟩) | h
  · exact .inl (.inl (by rw [upd_ne hab]; exact h))
  · exact .inl (.inr ⟨o', by rw [upd_ne hab]; exact h⟩)
  · exact .inr h
theorem ok_wide {f fT : Addr} {fd fdT : FuncData} (F : Fun K "_law_wide" "_law_wide" sWide f fd) (T : Glo mg) (D : At K mg "_law_take" sTake ["row", "spot", "limit"] fT fdT)
    (GT : FnOk P w K mg base CX0 2 fT fdT ["row", "spot", "limit"] (spTake K)) : FnOk P w K mg base CX0 3 f fd ["row", "spot", "limit"] (spWide K) := by
  refine F.ok scWide (fun vs H Q E h => ?_) (fun cdv A outer s H vs Q E hr h => ?_)
  · obtain ⟨a, b, ns, i, m, rfl, _⟩ := h
    rfl
  · obtain ⟨a, b, ns, i, m, rfl, hab, hS, hb, hn, hi, hm, k⟩ := h
    refine ⟨_, pss_cons (ps_set (i := 3) scWide.nd rfl (.inl rfl) (pe_call GT hr (by rfl) D.mf D.fn.kp D.bd .nil pass0 (pa_cons (pv 0) (pa_cons (pv 1) (pa_cons pe_int pa_nil)))))
      (pss_cons (ps_set (i := 4) scWide.nd rfl (.inl rfl) (pe_call GT hr (by rfl) D.mf D.fn.kp D.bd .nil pass0 (pa_cons (pv 0) (pa_cons (pv 1) (pa_cons pe_int pa_nil)))))
      (pss_cons (ps_set (i := 5) scWide.nd rfl (.inl rfl) (pe_call GT hr (by rfl) D.mf D.fn.kp D.bd .nil pass0 (pa_cons (pv 0) (pa_cons (pv 1) (pa_cons pe_int pa_nil)))))
      (pss_one (ps_ret (pe_op op_mod (pe_callTy call_int1 (by rfl) T.int PyProof.Rows.boot_int (pa_cons (pe_op op_add (pe_op op_add (pe_op op_mul (pv 3) pe_int) (pe_op op_mul (pv 4) pe_int)) (pv 5)) pa_nil)) (pv 2)))))), ?_⟩
    refine ⟨_, rfl, _, rfl, a, b, ns, i, _, rfl, hab, hS, hb, hn, hi, (by decide), fun d1 _ _ => ?_⟩
    refine ⟨_, rfl, _, rfl, a, b, ns, i + 1, _, rfl, hab, ints_upd hab hS, upd_same, hn, by omega, (by decide), fun d2 _ _ => ?_⟩
    rw [upd_upd]
    refine ⟨_, rfl, _, rfl, a, b, ns, i + 1 + 1, _, rfl, hab, ints_upd hab hS, upd_same, hn, by omega, (by decide), fun d3 _ _ => ?_⟩
    rw [upd_upd]
    exact ⟨_, rfl, _, _, rfl, rfl, .inr ⟨by decide, by decide⟩, _, rfl, _, _, rfl, rfl, .inr ⟨by decide, by decide⟩, _, _, rfl, rfl, _, rfl, _, _, rfl, rfl, .inl ⟨_, rfl, _, rfl, _, _, rfl, rfl, hm, k _ (Int.emod_nonneg _ (by omega)) (Int.emod_lt_of_pos _ hm)⟩⟩
end
end Kl

namespace Kl
open PySem L2 Kd
abbrev sSo : Stmt := topS 10
theorem scSo : FnScope ["found", "meant", "k"] ["found", "meant"] (defScope sSo) := ⟨rfl, rfl, rfl, by decide +kernel, rfl, by decide +kernel, by decide +kernel⟩
def spSo (n : Nat) : Sp := fun vs H Q _ => ∃ (a b : D) (v u : V), vs = [v, u] ∧ Rep H a v ∧ Rep H b u ∧ D.dep b < n ∧ Q (.bl (D.eqb a b)) H
theorem isi_of {K : PySem.W.Frag} {H : Hp} {d : D} {v : V} (T : String) {b : Bool} (r : Rep H d v) (k : PySem.W.kitOne K (.type d.ty) (.type T) = some b) {Q : VK} (q : Q (.bl b) H) : rIsi K [v, .ty T] H Q :=
  ⟨v, .ty T, .type d.ty, .type T, b, rfl, .ty T, r.ty, k, q⟩
section
variable {P : Program} {w : World} {K : PySem.W.Frag} {mg : Str → Option Value} {base : Heap}
theorem ok_so {f : Addr} {fd : FuncData} (F : At K mg "_law_so" sSo ["found", "meant"] f fd) (T : Glo mg) : ∀ n : Nat, FnOk P w K mg base CX0 n f fd ["found", "meant"] (spSo n)
  | 0 => ⟨fun vs H Q E ⟨a, b, v, u, e, _⟩ => by subst e; rfl, fun A outer s H args us vs Q E hr he hb hv ⟨a, b, v, u, e, _, _, d, _⟩ => absurd d (Nat.not_lt_zero _)⟩
  | n + 1 => by
    have G := ok_so F T n
    refine F.fn.ok scSo (fun vs H Q E h => ?_) (fun cdv A outer s H vs Q E hr h => ?_)
    · obtain ⟨a, b, v, u, rfl, _⟩ := h
      rfl
    · obtain ⟨a, b, v, u, rfl, ra, rb, hd, k⟩ := h
      refine ⟨_, pss_cons (ps_if (pt_cmp (pc_isN (pv 1))) (pss_one (ps_ret (pe_cmp (pc_isN (pv 0))))) pss_nil)
        (pss_cons (ps_if (pt_val (pe_callB call_isi (by rfl) T.isi PyProof.Rows.boot_isinstance (pa_cons (pv 1) (pa_cons (pe_bltn (v := .ty "tuple") (by rfl) T.tuple PyProof.Rows.boot_tuple rfl) pa_nil))))
          (pss_cons (ps_if (PW.pt (pw_or (pt_not (pt_val (pe_callB call_isi (by rfl) T.isi PyProof.Rows.boot_isinstance (pa_cons (pv 0) (pa_cons (pe_bltn (v := .ty "tuple") (by rfl) T.tuple PyProof.Rows.boot_tuple rfl) pa_nil)))))
              (pw_or1 (pt_cmpR op_ne (pe_callB call_len_seq (by rfl) T.len PySem.boot_len (pa_cons (pv 0) pa_nil)) (pe_callB call_len_seq (by rfl) T.len PySem.boot_len (pa_cons (pv 1) pa_nil)) (nomark _))))) (pss_one (ps_ret pe_bl)) pss_nil)
          (pss_cons (ps_for PassesOwn.never rfl (pi_range1 (by rfl) T.range (pa_cons (pe_callB call_len_seq (by rfl) T.len PySem.boot_len (pa_cons (pv 1) pa_nil)) pa_nil)) (pg_name (i := 2) scSo.nd rfl (.inl rfl))
            (pss_one (ps_if (pt_not (pt_val (pe_call G hr (by rfl) F.mf F.fn.kp F.bd .nil pass0 (pa_cons (pe_ix ix_tup (pv 0) (pv 2) (fun _ _ => rfl)) (pa_cons (pe_ix ix_tup (pv 1) (pv 2) (fun _ _ => rfl)) pa_nil))))) (pss_one (ps_ret pe_bl)) pss_nil)))
          (pss_one (ps_ret pe_bl)))) pss_nil)
        (pss_cons (ps_if (PW.pt (pw_or (pt_val (pe_callB call_isi (by rfl) T.isi PyProof.Rows.boot_isinstance (pa_cons (pv 1) (pa_cons (pe_bltn (v := .ty "bool") (by rfl) T.bool (by decide +kernel) rfl) pa_nil))))
            (pw_or1 (pt_val (pe_callB call_isi (by rfl) T.isi PyProof.Rows.boot_isinstance (pa_cons (pv 0) (pa_cons (pe_bltn (v := .ty "bool") (by rfl) T.bool (by decide +kernel) rfl) pa_nil)))))))
          (pss_one (ps_ret (pe_and (pe_callB call_isi (by rfl) T.isi PyProof.Rows.boot_isinstance (pa_cons (pv 1) (pa_cons (pe_bltn (v := .ty "bool") (by rfl) T.bool (by decide +kernel) rfl) pa_nil)))
            (pe_and (pe_callB call_isi (by rfl) T.isi PyProof.Rows.boot_isinstance (pa_cons (pv 0) (pa_cons (pe_bltn (v := .ty "bool") (by rfl) T.bool (by decide +kernel) rfl) pa_nil))) (pe_one (pe_cmpR op_eq (pv 0) (pv 1) (nomark _))))))) pss_nil)
        (pss_cons (ps_if (pt_val (pe_callB call_isi (by rfl) T.isi PyProof.Rows.boot_isinstance (pa_cons (pv 1) (pa_cons (pe_bltn (v := .ty "int") (by rfl) T.int PyProof.Rows.boot_int rfl) pa_nil))))
          (pss_one (ps_ret (pe_and (pe_callB call_isi (by rfl) T.isi PyProof.Rows.boot_isinstance (pa_cons (pv 0) (pa_cons (pe_bltn (v := .ty "int") (by rfl) T.int PyProof.Rows.boot_int rfl) pa_nil))) (pe_one (pe_cmpR op_eq (pv 0) (pv 1) (nomark _)))))) pss_nil)
        (pss_one (ps_ret (pe_and (pe_callB call_isi (by rfl) T.isi PyProof.Rows.boot_isinstance (pa_cons (pv 1) (pa_cons (pe_bltn (v := .ty "str") (by rfl) T.str (by decide +kernel) rfl) pa_nil)))
            (pe_and (pe_callB call_isi (by rfl) T.isi PyProof.Rows.boot_isinstance (pa_cons (pv 0) (pa_cons (pe_bltn (v := .ty "str") (by rfl) T.str (by decide +kernel) rfl) pa_nil))) (pe_one (pe_cmpR op_eq (pv 0) (pv 1) (nomark _)))))))))), ?_⟩
      refine ⟨u, rfl, _, rfl, ?_⟩
      refine ite2 (fun c => ?_) (fun c => ?_)
      · have eu : u = .non := of_decide_eq_true c
        subst eu
        cases b with
        | non =>
          refine ⟨v, rfl, ?_⟩
          cases a with
          | non => cases (show v = V.non from ra); exact k
          | bl x => cases (show v = V.bl x from ra); exact k
          | int x => cases (show v = V.int x from ra); exact k
          | str x => cases (show v = V.str x from ra); exact k
          | tup x =>
            obtain ⟨p, q, e, _⟩ := id ra
            subst e
            exact k
        | bl x => cases (show V.non = V.bl x from rb)
        | int x => cases (show V.non = V.int x from rb)
        | str x => cases (show V.non = V.str x from rb)
        | tup x =>
          obtain ⟨p, q, e, _⟩ := id rb
          cases e
      · refine ⟨u, rfl, u, _, _, _, _, rfl, .ty _, rb.ty, D.kTup b, _, rfl, ?_⟩
        match b, rb, hd, k with
        | .non, rb, hd, k => exact absurd (decide_eq_true (show u = V.non from rb)) c
        | .tup bs, rb, hd, k =>
          obtain ⟨pb, ub, rfl, hb, zb, qb⟩ := id rb
          refine iteT ?_
          refine ⟨v, rfl, v, _, _, _, _, rfl, .ty _, ra.ty, D.kTup a, _, rfl, ?_⟩
          match a, ra, k with
          | .tup as, ra, k =>
            obtain ⟨pa, ua, rfl, ha, za, qa⟩ := id ra
            refine iteF ?_
            refine ⟨_, rfl, pa, ua, rfl, .inr (.inl ha), _, rfl, pb, ub, rfl, .inr (.inl hb), rfl, _, rfl, ?_⟩
            have la := qa.len
            have lb := qb.len
            refine ite2 (fun c2 => ?_) (fun c2 => ?_)
            · have ne : as.length ≠ bs.length := fun z => by
                rw [la, lb, z] at c2
                simp at c2
              have e : D.eqb (.tup as) (.tup bs) = false := by
                cases z : D.eqb (.tup as) (.tup bs) with
                | false => rfl
                | true => exact absurd (D.eqbs_len (by simpa only [D.eqb] using z)) ne
              rw [e] at k
              exact k
            · have eq : as.length = bs.length := by
                have z : ua.length = ub.length := by
                  have : ¬ (!decide (V.int (ua.length : Int) = V.int (ub.length : Int))) = true := c2
                  simp at this
                  omega
                omega
              refine ⟨_, rfl, pb, ub, rfl, .inr (.inl hb), ub.length, rfl, by omega, ?_, ?_⟩
              · rw [sizeLine_eq] at zb
                omega
              · refine for_range (n := ((ub.length : Nat) : Int).toNat) (fun i σ H2 => ∃ kk : Option V, σ = [some (.ref pa), some (.ref pb), kk] ∧ H2 = H ∧ D.eqbs (as.take i) (bs.take i) = true) ⟨none, rfl, rfl, by simp [D.eqbs]⟩ ?_ ?_
                · rintro i σ H2 hi ⟨kk, rfl, rfl, he⟩
                  have hi' : i < ub.length := by simpa using hi
                  have hia : i < as.length := by omega
                  have hib : i < bs.length := by omega
                  have ga := List.getElem?_eq_getElem hia
                  have gb := List.getElem?_eq_getElem hib
                  obtain ⟨x, ex, rx⟩ := qa.get ga
                  obtain ⟨y, ey, ry⟩ := qb.get gb
                  have ez : (0 : Int) + (i : Int) = (i : Int) := Int.zero_add _
                  refine ⟨_, rfl, _, rfl, pa, ua, _, x, rfl, rfl, .inl ha, at_of ez ex, _, rfl, _, rfl, pb, ub, _, y, rfl, rfl, .inl hb, at_of ez ey, ?_⟩
                  refine ⟨_, _, x, y, rfl, rx, ry, ?_, _, rfl, ?_⟩
                  · have := D.dep_mem gb
                    simp only [D.dep] at hd
                    omega
                  · have et := D.eqbs_take ga gb
                    rw [he, Bool.true_and] at et
                    cases z : D.eqb as[i] bs[i] with
                    | true =>
                      rw [z] at et
                      exact ⟨_, rfl, rfl, et⟩
                    | false =>
                      have e : D.eqb (.tup as) (.tup bs) = false := by
                        simp only [D.eqb]
                        exact D.eqbs_cut ga gb z
                      rw [e] at k
                      exact k
                · rintro σ H2 ⟨kk, rfl, rfl, he⟩
                  have e : D.eqb (.tup as) (.tup bs) = true := by
                    simp only [D.eqb]
                    have e1 : ((ub.length : Nat) : Int).toNat = bs.length := by simpa using lb
                    rw [e1, List.take_of_length_le (Nat.le_of_eq eq), List.take_length] at he
                    exact he
                  rw [e] at k
                  exact k
          | .non, ra, k => exact k
          | .bl x, ra, k => exact k
          | .int x, ra, k => exact k
          | .str x, ra, k => exact k
        | .bl y, rb, hd, k =>
          obtain rfl : u = V.bl y := id rb
          refine iteF ?_
          refine ⟨_, rfl, _, _, _, _, _, rfl, .ty _, rb.ty, D.kBl (.bl y), _, rfl, ?_⟩
          refine ⟨_, rfl, _, _, _, _, _, rfl, .ty _, rb.ty, D.kBl (.bl y), _, rfl, iteT ?_⟩
          refine ⟨_, rfl, v, _, _, _, _, rfl, .ty _, ra.ty, D.kBl a, _, rfl, ?_⟩
          match a, ra, k with
          | .bl x, ra, k =>
            obtain rfl : v = V.bl x := id ra
            refine iteT ⟨_, rfl, _, rfl, rfl, ?_⟩
            have e : decide (V.bl x = V.bl y) = D.eqb (.bl x) (.bl y) := by
              simp only [D.eqb, V.bl.injEq]
              cases x <;> cases y <;> rfl
            rw [e]
            exact k
          | .non, ra, k => exact k
          | .int x, ra, k => exact k
          | .str x, ra, k => exact k
          | .tup x, ra, k => exact k
        | .int y, rb, hd, k =>
          obtain rfl : u = V.int y := id rb
          refine iteF ?_
          refine ⟨_, rfl, _, _, _, _, _, rfl, .ty _, rb.ty, D.kBl (.int y), _, rfl, ?_⟩
          refine ⟨_, rfl, v, _, _, _, _, rfl, .ty _, ra.ty, D.kBl a, _, rfl, ?_⟩
          match a, ra, k with
          | .bl x, ra, k => exact ⟨_, rfl, _, _, _, _, _, rfl, .ty _, rb.ty, D.kBl (.int y), _, rfl, k⟩
          | .int x, ra, k =>
            obtain rfl : v = V.int x := id ra
            refine iteF ⟨_, rfl, _, _, _, _, _, rfl, .ty _, rb.ty, D.kInt (.int y), _, rfl, ?_⟩
            refine ⟨_, rfl, _, _, _, _, _, rfl, .ty _, ra.ty, D.kInt (.int x), _, rfl, iteT ⟨_, rfl, _, rfl, rfl, ?_⟩⟩
            have e : decide (V.int x = V.int y) = D.eqb (.int x) (.int y) := by
              simp only [D.eqb, V.int.injEq]
            rw [e]
            exact k
          | .non, ra, k => exact ⟨_, rfl, _, _, _, _, _, rfl, .ty _, rb.ty, D.kInt (.int y), _, rfl, _, rfl, _, _, _, _, _, rfl, .ty _, ra.ty, D.kInt .non, _, rfl, k⟩
          | .str x, ra, k => exact ⟨_, rfl, _, _, _, _, _, rfl, .ty _, rb.ty, D.kInt (.int y), _, rfl, _, rfl, _, _, _, _, _, rfl, .ty _, ra.ty, D.kInt (.str x), _, rfl, k⟩
          | .tup x, ra, k => exact ⟨_, rfl, _, _, _, _, _, rfl, .ty _, rb.ty, D.kInt (.int y), _, rfl, _, rfl, _, _, _, _, _, rfl, .ty _, ra.ty, D.kInt (.tup x), _, rfl, k⟩
        | .str y, rb, hd, k =>
          obtain rfl : u = V.str y := id rb
          refine iteF ?_
          refine ⟨_, rfl, _, _, _, _, _, rfl, .ty _, rb.ty, D.kBl (.str y), _, rfl, ?_⟩
          refine ⟨_, rfl, v, _, _, _, _, rfl, .ty _, ra.ty, D.kBl a, _, rfl, ?_⟩
          match a, ra, k with
          | .bl x, ra, k => exact ⟨_, rfl, _, _, _, _, _, rfl, .ty _, rb.ty, D.kBl (.str y), _, rfl, k⟩
          | .str x, ra, k =>
            obtain rfl : v = V.str x := id ra
            refine iteF ⟨_, rfl, _, _, _, _, _, rfl, .ty _, rb.ty, D.kInt (.str y), _, rfl, ?_⟩
            refine iteF ⟨_, rfl, _, _, _, _, _, rfl, .ty _, rb.ty, D.kStr (.str y), _, rfl, iteT ?_⟩
            refine ⟨_, rfl, _, _, _, _, _, rfl, .ty _, ra.ty, D.kStr (.str x), _, rfl, iteT ⟨_, rfl, _, rfl, rfl, ?_⟩⟩
            have e : decide (V.str x = V.str y) = D.eqb (.str x) (.str y) := by
              simp only [D.eqb, V.str.injEq]
            rw [e]
            exact k
          | .non, ra, k => exact ⟨_, rfl, _, _, _, _, _, rfl, .ty _, rb.ty, D.kInt (.str y), _, rfl, _, rfl, _, _, _, _, _, rfl, .ty _, rb.ty, D.kStr (.str y), _, rfl, _, rfl, _, _, _, _, _, rfl, .ty _, ra.ty, D.kStr .non, _, rfl, k⟩
          | .int x, ra, k => exact ⟨_, rfl, _, _, _, _, _, rfl, .ty _, rb.ty, D.kInt (.str y), _, rfl, _, rfl, _, _, _, _, _, rfl, .ty _, rb.ty, D.kStr (.str y), _, rfl, _, rfl, _, _, _, _, _, rfl, .ty _, ra.ty, D.kStr (.int x), _, rfl, k⟩
          | .tup x, ra, k => exact ⟨_, rfl, _, _, _, _, _, rfl, .ty _, rb.ty, D.kInt (.str y), _, rfl, _, rfl, _, _, _, _, _, rfl, .ty _, rb.ty, D.kStr (.str y), _, rfl, _, rfl, _, _, _, _, _, rfl, .ty _, ra.ty, D.kStr (.tup x), _, rfl, k⟩
end
end Kl

namespace Kl
open PySem L2 Kd
section
variable {P : Program} {w : World} {K : PySem.W.Frag} {mg : Str → Option Value} {base : Heap}
theorem ok_soH {f : Addr} {fd : FuncData} (F : At K mg "_law_so" sSo ["found", "meant"] f fd) (T : Glo mg) : ∀ n : Nat, L2H.FnH P w K mg base CX0 n f fd ["found", "meant"] (spSo n)
  | 0 => ⟨fun vs H Q E ⟨a, b, v, u, e, _⟩ => by subst e; rfl, fun A outer s H args us vs Q E p hr hot hpin he hb hv ⟨a, b, v, u, e, _, _, d, _⟩ => absurd d (Nat.not_lt_zero _)⟩
  | n + 1 => by
    have G := ok_soH F T n
    refine Kx.okH F.fn scSo (fun vs H Q E h => ?_) (fun cdv A outer s H vs Q E p hot1 hr h => ?_)
    · obtain ⟨a, b, v, u, rfl, _⟩ := h
      rfl
    · obtain ⟨a, b, v, u, rfl, ra, rb, hd, k⟩ := h
      refine ⟨_, pss_cons (ps_if (pt_cmp (pc_isN (pv 1))) (pss_one (ps_ret (pe_cmp (pc_isN (pv 0))))) pss_nil)
        (pss_cons (ps_if (pt_val (pe_callB call_isi (by rfl) T.isi PyProof.Rows.boot_isinstance (pa_cons (pv 1) (pa_cons (pe_bltn (v := .ty "tuple") (by rfl) T.tuple PyProof.Rows.boot_tuple rfl) pa_nil))))
          (pss_cons (ps_if (PW.pt (pw_or (pt_not (pt_val (pe_callB call_isi (by rfl) T.isi PyProof.Rows.boot_isinstance (pa_cons (pv 0) (pa_cons (pe_bltn (v := .ty "tuple") (by rfl) T.tuple PyProof.Rows.boot_tuple rfl) pa_nil)))))
              (pw_or1 (pt_cmpR op_ne (pe_callB call_len_seq (by rfl) T.len PySem.boot_len (pa_cons (pv 0) pa_nil)) (pe_callB call_len_seq (by rfl) T.len PySem.boot_len (pa_cons (pv 1) pa_nil)) (nomark _))))) (pss_one (ps_ret pe_bl)) pss_nil)
          (pss_cons (L2H.ps_forH PassesOwn.never (Kx.hot_of hot1) (L2H.pi_range1H (by rfl) T.range (pa_cons (pe_callB call_len_seq (by rfl) T.len PySem.boot_len (pa_cons (pv 1) pa_nil)) pa_nil)) (pg_name (i := 2) scSo.nd rfl (.inl rfl))
            (pss_one (ps_if (pt_not (pt_val (L2H.pe_callH G hr (Kx.hot_of hot1) (by rfl) F.mf F.fn.kp F.bd (Kx.pass_at (E := fun _ => E0)) (pa_cons (pe_ix ix_tup (pv 0) (pv 2) (fun _ _ => rfl)) (pa_cons (pe_ix ix_tup (pv 1) (pv 2) (fun _ _ => rfl)) pa_nil))))) (pss_one (ps_ret pe_bl)) pss_nil)))
          (pss_one (ps_ret pe_bl)))) pss_nil)
        (pss_cons (ps_if (PW.pt (pw_or (pt_val (pe_callB call_isi (by rfl) T.isi PyProof.Rows.boot_isinstance (pa_cons (pv 1) (pa_cons (pe_bltn (v := .ty "bool") (by rfl) T.bool (by decide +kernel) rfl) pa_nil))))
            (pw_or1 (pt_val (pe_callB call_isi (by rfl) T.isi PyProof.Rows.boot_isinstance (pa_cons (pv 0) (pa_cons (pe_bltn (v := .ty "bool") (by rfl) T.bool (by decide +kernel) rfl) pa_nil)))))))
          (pss_one (ps_ret (pe_and (pe_callB call_isi (by rfl) T.isi PyProof.Rows.boot_isinstance (pa_cons (pv 1) (pa_cons (pe_bltn (v := .ty "bool") (by rfl) T.bool (by decide +kernel) rfl) pa_nil)))
            (pe_and (pe_callB call_isi (by rfl) T.isi PyProof.Rows.boot_isinstance (pa_cons (pv 0) (pa_cons (pe_bltn (v := .ty "bool") (by rfl) T.bool (by decide +kernel) rfl) pa_nil))) (pe_one (pe_cmpR op_eq (pv 0) (pv 1) (nomark _))))))) pss_nil)
        (pss_cons (ps_if (pt_val (pe_callB call_isi (by rfl) T.isi PyProof.Rows.boot_isinstance (pa_cons (pv 1) (pa_cons (pe_bltn (v := .ty "int") (by rfl) T.int PyProof.Rows.boot_int rfl) pa_nil))))
          (pss_one (ps_ret (pe_and (pe_callB call_isi (by rfl) T.isi PyProof.Rows.boot_isinstance (pa_cons (pv 0) (pa_cons (pe_bltn (v := .ty "int") (by rfl) T.int PyProof.Rows.boot_int rfl) pa_nil))) (pe_one (pe_cmpR op_eq (pv 0) (pv 1) (nomark _)))))) pss_nil)
        (pss_one (ps_ret (pe_and (pe_callB call_isi (by rfl) T.isi PyProof.Rows.boot_isinstance (pa_cons (pv 1) (pa_cons (pe_bltn (v := .ty "str") (by rfl) T.str (by decide +kernel) rfl) pa_nil)))
            (pe_and (pe_callB call_isi (by rfl) T.isi PyProof.Rows.boot_isinstance (pa_cons (pv 0) (pa_cons (pe_bltn (v := .ty "str") (by rfl) T.str (by decide +kernel) rfl) pa_nil))) (pe_one (pe_cmpR op_eq (pv 0) (pv 1) (nomark _)))))))))), ?_⟩
      refine ⟨u, rfl, _, rfl, ?_⟩
      refine ite2 (fun c => ?_) (fun c => ?_)
      · have eu : u = .non := of_decide_eq_true c
        subst eu
        cases b with
        | non =>
          refine ⟨v, rfl, ?_⟩
          cases a with
          | non => cases (show v = V.non from ra); exact k
          | bl x => cases (show v = V.bl x from ra); exact k
          | int x => cases (show v = V.int x from ra); exact k
          | str x => cases (show v = V.str x from ra); exact k
          | tup x =>
            obtain ⟨p, q, e, _⟩ := id ra
            subst e
            exact k
        | bl x => cases (show V.non = V.bl x from rb)
        | int x => cases (show V.non = V.int x from rb)
        | str x => cases (show V.non = V.str x from rb)
        | tup x =>
          obtain ⟨p, q, e, _⟩ := id rb
          cases e
      · refine ⟨u, rfl, u, _, _, _, _, rfl, .ty _, rb.ty, D.kTup b, _, rfl, ?_⟩
        match b, rb, hd, k with
        | .non, rb, hd, k => exact absurd (decide_eq_true (show u = V.non from rb)) c
        | .tup bs, rb, hd, k =>
          obtain ⟨pb, ub, rfl, hb, zb, qb⟩ := id rb
          refine iteT ?_
          refine ⟨v, rfl, v, _, _, _, _, rfl, .ty _, ra.ty, D.kTup a, _, rfl, ?_⟩
          match a, ra, k with
          | .tup as, ra, k =>
            obtain ⟨pa, ua, rfl, ha, za, qa⟩ := id ra
            refine iteF ?_
            refine ⟨_, rfl, pa, ua, rfl, .inr (.inl ha), _, rfl, pb, ub, rfl, .inr (.inl hb), rfl, _, rfl, ?_⟩
            have la := qa.len
            have lb := qb.len
            refine ite2 (fun c2 => ?_) (fun c2 => ?_)
            · have ne : as.length ≠ bs.length := fun z => by
                rw [la, lb, z] at c2
                simp at c2
              have e : D.eqb (.tup as) (.tup bs) = false := by
                cases z : D.eqb (.tup as) (.tup bs) with
                | false => rfl
                | true => exact absurd (D.eqbs_len (by simpa only [D.eqb] using z)) ne
              rw [e] at k
              exact k
            · have eq : as.length = bs.length := by
                have z : ua.length = ub.length := by
                  have : ¬ (!decide (V.int (ua.length : Int) = V.int (ub.length : Int))) = true := c2
                  simp at this
                  omega
                omega
              refine ⟨_, rfl, pb, ub, rfl, .inr (.inl hb), ub.length, rfl, by omega, ?_, ?_⟩
              · rw [sizeLine_eq] at zb
                omega
              · refine for_range (n := ((ub.length : Nat) : Int).toNat) (fun i σ H2 => ∃ kk : Option V, σ = [some (.ref pa), some (.ref pb), kk] ∧ H2 = H ∧ D.eqbs (as.take i) (bs.take i) = true) ⟨none, rfl, rfl, by simp [D.eqbs]⟩ ?_ ?_
                · rintro i σ H2 hi ⟨kk, rfl, rfl, he⟩
                  have hi' : i < ub.length := by simpa using hi
                  have hia : i < as.length := by omega
                  have hib : i < bs.length := by omega
                  have ga := List.getElem?_eq_getElem hia
                  have gb := List.getElem?_eq_getElem hib
                  obtain ⟨x, ex, rx⟩ := qa.get ga
                  obtain ⟨y, ey, ry⟩ := qb.get gb
                  have ez : (0 : Int) + (i : Int) = (i : Int) := Int.zero_add _
                  refine ⟨_, rfl, _, rfl, pa, ua, _, x, rfl, rfl, .inl ha, at_of ez ex, _, rfl, _, rfl, pb, ub, _, y, rfl, rfl, .inl hb, at_of ez ey, ?_⟩
                  refine ⟨_, _, x, y, rfl, rx, ry, ?_, _, rfl, ?_⟩
                  · have := D.dep_mem gb
                    simp only [D.dep] at hd
                    omega
                  · have et := D.eqbs_take ga gb
                    rw [he, Bool.true_and] at et
                    cases z : D.eqb as[i] bs[i] with
                    | true =>
                      rw [z] at et
                      exact ⟨_, rfl, rfl, et⟩
                    | false =>
                      have e : D.eqb (.tup as) (.tup bs) = false := by
                        simp only [D.eqb]
                        exact D.eqbs_cut ga gb z
                      rw [e] at k
                      exact k
                · rintro σ H2 ⟨kk, rfl, rfl, he⟩
                  have e : D.eqb (.tup as) (.tup bs) = true := by
                    simp only [D.eqb]
                    have e1 : ((ub.length : Nat) : Int).toNat = bs.length := by simpa using lb
                    rw [e1, List.take_of_length_le (Nat.le_of_eq eq), List.take_length] at he
                    exact he
                  rw [e] at k
                  exact k
          | .non, ra, k => exact k
          | .bl x, ra, k => exact k
          | .int x, ra, k => exact k
          | .str x, ra, k => exact k
        | .bl y, rb, hd, k =>
          obtain rfl : u = V.bl y := id rb
          refine iteF ?_
          refine ⟨_, rfl, _, _, _, _, _, rfl, .ty _, rb.ty, D.kBl (.bl y), _, rfl, ?_⟩
          refine ⟨_, rfl, _, _, _, _, _, rfl, .ty _, rb.ty, D.kBl (.bl y), _, rfl, iteT ?_⟩
          refine ⟨_, rfl, v, _, _, _, _, rfl, .ty _, ra.ty, D.kBl a, _, rfl, ?_⟩
          match a, ra, k with
          | .bl x, ra, k =>
            obtain rfl : v = V.bl x := id ra
            refine iteT ⟨_, rfl, _, rfl, rfl, ?_⟩
            have e : decide (V.bl x = V.bl y) = D.eqb (.bl x) (.bl y) := by
              simp only [D.eqb, V.bl.injEq]
              cases x <;> cases y <;> rfl
            rw [e]
            exact k
          | .non, ra, k => exact k
          | .int x, ra, k => exact k
          | .str x, ra, k => exact k
          | .tup x, ra, k => exact k
        | .int y, rb, hd, k =>
          obtain rfl : u = V.int y := id rb
          refine iteF ?_
          refine ⟨_, rfl, _, _, _, _, _, rfl, .ty _, rb.ty, D.kBl (.int y), _, rfl, ?_⟩
          refine ⟨_, rfl, v, _, _, _, _, rfl, .ty _, ra.ty, D.kBl a, _, rfl, ?_⟩
          match a, ra, k with
          | .bl x, ra, k => exact ⟨_, rfl, _, _, _, _, _, rfl, .ty _, rb.ty, D.kBl (.int y), _, rfl, k⟩
          | .int x, ra, k =>
            obtain rfl : v = V.int x := id ra
            refine iteF ⟨_, rfl, _, _, _, _, _, rfl, .ty _, rb.ty, D.kInt (.int y), _, rfl, ?_⟩
            refine ⟨_, rfl, _, _, _, _, _, rfl, .ty _, ra.ty, D.kInt (.int x), _, rfl, iteT ⟨_, rfl, _, rfl, rfl, ?_⟩⟩
            have e : decide (V.int x = V.int y) = D.eqb (.int x) (.int y) := by
              simp only [D.eqb, V.int.injEq]
            rw [e]
            exact k
          | .non, ra, k => exact ⟨_, rfl, _, _, _, _, _, rfl, .ty _, rb.ty, D.kInt (.int y), _, rfl, _, rfl, _, _, _, _, _, rfl, .ty _, ra.ty, D.kInt .non, _, rfl, k⟩
          | .str x, ra, k => exact ⟨_, rfl, _, _, _, _, _, rfl, .ty _, rb.ty, D.kInt (.int y), _, rfl, _, rfl, _, _, _, _, _, rfl, .ty _, ra.ty, D.kInt (.str x), _, rfl, k⟩
          | .tup x, ra, k => exact ⟨_, rfl, _, _, _, _, _, rfl, .ty _, rb.ty, D.kInt (.int y), _, rfl, _, rfl, _, _, _, _, _, rfl, .ty _, ra.ty, D.kInt (.tup x), _, rfl, k⟩
        | .str y, rb, hd, k =>
          obtain rfl : u = V.str y := id rb
          refine iteF ?_
          refine ⟨_, rfl, _, _, _, _, _, rfl, .ty _, rb.ty, D.kBl (.str y), _, rfl, ?_⟩
          refine ⟨_, rfl, v, _, _, _, _, rfl, .ty _, ra.ty, D.kBl a, _, rfl, ?_⟩
          match a, ra, k with
          | .bl x, ra, k => exact ⟨_, rfl, _, _, _, _, _, rfl, .ty _, rb.ty, D.kBl (.str y), _, rfl, k⟩
          | .str x, ra, k =>
            obtain rfl : v = V.str x := id ra
            refine iteF ⟨_, rfl, _, _, _, _, _, rfl, .ty _, rb.ty, D.kInt (.str y), _, rfl, ?_⟩
            refine iteF ⟨_, rfl, _, _, _, _, _, rfl, .ty _, rb.ty, D.kStr (.str y), _, rfl, iteT ?_⟩
            refine ⟨_, rfl, _, _, _, _, _, rfl, .ty _, ra.ty, D.kStr (.str x), _, rfl, iteT ⟨_, rfl, _, rfl, rfl, ?_⟩⟩
            have e : decide (V.str x = V.str y) = D.eqb (.str x) (.str y) := by
              simp only [D.eqb, V.str.injEq]
            rw [e]
            exact k
          | .non, ra, k => exact ⟨_, rfl, _, _, _, _, _, rfl, .ty _, rb.ty, D.kInt (.str y), _, rfl, _, rfl, _, _, _, _, _, rfl, .ty _, rb.ty, D.kStr (.str y), _, rfl, _, rfl, _, _, _, _, _, rfl, .ty _, ra.ty, D.kStr .non, _, rfl, k⟩
          | .int x, ra, k => exact ⟨_, rfl, _, _, _, _, _, rfl, .ty _, rb.ty, D.kInt (.str y), _, rfl, _, rfl, _, _, _, _, _, rfl, .ty _, rb.ty, D.kStr (.str y), _, rfl, _, rfl, _, _, _, _, _, rfl, .ty _, ra.ty, D.kStr (.int x), _, rfl, k⟩
          | .tup x, ra, k => exact ⟨_, rfl, _, _, _, _, _, rfl, .ty _, rb.ty, D.kInt (.str y), _, rfl, _, rfl, _, _, _, _, _, rfl, .ty _, rb.ty, D.kStr (.str y), _, rfl, _, rfl, _, _, _, _, _, rfl, .ty _, ra.ty, D.kStr (.tup x), _, rfl, k⟩
end
end Kl

namespace Kl
open PySem L2 Kd
abbrev sSeq : Stmt := topS 1
abbrev sPlain : Stmt := topS 2
theorem scSeq : FnScope ["value"] ["value"] (defScope sSeq) := ⟨rfl, rfl, rfl, by decide +kernel, rfl, by decide +kernel, by decide +kernel⟩
theorem scPlain : FnScope ["value", "part"] ["value"] (defScope sPlain) := ⟨rfl, rfl, rfl, by decide +kernel, rfl, by decide +kernel, by decide +kernel⟩
def spSeq : Sp := fun vs H Q _ => ∃ (d : D) (v : V), vs = [v] ∧ Rep H d v ∧ ∀ H', Same H H' → Q (.bl d.isTup) H'
def spPlain (n : Nat) : Sp := fun vs H Q _ => ∃ (d : D) (v : V), vs = [v] ∧ Rep H d v ∧ D.dep d < n ∧ ∀ (v' : V) (H' : Hp), Same H H' → Rep H' d v' → Q v' H'
section
variable {P : Program} {w : World} {K : PySem.W.Frag} {mg : Str → Option Value} {base : Heap}
theorem ok_seq {f : Addr} {fd : FuncData} (F : At K mg "is_sequence" sSeq ["value"] f fd) (T : Glo mg) : FnOk P w K mg base CX0 1 f fd ["value"] spSeq := by
  refine F.fn.ok scSeq (fun vs H Q E h => ?_) (fun cdv A outer s H vs Q E hr h => ?_)
  · obtain ⟨d, v, rfl, _⟩ := h
    rfl
  · obtain ⟨d, v, rfl, r, k⟩ := h
    refine ⟨_, pss_one (ps_ret (pe_callB call_isiT (by rfl) T.isi PyProof.Rows.boot_isinstance (pa_cons (pv 0) (pa_cons (pe_tup (pa_cons (pe_bltn (v := .ty "list") (by rfl) T.list PyProof.Rows.boot_list rfl) (pa_cons (pe_bltn (v := .ty "tuple") (by rfl) T.tuple PyProof.Rows.boot_tuple rfl) pa_nil))) pa_nil)))), ?_⟩
    refine ⟨v, rfl, (by show 2 ≤ sizeLine; decide), fun t ht => ?_⟩
    refine ⟨v, t, _, _, [.type "list", .type "tuple"], d.isTup, rfl, upd_same, .cons (.ty _) (.cons (.ty _) .nil), (r.keep (Tk.new ht)).ty, ?_, k _ (Same.new ht)⟩
    show (match PySem.W.kitOne K (.type d.ty) (.type "list") with | some true => some true | some false => PySem.W.kitAny K (.type d.ty) [.type "tuple"] | none => none) = some d.isTup
    rw [D.kList]
    show (match PySem.W.kitOne K (.type d.ty) (.type "tuple") with | some true => some true | some false => PySem.W.kitAny K (.type d.ty) [] | none => none) = some d.isTup
    rw [D.kTup]
    cases d <;> rfl
theorem ok_plain {f fS : Addr} {fd fdS : FuncData} (F : At K mg "plain" sPlain ["value"] f fd) (S : At K mg "is_sequence" sSeq ["value"] fS fdS) (T : Glo mg) : ∀ n : Nat, FnOk P w K mg base CX0 (n + 1) f fd ["value"] (spPlain n)
  | 0 => ⟨fun vs H Q E ⟨a, v, e, _⟩ => by subst e; rfl, fun A outer s H args us vs Q E hr he hb hv ⟨a, v, e, _, d, _⟩ => absurd d (Nat.not_lt_zero _)⟩
  | n + 1 => by
    have G := ok_plain F S T n
    have GS : FnOk P w K mg base CX0 1 fS fdS ["value"] spSeq := ok_seq S T
    refine F.fn.ok scPlain (fun vs H Q E h => ?_) (fun cdv A outer s H vs Q E hr h => ?_)
    · obtain ⟨d, v, rfl, _⟩ := h
      rfl
    · obtain ⟨d, v, rfl, r, hd, k⟩ := h
      have hr1 : Room 1 _ := hr.mono (by omega)
      refine ⟨_, pss_cons (ps_if (pt_val (pe_call GS hr1 (by rfl) S.mf S.fn.kp S.bd .nil pass0 (pa_cons (pv 0) pa_nil)))
          (pss_one (ps_ret (pe_callTy call_tuple_of (by rfl) T.tuple PyProof.Rows.boot_tuple (pa_cons (pe_lc (own := [("part", 1)]) (g := gName 1) (tt := tYes) rfl scPlain.nd (pi_tup (pv 0)) (blkOk_by (N := ["value", "part"]) (sc := defScope sPlain) (by decide +kernel))
            (fun _ _ _ _ _ => pg_name (i := 1) scPlain.nd rfl (Or.inl rfl)) (fun _ _ _ _ _ => pts_nil) (fun _ _ _ _ _ => pe_call G hr (by rfl) F.mf F.fn.kp F.bd .nil pass0 (pa_cons (pv 1) pa_nil))) pa_nil)))) pss_nil)
        (pss_one (ps_ret (pv 0))), ?_⟩
      refine ⟨v, rfl, d, v, rfl, r, fun H1 s1 => ⟨_, rfl, ?_⟩⟩
      match d, r, hd, k with
      | .non, r, hd, k => exact ⟨_, rfl, k _ _ s1 (r.keep (Tk.same s1))⟩
      | .bl _, r, hd, k => exact ⟨_, rfl, k _ _ s1 (r.keep (Tk.same s1))⟩
      | .int _, r, hd, k => exact ⟨_, rfl, k _ _ s1 (r.keep (Tk.same s1))⟩
      | .str _, r, hd, k => exact ⟨_, rfl, k _ _ s1 (r.keep (Tk.same s1))⟩
      | .tup ds, r, hd, k =>
        obtain ⟨a, vs, rfl, ha, hz, q⟩ := id r
        have ha1 : Rd H1 a (.tup vs) := Rd.same s1 ha
        refine iteT ⟨_, rfl, a, rfl, ⟨_, .inl ha1⟩, fun L hL => ?_⟩
        have sL : Same H1 (upd H1 L (.lst [])) := Same.new hL
        refine lc_tup (K := K) (a := a) (xs := vs) (fun i H2 => ∃ acc : List V, H2 L = some (.lst acc) ∧ acc.length = i ∧ Reps H2 (ds.take i) acc ∧ Same H1 H2) ⟨[], upd_same, rfl, rfl, sL⟩ (fun i H2 _ ⟨_, _, _, _, s2⟩ => .inl (Rd.same s2 ha1)) ?_ ?_
        · rintro i x H2 hi ⟨acc, hacc, hl, ra, s2⟩
          have hiv : i < vs.length := (List.getElem?_eq_some_iff.mp hi).1
          have hid : i < ds.length := by have := q.len; omega
          have gd := List.getElem?_eq_getElem hid
          obtain ⟨y, ey, ry⟩ := q.get gd
          rw [hi] at ey
          obtain rfl := Option.some.inj ey
          have ry2 : Rep H2 ds[i] x := ry.keep (Tk.same (s1.trans s2))
          refine ⟨rfl, x, rfl, ds[i], x, rfl, ry2, ?_, fun v' H3 s3 r3 => ?_⟩
          · have := D.dep_mem gd
            simp only [D.dep] at hd
            omega
          · have h3 : H3 L = some (.lst acc) := s3 _ _ hacc
            refine ⟨acc, h3, ?_, acc ++ [v'], upd_same, by rw [List.length_append, hl]; rfl, ?_, Same.mut (s2.trans s3) hL⟩
            · rw [sizeLine_eq] at hz ⊢
              omega
            · have e : ds.take (i + 1) = ds.take i ++ [ds[i]] := (List.take_append_getElem hid).symm
              rw [e]
              exact ((ra.keep (Tk.same s3)).snoc r3).keep (Tk.lst h3)
        · rintro H2 ⟨acc, hacc, hl, ra, s2⟩
          have e : ds.take vs.length = ds := List.take_of_length_le (by have := q.len; omega)
          rw [e] at ra
          refine ⟨L, acc, rfl, .inl ⟨SqL.of hacc, fun l hl2 => ?_⟩⟩
          refine k _ _ ((s1.trans s2).trans (Same.new hl2)) ⟨l, acc, rfl, .inl upd_same, by rw [hl]; exact hz, ra.keep (Tk.new hl2)⟩
end
end Kl

namespace Kl
open PySem L2 Kd Kx
/-- an own error class: the class at C, its __init__ at fI -/
structure Err (K : PySem.W.Frag) (mg : Str → Option Value) (x : Str) (C fI : Addr) : Prop where
  ex : ExC K C
  ini : PySem.W.findIn K (.ref C) "__init__" = some (some (.ref fI))
  tI : PySem.W.typeIn K (.ref fI) = some (.type "function")
  mc : mg x = some (.ref C)
  xf : XfC K C
  is : IsC K C
abbrev iBV : Stmt := inClass (topS 5) 0
abbrev iBF : Stmt := inClass (topS 6) 0
abbrev iNS : Stmt := inClass (topS 7) 0
abbrev iBS : Stmt := inClass (topS 8) 0
def spAt1 (K : PySem.W.Frag) (C : Addr) : Sp := fun vs H Q _ => ∃ (a : Addr) (v : V), vs = [.ref a, v] ∧ H a = some (exo a C none) ∧ ∀ d : Addr, H d = none → d ≠ a → Q .non (upd (upd H d (exd d [("at", v)])) a (exo a C (some d)))
def spAt2 (K : PySem.W.Frag) (C : Addr) : Sp := fun vs H Q _ => ∃ (a : Addr) (u v : V), vs = [.ref a, u, v] ∧ H a = some (exo a C none) ∧ ∀ d : Addr, H d = none → d ≠ a → Q .non (upd (upd (upd H d (exd d [("path", u)])) a (exo a C (some d))) d (exd d [("at", v), ("path", u)]))
def spPap (K : PySem.W.Frag) (C : Addr) (n : Nat) : Sp := fun vs H Q _ => ∃ (a : Addr) (v : V) (p : D), vs = [.ref a, v] ∧ H a = some (exo a C none) ∧ Rep H p v ∧ D.dep p < n ∧
  ∀ (v' : V) (H1 : Hp) (d : Addr), Same H H1 → Rep H1 p v' → H1 d = none → d ≠ a → Q .non (upd (upd H1 d (exd d [("paper", v')])) a (exo a C (some d)))
section
variable {P : Program} {w : World} {K : PySem.W.Frag} {mg : Str → Option Value} {base : Heap}
theorem scBV : FnScope ["self", "at"] ["self", "at"] (defScope iBV) := ⟨rfl, rfl, rfl, by decide +kernel, rfl, by decide +kernel, by decide +kernel⟩
theorem scBS : FnScope ["self", "at"] ["self", "at"] (defScope iBS) := ⟨rfl, rfl, rfl, by decide +kernel, rfl, by decide +kernel, by decide +kernel⟩
theorem scBF : FnScope ["self", "path", "at"] ["self", "path", "at"] (defScope iBF) := ⟨rfl, rfl, rfl, by decide +kernel, rfl, by decide +kernel, by decide +kernel⟩
theorem scNS : FnScope ["self", "paper"] ["self", "paper"] (defScope iNS) := ⟨rfl, rfl, rfl, by decide +kernel, rfl, by decide +kernel, by decide +kernel⟩
theorem ok_iBV {f C : Addr} {fd : FuncData} (F : Fun K "__init__" "BadValue.__init__" iBV f fd) (T : ExC K C) (n1 : PySem.W.findIn K (.ref C) "at" = some none) : FnOk P w K mg base CX0 1 f fd ["self", "at"] (spAt1 K C) := by
  refine F.ok scBV (fun vs H Q E h => ?_) (fun cdv A outer s H vs Q E hr h => ?_)
  · obtain ⟨a, v, rfl, _⟩ := h
    rfl
  · obtain ⟨a, v, rfl, ha, k⟩ := h
    exact ⟨_, pss_one (ps_put (pv 0) (pv 1)), _, rfl, _, rfl, a, C, rfl, T, n1, .inl ⟨ha, fun d hd nd => k d hd nd⟩⟩
theorem ok_iBS {f C : Addr} {fd : FuncData} (F : Fun K "__init__" "BadSyntax.__init__" iBS f fd) (T : ExC K C) (n1 : PySem.W.findIn K (.ref C) "at" = some none) : FnOk P w K mg base CX0 1 f fd ["self", "at"] (spAt1 K C) := by
  refine F.ok scBS (fun vs H Q E h => ?_) (fun cdv A outer s H vs Q E hr h => ?_)
  · obtain ⟨a, v, rfl, _⟩ := h
    rfl
  · obtain ⟨a, v, rfl, ha, k⟩ := h
    exact ⟨_, pss_one (ps_put (pv 0) (pv 1)), _, rfl, _, rfl, a, C, rfl, T, n1, .inl ⟨ha, fun d hd nd => k d hd nd⟩⟩
theorem ok_iBF {f C : Addr} {fd : FuncData} (F : Fun K "__init__" "BadFile.__init__" iBF f fd) (T : ExC K C) (n1 : PySem.W.findIn K (.ref C) "at" = some none) (n2 : PySem.W.findIn K (.ref C) "path" = some none) : FnOk P w K mg base CX0 1 f fd ["self", "path", "at"] (spAt2 K C) := by
  refine F.ok scBF (fun vs H Q E h => ?_) (fun cdv A outer s H vs Q E hr h => ?_)
  · obtain ⟨a, u, v, rfl, _⟩ := h
    rfl
  · obtain ⟨a, u, v, rfl, ha, k⟩ := h
    exact ⟨_, pss_cons (ps_put (pv 0) (pv 1)) (pss_one (ps_put (pv 0) (pv 2))), _, rfl, _, rfl, a, C, rfl, T, n2, .inl ⟨ha, fun d hd nd =>
      ⟨_, rfl, _, rfl, a, C, rfl, T, n1, .inr ⟨d, _, upd_same, by rw [upd_ne nd, upd_same], (by show 1 ≤ 900; decide), k d hd nd⟩⟩⟩⟩
theorem ok_iNS {f C fP : Addr} {fd fdP : FuncData} (F : Fun K "__init__" "NoSolution.__init__" iNS f fd) (T : ExC K C) (n1 : PySem.W.findIn K (.ref C) "paper" = some none) (n : Nat) (PL : At K mg "plain" sPlain ["value"] fP fdP)
    (GP : FnOk P w K mg base CX0 (n + 1) fP fdP ["value"] (spPlain n)) : FnOk P w K mg base CX0 (n + 2) f fd ["self", "paper"] (spPap K C n) := by
  refine F.ok scNS (fun vs H Q E h => ?_) (fun cdv A outer s H vs Q E hr h => ?_)
  · obtain ⟨a, v, p, rfl, _⟩ := h
    rfl
  · obtain ⟨a, v, p, rfl, ha, r, hd, k⟩ := h
    exact ⟨_, pss_one (ps_put (pv 0) (pe_call GP hr (by rfl) PL.mf PL.fn.kp PL.bd .nil pass0 (pa_cons (pv 1) pa_nil))), _, rfl, p, v, rfl, r, hd, fun v' H1 s1 r1 => ⟨_, rfl, a, C, rfl, T, n1, .inl ⟨s1 _ _ ha, fun d hd nd => k v' H1 d s1 r1 hd nd⟩⟩⟩
abbrev sRaised : Stmt := topS 15
theorem scRaised : FnScope ["kind", "value"] ["kind", "value"] (defScope sRaised) := ⟨rfl, rfl, rfl, by decide +kernel, rfl, by decide +kernel, by decide +kernel⟩
abbrev dPap : D := .tup [.str "pick", .str "a", .tup []]
/-- what is told of an error that comes out -/
structure Out (H H' : Hp) (d : Addr) (fs : List (Str × V)) : Prop where
  sm : Same H H'
  nw : H d = none
  xd : H' d = some (.xd fs)
def spRaised (C0 C1 C2 C3 : Addr) : Sp := fun vs H _ E => ∃ kind value : Int, vs = [.int kind, .int value] ∧
  (kind = 0 → ∀ d H', Out H H' d [("at", .int value)] → E (.ref C0) (some d) H') ∧ (kind = 1 → ∀ d H', Out H H' d [("at", .int value), ("path", .str "set/a")] → E (.ref C1) (some d) H') ∧
  (kind = 2 → ∀ d H' v, Out H H' d [("paper", v)] → Rep H' dPap v → E (.ref C2) (some d) H') ∧ (kind ≠ 0 → kind ≠ 1 → kind ≠ 2 → ∀ d H', Out H H' d [("at", .int value)] → E (.ref C3) (some d) H')
theorem out_of {H H1 : Hp} {a d : Addr} {fs : List (Str × V)} (s : Same H H1) (ha : H a = none) (hd : H d = none) (hda : d ≠ a) : Out H (upd (del H1 a) d (.xd fs)) d fs :=
  ⟨fun b o e => by rw [upd_ne (ne_of_none e hd), del_ne (ne_of_none e ha)]; exact s b o e, hd, upd_same⟩
theorem ok_raised {f C0 C1 C2 C3 f0 f1 f2 f3 : Addr} {fd fd0 fd1 fd2 fd3 : FuncData} (F : At K mg "_law_raised" sRaised ["kind", "value"] f fd)
    (e0 : Err K mg "BadValue" C0 f0) (e1 : Err K mg "BadFile" C1 f1) (e2 : Err K mg "NoSolution" C2 f2) (e3 : Err K mg "BadSyntax" C3 f3)
    (g0 : FnOk P w K mg base CX0 1 f0 fd0 ["self", "at"] (spAt1 K C0)) (b0 : Binds K fd0 ["self", "at"] []) (g1 : FnOk P w K mg base CX0 1 f1 fd1 ["self", "path", "at"] (spAt2 K C1)) (b1 : Binds K fd1 ["self", "path", "at"] [])
    (g2 : FnOk P w K mg base CX0 5 f2 fd2 ["self", "paper"] (spPap K C2 3)) (b2 : Binds K fd2 ["self", "paper"] []) (g3 : FnOk P w K mg base CX0 1 f3 fd3 ["self", "at"] (spAt1 K C3)) (b3 : Binds K fd3 ["self", "at"] []) :
    FnOk P w K mg base (L2N.CX P w) 7 f fd ["kind", "value"] (spRaised C0 C1 C2 C3) := by
  refine okN F.fn scRaised (fun vs H Q E h => ?_) (fun cdv A outer s H vs Q E hr h => ?_)
  · obtain ⟨a, v, rfl, _⟩ := h
    rfl
  · obtain ⟨kd, z, rfl, k0, k1, k2, k3⟩ := h
    have r2 : Room 2 _ := hr.mono (by decide)
    have tk := L2N.takes_of (X := cxOf (L2N.CX P w) P w K mg base ["kind", "value"] "_law_raised" (defScope sRaised) f cdv A outer s H E) rfl rfl rfl rfl
    refine ⟨_, pss_cons (ps_if (pt_cmpR op_eq (pv 0) pe_int (nomark _)) (pss_one (L2N.ps_raise rfl tk (nmk_ex e0.ex e0.ini e0.tI g0 r2 b0 pass0 (by rfl) e0.mc (pa_cons (pv 1) pa_nil)))) pss_nil)
      (pss_cons (ps_if (pt_cmpR op_eq (pv 0) pe_int (nomark _)) (pss_one (L2N.ps_raise rfl tk (nmk_ex e1.ex e1.ini e1.tI g1 r2 b1 pass0 (by rfl) e1.mc (pa_cons pe_str (pa_cons (pv 1) pa_nil))))) pss_nil)
      (pss_cons (ps_if (pt_cmpR op_eq (pv 0) pe_int (nomark _)) (pss_one (L2N.ps_raise rfl tk (nmk_ex e2.ex e2.ini e2.tI g2 hr b2 pass0 (by rfl) e2.mc (pa_cons (pe_tup (pa_cons pe_str (pa_cons pe_str (pa_cons (pe_tup pa_nil) pa_nil)))) pa_nil)))) pss_nil)
      (pss_one (L2N.ps_raise rfl tk (nmk_ex e3.ex e3.ini e3.tI g3 r2 b3 pass0 (by rfl) e3.mc (pa_cons (pv 1) pa_nil)))))), ?_⟩
    have free : ∀ {H1 : Hp} {a d : Addr} {o : HO}, (upd H1 a o) d = none → d ≠ a → H1 d = none := fun h n => by
      rw [upd_ne n] at h
      exact h
    refine ⟨_, rfl, rfl, _, rfl, ?_⟩
    refine ite2 (fun c => ?_) (fun c => ?_)
    · have e : kd = 0 := by simpa using c
      exact ⟨_, rfl, (by show 1 ≤ 1000; decide), fun a ha => ⟨a, _, rfl, upd_same, fun d hd nd => ⟨rfl, d, _, upd_same, by rw [upd_ne nd]; exact upd_same, free hd nd, k0 e d _ (out_of (fun b o q => by rw [upd_ne (ne_of_none q ha), upd_ne (ne_of_none q (free hd nd)), upd_ne (ne_of_none q ha)]; exact q) ha (free hd nd) nd)⟩⟩⟩
    have n0 : kd ≠ 0 := by simpa using c
    refine ⟨_, rfl, rfl, _, rfl, ?_⟩
    refine ite2 (fun c => ?_) (fun c => ?_)
    · have e : kd = 1 := by simpa using c
      exact ⟨_, rfl, (by show 2 ≤ 1000; decide), fun a ha => ⟨a, _, _, rfl, upd_same, fun d hd nd => ⟨rfl, d, _, by rw [upd_ne nd.symm]; exact upd_same, upd_same, free hd nd, k1 e d _ (out_of (fun b o q => by rw [upd_ne (ne_of_none q (free hd nd)), upd_ne (ne_of_none q ha), upd_ne (ne_of_none q (free hd nd)), upd_ne (ne_of_none q ha)]; exact q) ha (free hd nd) nd)⟩⟩⟩
    have n1 : kd ≠ 1 := by simpa using c
    refine ⟨_, rfl, rfl, _, rfl, ?_⟩
    refine ite2 (fun c => ?_) (fun c => ?_)
    · have e : kd = 2 := by simpa using c
      refine ⟨(by show 0 ≤ sizeLine; decide), fun t0 h0 => ⟨(by show 3 ≤ sizeLine; decide), fun t1 h1 => ⟨(by show 1 ≤ 1000; decide), fun a ha => ?_⟩⟩⟩
      have n10 : t0 ≠ t1 := fun z => by
        rw [← z, upd_same] at h1
        cases h1
      have na1 : t1 ≠ a := fun z => by
        rw [← z, upd_same] at ha
        cases ha
      have na0 : t0 ≠ a := fun z => by
        rw [← z, upd_ne n10, upd_same] at ha
        cases ha
      have s0 : Same H (upd (upd H t0 (.tup [])) t1 (.tup [.str "pick", .str "a", .ref t0])) := (Same.new h0).trans (Same.new h1)
      have ha0 : H a = none := s0.free ha
      refine ⟨a, .ref t1, dPap, rfl, upd_same, ⟨t1, _, rfl, .inl (by rw [upd_ne na1, upd_same]), (by show 3 ≤ sizeLine; decide), .str "pick", _, rfl, rfl, .str "a", _, rfl, rfl, .ref t0, [], rfl, ⟨t0, [], rfl, .inl (by rw [upd_ne na0, upd_ne n10, upd_same]), (by show 0 ≤ sizeLine; decide), rfl⟩, rfl⟩, by decide, fun v' H1 d s1 r1 hd nd => ⟨rfl, d, _, upd_same, by rw [upd_ne nd]; exact upd_same, ?_, ?_⟩⟩
      · exact ((Same.new ha).trans s1).free hd
      · have s2 : Same (upd (upd H t0 (.tup [])) t1 (.tup [.str "pick", .str "a", .ref t0])) H1 := (Same.new ha).trans s1
        have hd0 : H d = none := (s0.trans s2).free hd
        refine k2 e d _ v' (out_of (fun b o q => ?_) ha0 hd0 nd) ?_
        · rw [upd_ne (ne_of_none q ha0), upd_ne (ne_of_none q hd0)]
          exact s2 _ _ (s0 _ _ q)
        · refine r1.keep fun b xs q => ?_
          have ex : H1 a = some (exo a C2 none) := s1 _ _ upd_same
          refine q.elim (fun q => .inl ?_) (fun ⟨o, q⟩ => .inr ⟨o, ?_⟩)
          · have nb : b ≠ d := ne_of_none q hd
            have nba : b ≠ a := fun z => by
              rw [z, ex] at q
              exact exo_tup (Option.some.inj q)
            rw [upd_ne nb, del_ne nba, upd_ne nba, upd_ne nb]
            exact q
          · have nb : b ≠ d := ne_of_none q hd
            have nba : b ≠ a := fun z => by
              rw [z, ex] at q
              exact exo_frz (Option.some.inj q)
            rw [upd_ne nb, del_ne nba, upd_ne nba, upd_ne nb]
            exact q
    have n2 : kd ≠ 2 := by simpa using c
    exact ⟨_, rfl, (by show 1 ≤ 1000; decide), fun a ha => ⟨a, _, rfl, upd_same, fun d hd nd => ⟨rfl, d, _, upd_same, by rw [upd_ne nd]; exact upd_same, free hd nd, k3 n0 n1 n2 d _ (out_of (fun b o q => by rw [upd_ne (ne_of_none q ha), upd_ne (ne_of_none q (free hd nd)), upd_ne (ne_of_none q ha)]; exact q) ha (free hd nd) nd)⟩⟩⟩
end
end Kl

namespace Kl
open PySem L2 Kd Kx
structure GloE (mg : Str → Option Value) : Prop where
  ve : mg "ValueError" = none
  le : mg "LookupError" = none
  ae : mg "ArithmeticError" = none
/-- what isinstance answers of an error of the class at C: the four own classes, three of the built-in ones -/
structure Isi (K : PySem.W.Frag) (C C0 C1 C2 C3 CH : Addr) (k0 k1 k2 k3 : Bool) : Prop where
  o0 : PySem.W.kitOne K (.ref C) (.ref C0) = some k0
  o1 : PySem.W.kitOne K (.ref C) (.ref C1) = some k1
  o2 : PySem.W.kitOne K (.ref C) (.ref C2) = some k2
  o3 : PySem.W.kitOne K (.ref C) (.ref C3) = some k3
  ve : PySem.W.kitOne K (.ref C) (.type "ValueError") = some false
  le : PySem.W.kitOne K (.ref C) (.type "LookupError") = some false
  ae : PySem.W.kitOne K (.ref C) (.type "ArithmeticError") = some false
  hh : PySem.W.exmOne K (.ref C) (.ref CH) = some true
theorem takes_no {X : Cx} : L2N.Takes X (fun _ _ _ _ => False) := fun _ _ x => by
  obtain ⟨_, _, _, _, _, _, _, _, _, _, _, _, _, _, _, _, z⟩ := x
  exact z.elim
abbrev sLaw : Stmt := topS 16
theorem scLaw : FnScope ["script", "row", "spot", "kind", "value", "error", "own", "k"] ["script"] (defScope sLaw) := ⟨rfl, rfl, rfl, by decide +kernel, rfl, by decide +kernel, by decide +kernel⟩
def spLaw (K : PySem.W.Frag) : Sp := fun vs H Q _ => ∃ (a : Addr) (ns : List Int), vs = [.ref a] ∧ Ints K H a ns ∧ ns.length ≤ 63 ∧ ∀ H', Q (.bl true) H'
section
variable {P : Program} {w : World} {K : PySem.W.Frag} {mg : Str → Option Value} {base : Heap}
theorem ok_law {f fN fT fW fR fS C0 C1 C2 C3 CH f0 f1 f2 f3 : Addr} {fd fdN fdT fdW fdR fdS : FuncData} (F : Fun K "law" "law" sLaw f fd) (T : Glo mg) (B : GloE mg) (NU : At K mg "_law_numbers" sNum ["script"] fN fdN) (TA : At K mg "_law_take" sTake ["row", "spot", "limit"] fT fdT)
    (WI : At K mg "_law_wide" sWide ["row", "spot", "limit"] fW fdW) (RA : At K mg "_law_raised" sRaised ["kind", "value"] fR fdR) (SO : At K mg "_law_so" sSo ["found", "meant"] fS fdS) (mH : mg "HouseError" = some (.ref CH))
    (e0 : Err K mg "BadValue" C0 f0) (e1 : Err K mg "BadFile" C1 f1) (e2 : Err K mg "NoSolution" C2 f2) (e3 : Err K mg "BadSyntax" C3 f3)
    (i0 : Isi K C0 C0 C1 C2 C3 CH true false false false) (i1 : Isi K C1 C0 C1 C2 C3 CH false true false false) (i2 : Isi K C2 C0 C1 C2 C3 CH false false true false) (i3 : Isi K C3 C0 C1 C2 C3 CH false false false true)
    (a0 : PySem.W.findIn K (.ref C0) "at" = some none) (a1 : PySem.W.findIn K (.ref C1) "at" = some none) (p1 : PySem.W.findIn K (.ref C1) "path" = some none) (p2 : PySem.W.findIn K (.ref C2) "paper" = some none) (a3 : PySem.W.findIn K (.ref C3) "at" = some none)
    (GN : FnOk P w K mg base CX0 1 fN fdN ["script"] (spNum K)) (GT : FnOk P w K mg base CX0 2 fT fdT ["row", "spot", "limit"] (spTake K)) (GW : FnOk P w K mg base CX0 3 fW fdW ["row", "spot", "limit"] (spWide K))
    (GR : FnOk P w K mg base (L2N.CX P w) 7 fR fdR ["kind", "value"] (spRaised C0 C1 C2 C3)) (GH : L2H.FnH P w K mg base CX0 3 fS fdS ["found", "meant"] (spSo 3)) : FnOk P w K mg base CX0 8 f fd ["script"] (spLaw K) := by
  refine F.ok scLaw (fun vs H Q E h => ?_) (fun cdv A outer s H vs Q E hr h => ?_)
  · obtain ⟨a, ns, rfl, _⟩ := h
    rfl
  · obtain ⟨a, ns, rfl, hS, hn, k⟩ := h
    have hr1 : Room 1 _ := hr.mono (by decide)
    have hr2 : Room 2 _ := hr.mono (by decide)
    have hr3 : Room 3 _ := hr.mono (by decide)
    refine ⟨_, pss_cons (ps_set (i := 1) scLaw.nd rfl (.inl rfl) (pe_call GN hr1 (by rfl) NU.mf NU.fn.kp NU.bd .nil pass0 (pa_cons (pv 0) pa_nil)))
      (pss_cons (ps_set (i := 2) scLaw.nd rfl (.inl rfl) (pe_lst (pa_cons pe_int pa_nil)))
      (pss_cons (ps_set (i := 3) scLaw.nd rfl (.inl rfl) (pe_call GT hr2 (by rfl) TA.mf TA.fn.kp TA.bd .nil pass0 (pa_cons (pv 1) (pa_cons (pv 2) (pa_cons pe_int pa_nil)))))
      (pss_cons (ps_set (i := 4) scLaw.nd rfl (.inl rfl) (pe_op op_add pe_int (pe_call GW hr3 (by rfl) WI.mf WI.fn.kp WI.bd .nil pass0 (pa_cons (pv 1) (pa_cons (pv 2) (pa_cons (pe_op op_pow pe_int pe_int) pa_nil))))))
      (pss_cons (L2N.ps_try_as (i := 5) rfl rfl scLaw.nd rfl rfl ⟨rfl, by decide, .inl mH⟩ takes_no (fun W pn xe tk _ => pss_one (ps_expr (pe_callS GR hr (by rfl) RA.mf RA.fn.kp RA.bd (fun σ => L2N.passAt tk σ) (pa_cons (pv 3) (pa_cons (pv 4) pa_nil)))))
        (fun a oe cls d pn hz hf => have hot := hot_suite hz hf
          pss_cons (ps_set (i := 6) scLaw.nd rfl (.inl rfl) (pe_lst (pa_cons (pe_callB (call_isX hz.zc hf) (by rfl) T.isi PyProof.Rows.boot_isinstance (pa_cons (pv 5) (pa_cons (pe_glob (v := .ref C0) (u := .ref C0) (by rfl) e0.mc rfl) pa_nil))) (pa_cons (pe_callB (call_isX hz.zc hf) (by rfl) T.isi PyProof.Rows.boot_isinstance (pa_cons (pv 5) (pa_cons (pe_glob (v := .ref C1) (u := .ref C1) (by rfl) e1.mc rfl) pa_nil))) (pa_cons (pe_callB (call_isX hz.zc hf) (by rfl) T.isi PyProof.Rows.boot_isinstance (pa_cons (pv 5) (pa_cons (pe_glob (v := .ref C2) (u := .ref C2) (by rfl) e2.mc rfl) pa_nil))) (pa_cons (pe_callB (call_isX hz.zc hf) (by rfl) T.isi PyProof.Rows.boot_isinstance (pa_cons (pv 5) (pa_cons (pe_glob (v := .ref C3) (u := .ref C3) (by rfl) e3.mc rfl) pa_nil))) pa_nil))))))
          (pss_cons (L2H.ps_forH PassesOwn.never hot (L2H.pi_range1H (by rfl) T.range (pa_cons pe_int pa_nil)) (pg_name (i := 7) scLaw.nd rfl (.inl rfl))
            (pss_one (ps_if (pt_cmpR op_ne (pe_ix (r := rIxL K) ix_list (pv 6) (pv 7) (fun _ _ => rfl)) (pe_cmpR op_eq (pv 7) (pv 3) (nomark _)) (nomark _)) (pss_one (ps_ret pe_bl)) pss_nil)))
          (pss_cons (ps_if (PW.pt (pw_or (pt_val (pe_callB (call_isX hz.zc hf) (by rfl) T.isi PyProof.Rows.boot_isinstance (pa_cons (pv 5) (pa_cons (pe_bltn (v := .ty "ValueError") (by rfl) B.ve (by decide +kernel) rfl) pa_nil)))) (pw_or (pt_val (pe_callB (call_isX hz.zc hf) (by rfl) T.isi PyProof.Rows.boot_isinstance (pa_cons (pv 5) (pa_cons (pe_bltn (v := .ty "LookupError") (by rfl) B.le (by decide +kernel) rfl) pa_nil)))) (pw_or1 (pt_val (pe_callB (call_isX hz.zc hf) (by rfl) T.isi PyProof.Rows.boot_isinstance (pa_cons (pv 5) (pa_cons (pe_bltn (v := .ty "ArithmeticError") (by rfl) B.ae (by decide +kernel) rfl) pa_nil)))))))) (pss_one (ps_ret pe_bl)) pss_nil)
          (pss_cons (ps_if (pt_cmpR op_eq (pv 3) pe_int (nomark _)) (pss_one (ps_ret (L2H.pe_callH GH (L2H.roomH_mark hr3 _) hot (by rfl) SO.mf SO.fn.kp SO.bd (pass_at (E := fun _ => E0)) (pa_cons (pe_get hz.zc hf (pv 5)) (pa_cons (pe_tup (pa_cons pe_str (pa_cons pe_str (pa_cons (pe_tup pa_nil) pa_nil)))) pa_nil))))) pss_nil)
          (pss_one (ps_ret (pe_and (L2H.pe_callH GH (L2H.roomH_mark hr3 _) hot (by rfl) SO.mf SO.fn.kp SO.bd (pass_at (E := fun _ => E0)) (pa_cons (pe_get hz.zc hf (pv 5)) (pa_cons (pv 4) pa_nil))) (pe_one (pe_or (pe_cmpR op_ne (pv 3) pe_int (nomark _)) (pe_one (pe_cmpR op_eq (pe_get hz.zc hf (pv 5)) pe_str (nomark _)))))))))))))
      (pss_one (ps_ret pe_bl)))))), ?_⟩
    refine ⟨_, rfl, a, ns, rfl, hS, hn, fun p row H1 s1 hp hrow hpos => ?_⟩
    refine ⟨(by show 1 ≤ sizeLine; decide), fun q hq => ?_⟩
    have npq : p ≠ q := ne_of_none hrow hq
    refine ⟨_, rfl, _, rfl, p, q, row, 0, 4, rfl, npq, SqL.of (by rw [upd_ne npq]; exact hrow), upd_same, hpos, by decide, by decide, fun kd h0 h4 => ?_⟩
    rw [upd_upd]
    refine ⟨_, rfl, _, rfl, _, _, rfl, rfl, ⟨by decide, by decide, by decide⟩, p, q, row, _, _, rfl, npq, SqL.of (by rw [upd_ne npq]; exact hrow), upd_same, hpos, by decide, by decide, fun wd w0 w1 => ?_⟩
    rw [upd_upd]
    refine ⟨_, _, rfl, rfl, ?_⟩
    refine ⟨_, rfl, _, rfl, kd, 1 + wd, rfl, ?_, ?_, ?_, ?_⟩
    · rintro rfl d H2 o
      refine ⟨true, i0.hh, fun _ x hx => ?_, fun z => nomatch z⟩
      have dx : ∀ {H3 : Hp}, Same H2 H3 → ∃ dd fs, (some d : Option Addr) = some dd ∧ H3 dd = some (.xd fs) := fun s3 => ⟨d, _, rfl, s3 _ _ o.xd⟩
      have s0 := Same.refl H2
      refine ⟨_, rfl, C0, _, _, _, rfl, e0.is, rfl, .own _, i0.o0, dx s0, ?_⟩
      refine ⟨_, rfl, C0, _, _, _, rfl, e0.is, rfl, .own _, i0.o1, dx s0, ?_⟩
      refine ⟨_, rfl, C0, _, _, _, rfl, e0.is, rfl, .own _, i0.o2, dx s0, ?_⟩
      refine ⟨_, rfl, C0, _, _, _, rfl, e0.is, rfl, .own _, i0.o3, dx s0, (by show 4 ≤ sizeLine; decide), fun l hl => ?_⟩
      refine ⟨4, rfl, by decide, by decide, for_range (n := 4) (fun i σ H3 => ∃ kk : Option V, σ = [some (.ref a), some (.ref p), some (.ref q), some (.int 0), some (.int (1 + wd)), some (.ref x), some (.ref l), kk] ∧ H3 = upd H2 l (.lst [.bl true, .bl false, .bl false, .bl false])) ⟨none, rfl, rfl⟩ ?_ ?_⟩
      · rintro i σ H3 hi ⟨kk, rfl, rfl⟩
        match i, hi with
        | 0, _ => exact ⟨_, rfl, _, rfl, l, _, _, _, rfl, rfl, SqL.of upd_same, atI_nat (j := 0) rfl, _, rfl, _, rfl, rfl, rfl, _, rfl, _, rfl, rfl⟩
        | 1, _ => exact ⟨_, rfl, _, rfl, l, _, _, _, rfl, rfl, SqL.of upd_same, atI_nat (j := 1) rfl, _, rfl, _, rfl, rfl, rfl, _, rfl, _, rfl, rfl⟩
        | 2, _ => exact ⟨_, rfl, _, rfl, l, _, _, _, rfl, rfl, SqL.of upd_same, atI_nat (j := 2) rfl, _, rfl, _, rfl, rfl, rfl, _, rfl, _, rfl, rfl⟩
        | 3, _ => exact ⟨_, rfl, _, rfl, l, _, _, _, rfl, rfl, SqL.of upd_same, atI_nat (j := 3) rfl, _, rfl, _, rfl, rfl, rfl, _, rfl, _, rfl, rfl⟩
      · rintro σ H3 ⟨kk, rfl, rfl⟩
        have s1 : Same H2 (upd H2 l (.lst [.bl true, .bl false, .bl false, .bl false])) := Same.new hl
        refine ⟨_, rfl, C0, _, _, _, rfl, e0.is, rfl, .ty _, i0.ve, dx s1, _, rfl, ?_⟩
        refine ⟨_, rfl, C0, _, _, _, rfl, e0.is, rfl, .ty _, i0.le, dx s1, _, rfl, ?_⟩
        refine ⟨_, rfl, C0, _, _, _, rfl, e0.is, rfl, .ty _, i0.ae, dx s1, _, rfl, ?_⟩
        refine ⟨_, rfl, rfl, _, rfl, ?_⟩
        refine ⟨_, rfl, rfl, C0, d, _, .int (1 + wd), rfl, e0.xf, a0, rfl, s1 _ _ o.xd, rfl, _, rfl, .int (1 + wd), .int (1 + wd), _, _, rfl, rfl, rfl, (by show 0 < 3; decide), _, rfl, ?_⟩
        rw [D.eqb_refl]
        exact ⟨_, rfl, rfl, _, rfl, k _⟩
    · rintro rfl d H2 o
      refine ⟨true, i1.hh, fun _ x hx => ?_, fun z => nomatch z⟩
      have dx : ∀ {H3 : Hp}, Same H2 H3 → ∃ dd fs, (some d : Option Addr) = some dd ∧ H3 dd = some (.xd fs) := fun s3 => ⟨d, _, rfl, s3 _ _ o.xd⟩
      have s0 := Same.refl H2
      refine ⟨_, rfl, C1, _, _, _, rfl, e1.is, rfl, .own _, i1.o0, dx s0, ?_⟩
      refine ⟨_, rfl, C1, _, _, _, rfl, e1.is, rfl, .own _, i1.o1, dx s0, ?_⟩
      refine ⟨_, rfl, C1, _, _, _, rfl, e1.is, rfl, .own _, i1.o2, dx s0, ?_⟩
      refine ⟨_, rfl, C1, _, _, _, rfl, e1.is, rfl, .own _, i1.o3, dx s0, (by show 4 ≤ sizeLine; decide), fun l hl => ?_⟩
      refine ⟨4, rfl, by decide, by decide, for_range (n := 4) (fun i σ H3 => ∃ kk : Option V, σ = [some (.ref a), some (.ref p), some (.ref q), some (.int 1), some (.int (1 + wd)), some (.ref x), some (.ref l), kk] ∧ H3 = upd H2 l (.lst [.bl false, .bl true, .bl false, .bl false])) ⟨none, rfl, rfl⟩ ?_ ?_⟩
      · rintro i σ H3 hi ⟨kk, rfl, rfl⟩
        match i, hi with
        | 0, _ => exact ⟨_, rfl, _, rfl, l, _, _, _, rfl, rfl, SqL.of upd_same, atI_nat (j := 0) rfl, _, rfl, _, rfl, rfl, rfl, _, rfl, _, rfl, rfl⟩
        | 1, _ => exact ⟨_, rfl, _, rfl, l, _, _, _, rfl, rfl, SqL.of upd_same, atI_nat (j := 1) rfl, _, rfl, _, rfl, rfl, rfl, _, rfl, _, rfl, rfl⟩
        | 2, _ => exact ⟨_, rfl, _, rfl, l, _, _, _, rfl, rfl, SqL.of upd_same, atI_nat (j := 2) rfl, _, rfl, _, rfl, rfl, rfl, _, rfl, _, rfl, rfl⟩
        | 3, _ => exact ⟨_, rfl, _, rfl, l, _, _, _, rfl, rfl, SqL.of upd_same, atI_nat (j := 3) rfl, _, rfl, _, rfl, rfl, rfl, _, rfl, _, rfl, rfl⟩
      · rintro σ H3 ⟨kk, rfl, rfl⟩
        have s1 : Same H2 (upd H2 l (.lst [.bl false, .bl true, .bl false, .bl false])) := Same.new hl
        refine ⟨_, rfl, C1, _, _, _, rfl, e1.is, rfl, .ty _, i1.ve, dx s1, _, rfl, ?_⟩
        refine ⟨_, rfl, C1, _, _, _, rfl, e1.is, rfl, .ty _, i1.le, dx s1, _, rfl, ?_⟩
        refine ⟨_, rfl, C1, _, _, _, rfl, e1.is, rfl, .ty _, i1.ae, dx s1, _, rfl, ?_⟩
        refine ⟨_, rfl, rfl, _, rfl, ?_⟩
        refine ⟨_, rfl, rfl, C1, d, _, .int (1 + wd), rfl, e1.xf, a1, rfl, s1 _ _ o.xd, rfl, _, rfl, .int (1 + wd), .int (1 + wd), _, _, rfl, rfl, rfl, (by show 0 < 3; decide), _, rfl, ?_⟩
        rw [D.eqb_refl]
        exact ⟨_, rfl, rfl, _, rfl, _, rfl, rfl, C1, d, _, .str "set/a", rfl, e1.xf, p1, rfl, s1 _ _ o.xd, rfl, rfl, k _⟩
    · rintro rfl d H2 v o rp
      refine ⟨true, i2.hh, fun _ x hx => ?_, fun z => nomatch z⟩
      have dx : ∀ {H3 : Hp}, Same H2 H3 → ∃ dd fs, (some d : Option Addr) = some dd ∧ H3 dd = some (.xd fs) := fun s3 => ⟨d, _, rfl, s3 _ _ o.xd⟩
      have s0 := Same.refl H2
      refine ⟨_, rfl, C2, _, _, _, rfl, e2.is, rfl, .own _, i2.o0, dx s0, ?_⟩
      refine ⟨_, rfl, C2, _, _, _, rfl, e2.is, rfl, .own _, i2.o1, dx s0, ?_⟩
      refine ⟨_, rfl, C2, _, _, _, rfl, e2.is, rfl, .own _, i2.o2, dx s0, ?_⟩
      refine ⟨_, rfl, C2, _, _, _, rfl, e2.is, rfl, .own _, i2.o3, dx s0, (by show 4 ≤ sizeLine; decide), fun l hl => ?_⟩
      refine ⟨4, rfl, by decide, by decide, for_range (n := 4) (fun i σ H3 => ∃ kk : Option V, σ = [some (.ref a), some (.ref p), some (.ref q), some (.int 2), some (.int (1 + wd)), some (.ref x), some (.ref l), kk] ∧ H3 = upd H2 l (.lst [.bl false, .bl false, .bl true, .bl false])) ⟨none, rfl, rfl⟩ ?_ ?_⟩
      · rintro i σ H3 hi ⟨kk, rfl, rfl⟩
        match i, hi with
        | 0, _ => exact ⟨_, rfl, _, rfl, l, _, _, _, rfl, rfl, SqL.of upd_same, atI_nat (j := 0) rfl, _, rfl, _, rfl, rfl, rfl, _, rfl, _, rfl, rfl⟩
        | 1, _ => exact ⟨_, rfl, _, rfl, l, _, _, _, rfl, rfl, SqL.of upd_same, atI_nat (j := 1) rfl, _, rfl, _, rfl, rfl, rfl, _, rfl, _, rfl, rfl⟩
        | 2, _ => exact ⟨_, rfl, _, rfl, l, _, _, _, rfl, rfl, SqL.of upd_same, atI_nat (j := 2) rfl, _, rfl, _, rfl, rfl, rfl, _, rfl, _, rfl, rfl⟩
        | 3, _ => exact ⟨_, rfl, _, rfl, l, _, _, _, rfl, rfl, SqL.of upd_same, atI_nat (j := 3) rfl, _, rfl, _, rfl, rfl, rfl, _, rfl, _, rfl, rfl⟩
      · rintro σ H3 ⟨kk, rfl, rfl⟩
        have s1 : Same H2 (upd H2 l (.lst [.bl false, .bl false, .bl true, .bl false])) := Same.new hl
        refine ⟨_, rfl, C2, _, _, _, rfl, e2.is, rfl, .ty _, i2.ve, dx s1, _, rfl, ?_⟩
        refine ⟨_, rfl, C2, _, _, _, rfl, e2.is, rfl, .ty _, i2.le, dx s1, _, rfl, ?_⟩
        refine ⟨_, rfl, C2, _, _, _, rfl, e2.is, rfl, .ty _, i2.ae, dx s1, _, rfl, ?_⟩
        refine ⟨_, rfl, rfl, _, rfl, ?_⟩
        refine ⟨_, rfl, rfl, C2, d, _, v, rfl, e2.xf, p2, rfl, s1 _ _ o.xd, rfl, (by show 0 ≤ sizeLine; decide), fun t0 h0 => ⟨(by show 3 ≤ sizeLine; decide), fun t1 h1 => ?_⟩⟩
        have n10 : t0 ≠ t1 := fun z => by
          rw [← z, upd_same] at h1
          cases h1
        have ss := (s1.trans (Same.new h0)).trans (Same.new (o := .tup [.str "pick", .str "a", .ref t0]) h1)
        refine ⟨dPap, dPap, v, .ref t1, rfl, rp.keep (Tk.same ss), ⟨t1, _, rfl, .inl upd_same, (by show 3 ≤ sizeLine; decide), .str "pick", _, rfl, rfl, .str "a", _, rfl, rfl, .ref t0, [], rfl, ⟨t0, [], rfl, .inl (by rw [upd_ne n10, upd_same]), (by show 0 ≤ sizeLine; decide), rfl⟩, rfl⟩, by decide, ?_⟩
        rw [D.eqb_refl]
        exact k _
    · intro n0 n1 n2 d H2 o
      obtain rfl : kd = 3 := by omega
      refine ⟨true, i3.hh, fun _ x hx => ?_, fun z => nomatch z⟩
      have dx : ∀ {H3 : Hp}, Same H2 H3 → ∃ dd fs, (some d : Option Addr) = some dd ∧ H3 dd = some (.xd fs) := fun s3 => ⟨d, _, rfl, s3 _ _ o.xd⟩
      have s0 := Same.refl H2
      refine ⟨_, rfl, C3, _, _, _, rfl, e3.is, rfl, .own _, i3.o0, dx s0, ?_⟩
      refine ⟨_, rfl, C3, _, _, _, rfl, e3.is, rfl, .own _, i3.o1, dx s0, ?_⟩
      refine ⟨_, rfl, C3, _, _, _, rfl, e3.is, rfl, .own _, i3.o2, dx s0, ?_⟩
      refine ⟨_, rfl, C3, _, _, _, rfl, e3.is, rfl, .own _, i3.o3, dx s0, (by show 4 ≤ sizeLine; decide), fun l hl => ?_⟩
      refine ⟨4, rfl, by decide, by decide, for_range (n := 4) (fun i σ H3 => ∃ kk : Option V, σ = [some (.ref a), some (.ref p), some (.ref q), some (.int 3), some (.int (1 + wd)), some (.ref x), some (.ref l), kk] ∧ H3 = upd H2 l (.lst [.bl false, .bl false, .bl false, .bl true])) ⟨none, rfl, rfl⟩ ?_ ?_⟩
      · rintro i σ H3 hi ⟨kk, rfl, rfl⟩
        match i, hi with
        | 0, _ => exact ⟨_, rfl, _, rfl, l, _, _, _, rfl, rfl, SqL.of upd_same, atI_nat (j := 0) rfl, _, rfl, _, rfl, rfl, rfl, _, rfl, _, rfl, rfl⟩
        | 1, _ => exact ⟨_, rfl, _, rfl, l, _, _, _, rfl, rfl, SqL.of upd_same, atI_nat (j := 1) rfl, _, rfl, _, rfl, rfl, rfl, _, rfl, _, rfl, rfl⟩
        | 2, _ => exact ⟨_, rfl, _, rfl, l, _, _, _, rfl, rfl, SqL.of upd_same, atI_nat (j := 2) rfl, _, rfl, _, rfl, rfl, rfl, _, rfl, _, rfl, rfl⟩
        | 3, _ => exact ⟨_, rfl, _, rfl, l, _, _, _, rfl, rfl, SqL.of upd_same, atI_nat (j := 3) rfl, _, rfl, _, rfl, rfl, rfl, _, rfl, _, rfl, rfl⟩
      · rintro σ H3 ⟨kk, rfl, rfl⟩
        have s1 : Same H2 (upd H2 l (.lst [.bl false, .bl false, .bl false, .bl true])) := Same.new hl
        refine ⟨_, rfl, C3, _, _, _, rfl, e3.is, rfl, .ty _, i3.ve, dx s1, _, rfl, ?_⟩
        refine ⟨_, rfl, C3, _, _, _, rfl, e3.is, rfl, .ty _, i3.le, dx s1, _, rfl, ?_⟩
        refine ⟨_, rfl, C3, _, _, _, rfl, e3.is, rfl, .ty _, i3.ae, dx s1, _, rfl, ?_⟩
        refine ⟨_, rfl, rfl, _, rfl, ?_⟩
        refine ⟨_, rfl, rfl, C3, d, _, .int (1 + wd), rfl, e3.xf, a3, rfl, s1 _ _ o.xd, rfl, _, rfl, .int (1 + wd), .int (1 + wd), _, _, rfl, rfl, rfl, (by show 0 < 3; decide), _, rfl, ?_⟩
        rw [D.eqb_refl]
        exact ⟨_, rfl, rfl, _, rfl, k _⟩
end
end Kl

namespace Kl
open PySem L2 Kd Kx
theorem cls_some {K : PySem.W.Frag} {C : Addr} (h : PySem.W.hasDictIn K C = true) : (PySem.W.clsIn K C).isSome = true := by
  obtain ⟨cd, hc, _⟩ := PySem.W.any_some h
  rw [hc]
  rfl
theorem all_mk {l : PySem.W.OpenLaw} {w : World} {K : PySem.W.Frag} {h : Heap} {mg : Str → Option Value} {fa CH fS fL fO fN fD fT fW fR fM C0 C1 C2 C3 g0 g1 g2 g3 : Addr} (X : K.In h) (G : h.Ns mainGlobals mg) (hfa : mg "law" = some (.ref fa))
    {odS anS odL anL odO anO odN anN odD anD odT anT odW anW odR anR odM anM odg0 ang0 odg1 ang1 odg2 ang2 odg3 ang3 : Option Addr} {slS slL slO slN slD slT slW slR slM slg0 slg1 slg2 slg3 : Array (Option Value)} {ocS kVS dcS pmS cdS ctS ocL kVL dcL pmL cdL ctL ocO kVO dcO pmO cdO ctO ocN kVN dcN pmN cdN ctN ocD kVD dcD pmD cdD ctD ocT kVT dcT pmT cdT ctT ocW kVW dcW pmW cdW ctW ocR kVR dcR pmR cdR ctR ocM kVM dcM pmM cdM ctM ocg0 kVg0 dcg0 pmg0 cdg0 ctg0 ocg1 kVg1 dcg1 pmg1 cdg1 ctg1 ocg2 kVg2 dcg2 pmg2 cdg2 ctg2 ocg3 kVg3 dcg3 pmg3 cdg3 ctg3 : Value}
    (aS : PySem.W.nsIn K mainGlobals "is_sequence" = some (some (.ref fS)))
    (lS : K.lookup fS = some ⟨ocS, odS, .func (PySem.W.fnOf "is_sequence" "is_sequence" (defArgs sSeq) (defBody sSeq) (defScope sSeq) .none kVS dcS pmS anS cdS ctS), slS⟩)
    (cS : PySem.W.codeIn K cdS "is_sequence" = true)
    (kS : PySem.W.keepIn K (.ref fS) = true)
    (aL : PySem.W.nsIn K mainGlobals "plain" = some (some (.ref fL)))
    (lL : K.lookup fL = some ⟨ocL, odL, .func (PySem.W.fnOf "plain" "plain" (defArgs sPlain) (defBody sPlain) (defScope sPlain) .none kVL dcL pmL anL cdL ctL), slL⟩)
    (cL : PySem.W.codeIn K cdL "plain" = true)
    (kL : PySem.W.keepIn K (.ref fL) = true)
    (aO : PySem.W.nsIn K mainGlobals "_law_so" = some (some (.ref fO)))
    (lO : K.lookup fO = some ⟨ocO, odO, .func (PySem.W.fnOf "_law_so" "_law_so" (defArgs sSo) (defBody sSo) (defScope sSo) .none kVO dcO pmO anO cdO ctO), slO⟩)
    (cO : PySem.W.codeIn K cdO "_law_so" = true)
    (kO : PySem.W.keepIn K (.ref fO) = true)
    (aN : PySem.W.nsIn K mainGlobals "_law_numbers" = some (some (.ref fN)))
    (lN : K.lookup fN = some ⟨ocN, odN, .func (PySem.W.fnOf "_law_numbers" "_law_numbers" (defArgs sNum) (defBody sNum) (defScope sNum) .none kVN dcN pmN anN cdN ctN), slN⟩)
    (cN : PySem.W.codeIn K cdN "_law_numbers" = true)
    (kN : PySem.W.keepIn K (.ref fN) = true)
    (aD : PySem.W.nsIn K mainGlobals "_law_draw" = some (some (.ref fD)))
    (lD : K.lookup fD = some ⟨ocD, odD, .func (PySem.W.fnOf "_law_draw" "_law_draw" (defArgs sDraw) (defBody sDraw) (defScope sDraw) .none kVD dcD pmD anD cdD ctD), slD⟩)
    (cD : PySem.W.codeIn K cdD "_law_draw" = true)
    (kD : PySem.W.keepIn K (.ref fD) = true)
    (aT : PySem.W.nsIn K mainGlobals "_law_take" = some (some (.ref fT)))
    (lT : K.lookup fT = some ⟨ocT, odT, .func (PySem.W.fnOf "_law_take" "_law_take" (defArgs sTake) (defBody sTake) (defScope sTake) .none kVT dcT pmT anT cdT ctT), slT⟩)
    (cT : PySem.W.codeIn K cdT "_law_take" = true)
    (kT : PySem.W.keepIn K (.ref fT) = true)
    (aW : PySem.W.nsIn K mainGlobals "_law_wide" = some (some (.ref fW)))
    (lW : K.lookup fW = some ⟨ocW, odW, .func (PySem.W.fnOf "_law_wide" "_law_wide" (defArgs sWide) (defBody sWide) (defScope sWide) .none kVW dcW pmW anW cdW ctW), slW⟩)
    (cW : PySem.W.codeIn K cdW "_law_wide" = true)
    (kW : PySem.W.keepIn K (.ref fW) = true)
    (aR : PySem.W.nsIn K mainGlobals "_law_raised" = some (some (.ref fR)))
    (lR : K.lookup fR = some ⟨ocR, odR, .func (PySem.W.fnOf "_law_raised" "_law_raised" (defArgs sRaised) (defBody sRaised) (defScope sRaised) .none kVR dcR pmR anR cdR ctR), slR⟩)
    (cR : PySem.W.codeIn K cdR "_law_raised" = true)
    (kR : PySem.W.keepIn K (.ref fR) = true)
    (aM : PySem.W.nsIn K mainGlobals "law" = some (some (.ref fM)))
    (lM : K.lookup fM = some ⟨ocM, odM, .func (PySem.W.fnOf "law" "law" (defArgs sLaw) (defBody sLaw) (defScope sLaw) .none kVM dcM pmM anM cdM ctM), slM⟩)
    (cM : PySem.W.codeIn K cdM "law" = true)
    (kM : PySem.W.keepIn K (.ref fM) = true)
    (aH : PySem.W.nsIn K mainGlobals "HouseError" = some (some (.ref CH)))
    (ag0 : PySem.W.nsIn K mainGlobals "BadValue" = some (some (.ref C0)))
    (ig0 : PySem.W.findIn K (.ref C0) "__init__" = some (some (.ref g0)))
    (tg0 : PySem.W.typeIn K (.ref g0) = some (.type "function"))
    (lg0 : K.lookup g0 = some ⟨ocg0, odg0, .func (PySem.W.fnOf "__init__" "BadValue.__init__" (defArgs iBV) (defBody iBV) (defScope iBV) .none kVg0 dcg0 pmg0 ang0 cdg0 ctg0), slg0⟩)
    (cg0 : PySem.W.codeIn K cdg0 "BadValue.__init__" = true)
    (kg0 : PySem.W.keepIn K (.ref g0) = true)
    (x1g0 : PySem.W.excInitIn K C0 exMro "Exception.__new__" = true)
    (x2g0 : PySem.W.excOver K C0 exMro = true)
    (x3g0 : PySem.W.hasDictIn K C0 = true)
    (x4g0 : PySem.W.findIn K (.ref C0) "__setattr__" = some (some (.builtin "object.__setattr__")))
    (x5g0 : PySem.W.subIn K (.ref C0) (.type "BaseException") = some true)
    (x6g0 : PySem.W.typeIn K (.ref C0) = some (.type "type"))
    (x7g0 : PySem.W.keepIn K (.ref C0) = true)
    (x8g0 : PySem.W.findIn K (.ref C0) "__getattribute__" = some (some (.builtin "BaseException.__getattribute__")))
    (x9g0 : PySem.W.findIn K (.ref C0) "__getattr__" = some none)
    (y2g0 : PySem.W.findIn K (.ref C0) "__class__" = some (some (.builtin "object.__class__")))
    (y3g0 : PySem.W.mroIn K C0 (.type "object") = some true)
    (o0g0 : PySem.W.kitOne K (.ref C0) (.ref C0) = some true)
    (o1g0 : PySem.W.kitOne K (.ref C0) (.ref C1) = some false)
    (o2g0 : PySem.W.kitOne K (.ref C0) (.ref C2) = some false)
    (o3g0 : PySem.W.kitOne K (.ref C0) (.ref C3) = some false)
    (veg0 : PySem.W.kitOne K (.ref C0) (.type "ValueError") = some false)
    (leg0 : PySem.W.kitOne K (.ref C0) (.type "LookupError") = some false)
    (aeg0 : PySem.W.kitOne K (.ref C0) (.type "ArithmeticError") = some false)
    (h1g0 : PySem.W.exmOne K (.ref C0) (.ref CH) = some true)
    (ag1 : PySem.W.nsIn K mainGlobals "BadFile" = some (some (.ref C1)))
    (ig1 : PySem.W.findIn K (.ref C1) "__init__" = some (some (.ref g1)))
    (tg1 : PySem.W.typeIn K (.ref g1) = some (.type "function"))
    (lg1 : K.lookup g1 = some ⟨ocg1, odg1, .func (PySem.W.fnOf "__init__" "BadFile.__init__" (defArgs iBF) (defBody iBF) (defScope iBF) .none kVg1 dcg1 pmg1 ang1 cdg1 ctg1), slg1⟩)
    (cg1 : PySem.W.codeIn K cdg1 "BadFile.__init__" = true)
    (kg1 : PySem.W.keepIn K (.ref g1) = true)
    (x1g1 : PySem.W.excInitIn K C1 exMro "Exception.__new__" = true)
    (x2g1 : PySem.W.excOver K C1 exMro = true)
    (x3g1 : PySem.W.hasDictIn K C1 = true)
    (x4g1 : PySem.W.findIn K (.ref C1) "__setattr__" = some (some (.builtin "object.__setattr__")))
    (x5g1 : PySem.W.subIn K (.ref C1) (.type "BaseException") = some true)
    (x6g1 : PySem.W.typeIn K (.ref C1) = some (.type "type"))
    (x7g1 : PySem.W.keepIn K (.ref C1) = true)
    (x8g1 : PySem.W.findIn K (.ref C1) "__getattribute__" = some (some (.builtin "BaseException.__getattribute__")))
    (x9g1 : PySem.W.findIn K (.ref C1) "__getattr__" = some none)
    (y2g1 : PySem.W.findIn K (.ref C1) "__class__" = some (some (.builtin "object.__class__")))
    (y3g1 : PySem.W.mroIn K C1 (.type "object") = some true)
    (o0g1 : PySem.W.kitOne K (.ref C1) (.ref C0) = some false)
    (o1g1 : PySem.W.kitOne K (.ref C1) (.ref C1) = some true)
    (o2g1 : PySem.W.kitOne K (.ref C1) (.ref C2) = some false)
    (o3g1 : PySem.W.kitOne K (.ref C1) (.ref C3) = some false)
    (veg1 : PySem.W.kitOne K (.ref C1) (.type "ValueError") = some false)
    (leg1 : PySem.W.kitOne K (.ref C1) (.type "LookupError") = some false)
    (aeg1 : PySem.W.kitOne K (.ref C1) (.type "ArithmeticError") = some false)
    (h1g1 : PySem.W.exmOne K (.ref C1) (.ref CH) = some true)
    (ag2 : PySem.W.nsIn K mainGlobals "NoSolution" = some (some (.ref C2)))
    (ig2 : PySem.W.findIn K (.ref C2) "__init__" = some (some (.ref g2)))
    (tg2 : PySem.W.typeIn K (.ref g2) = some (.type "function"))
    (lg2 : K.lookup g2 = some ⟨ocg2, odg2, .func (PySem.W.fnOf "__init__" "NoSolution.__init__" (defArgs iNS) (defBody iNS) (defScope iNS) .none kVg2 dcg2 pmg2 ang2 cdg2 ctg2), slg2⟩)
    (cg2 : PySem.W.codeIn K cdg2 "NoSolution.__init__" = true)
    (kg2 : PySem.W.keepIn K (.ref g2) = true)
    (x1g2 : PySem.W.excInitIn K C2 exMro "Exception.__new__" = true)
    (x2g2 : PySem.W.excOver K C2 exMro = true)
    (x3g2 : PySem.W.hasDictIn K C2 = true)
    (x4g2 : PySem.W.findIn K (.ref C2) "__setattr__" = some (some (.builtin "object.__setattr__")))
    (x5g2 : PySem.W.subIn K (.ref C2) (.type "BaseException") = some true)
    (x6g2 : PySem.W.typeIn K (.ref C2) = some (.type "type"))
    (x7g2 : PySem.W.keepIn K (.ref C2) = true)
    (x8g2 : PySem.W.findIn K (.ref C2) "__getattribute__" = some (some (.builtin "BaseException.__getattribute__")))
    (x9g2 : PySem.W.findIn K (.ref C2) "__getattr__" = some none)
    (y2g2 : PySem.W.findIn K (.ref C2) "__class__" = some (some (.builtin "object.__class__")))
    (y3g2 : PySem.W.mroIn K C2 (.type "object") = some true)
    (o0g2 : PySem.W.kitOne K (.ref C2) (.ref C0) = some false)
    (o1g2 : PySem.W.kitOne K (.ref C2) (.ref C1) = some false)
    (o2g2 : PySem.W.kitOne K (.ref C2) (.ref C2) = some true)
    (o3g2 : PySem.W.kitOne K (.ref C2) (.ref C3) = some false)
    (veg2 : PySem.W.kitOne K (.ref C2) (.type "ValueError") = some false)
    (leg2 : PySem.W.kitOne K (.ref C2) (.type "LookupError") = some false)
    (aeg2 : PySem.W.kitOne K (.ref C2) (.type "ArithmeticError") = some false)
    (h1g2 : PySem.W.exmOne K (.ref C2) (.ref CH) = some true)
    (ag3 : PySem.W.nsIn K mainGlobals "BadSyntax" = some (some (.ref C3)))
    (ig3 : PySem.W.findIn K (.ref C3) "__init__" = some (some (.ref g3)))
    (tg3 : PySem.W.typeIn K (.ref g3) = some (.type "function"))
    (lg3 : K.lookup g3 = some ⟨ocg3, odg3, .func (PySem.W.fnOf "__init__" "BadSyntax.__init__" (defArgs iBS) (defBody iBS) (defScope iBS) .none kVg3 dcg3 pmg3 ang3 cdg3 ctg3), slg3⟩)
    (cg3 : PySem.W.codeIn K cdg3 "BadSyntax.__init__" = true)
    (kg3 : PySem.W.keepIn K (.ref g3) = true)
    (x1g3 : PySem.W.excInitIn K C3 exMro "Exception.__new__" = true)
    (x2g3 : PySem.W.excOver K C3 exMro = true)
    (x3g3 : PySem.W.hasDictIn K C3 = true)
    (x4g3 : PySem.W.findIn K (.ref C3) "__setattr__" = some (some (.builtin "object.__setattr__")))
    (x5g3 : PySem.W.subIn K (.ref C3) (.type "BaseException") = some true)
    (x6g3 : PySem.W.typeIn K (.ref C3) = some (.type "type"))
    (x7g3 : PySem.W.keepIn K (.ref C3) = true)
    (x8g3 : PySem.W.findIn K (.ref C3) "__getattribute__" = some (some (.builtin "BaseException.__getattribute__")))
    (x9g3 : PySem.W.findIn K (.ref C3) "__getattr__" = some none)
    (y2g3 : PySem.W.findIn K (.ref C3) "__class__" = some (some (.builtin "object.__class__")))
    (y3g3 : PySem.W.mroIn K C3 (.type "object") = some true)
    (o0g3 : PySem.W.kitOne K (.ref C3) (.ref C0) = some false)
    (o1g3 : PySem.W.kitOne K (.ref C3) (.ref C1) = some false)
    (o2g3 : PySem.W.kitOne K (.ref C3) (.ref C2) = some false)
    (o3g3 : PySem.W.kitOne K (.ref C3) (.ref C3) = some true)
    (veg3 : PySem.W.kitOne K (.ref C3) (.type "ValueError") = some false)
    (leg3 : PySem.W.kitOne K (.ref C3) (.type "LookupError") = some false)
    (aeg3 : PySem.W.kitOne K (.ref C3) (.type "ArithmeticError") = some false)
    (h1g3 : PySem.W.exmOne K (.ref C3) (.ref CH) = some true)
    (natg0 : PySem.W.findIn K (.ref C0) "at" = some none)
    (natg1 : PySem.W.findIn K (.ref C1) "at" = some none)
    (npathg1 : PySem.W.findIn K (.ref C1) "path" = some none)
    (npaperg2 : PySem.W.findIn K (.ref C2) "paper" = some none)
    (natg3 : PySem.W.findIn K (.ref C3) "at" = some none)
    (gt : PySem.W.specialIn K (.builtin "object.__class__") "__get__" = some (some (.builtin "getset_descriptor.__get__")))
    (tk : PySem.W.takesIn K (.builtin "object.__class__") = some true)
    (z_len : PySem.W.nsIn K mainGlobals "len" = some none)
    (z_int : PySem.W.nsIn K mainGlobals "int" = some none)
    (z_range : PySem.W.nsIn K mainGlobals "range" = some none)
    (z_isi : PySem.W.nsIn K mainGlobals "isinstance" = some none)
    (z_tuple : PySem.W.nsIn K mainGlobals "tuple" = some none)
    (z_list : PySem.W.nsIn K mainGlobals "list" = some none)
    (z_bool : PySem.W.nsIn K mainGlobals "bool" = some none)
    (z_str : PySem.W.nsIn K mainGlobals "str" = some none)
    (z_dict : PySem.W.nsIn K mainGlobals "dict" = some none)
    (z_sorted : PySem.W.nsIn K mainGlobals "sorted" = some none)
    (z_all : PySem.W.nsIn K mainGlobals "all" = some none)
    (z_ord : PySem.W.nsIn K mainGlobals "ord" = some none)
    (z_zip : PySem.W.nsIn K mainGlobals "zip" = some none)
    (z_max : PySem.W.nsIn K mainGlobals "max" = some none)
    (z_min : PySem.W.nsIn K mainGlobals "min" = some none)
    (z_ve : PySem.W.nsIn K mainGlobals "ValueError" = some none)
    (z_le : PySem.W.nsIn K mainGlobals "LookupError" = some none)
    (z_ae : PySem.W.nsIn K mainGlobals "ArithmeticError" = some none)
    : ∃ fd : FuncData, (∀ (s : Shared) (v : Value), BindsTo s fd ⟨[v], []⟩ [("script", v)]) ∧ ∀ base : Heap, K.In base → base.Ns mainGlobals mg → FnOk l.prog w K mg base CX0 8 fa fd ["script"] (spLaw K) := by
  have e := hfa.symm.trans (PySem.W.mg_of X G aM)
  cases e
  have T : Glo mg := ⟨PySem.W.mg_none_of X G z_len, PySem.W.mg_none_of X G z_int, PySem.W.mg_none_of X G z_range, PySem.W.mg_none_of X G z_isi, PySem.W.mg_none_of X G z_tuple, PySem.W.mg_none_of X G z_list, PySem.W.mg_none_of X G z_bool, PySem.W.mg_none_of X G z_str, PySem.W.mg_none_of X G z_dict, PySem.W.mg_none_of X G z_sorted, PySem.W.mg_none_of X G z_all, PySem.W.mg_none_of X G z_ord, PySem.W.mg_none_of X G z_zip, PySem.W.mg_none_of X G z_max, PySem.W.mg_none_of X G z_min⟩
  have B : GloE mg := ⟨PySem.W.mg_none_of X G z_ve, PySem.W.mg_none_of X G z_le, PySem.W.mg_none_of X G z_ae⟩
  have FS := fun_mk (st := sSeq) lS cS kS
  have AS : At K mg "is_sequence" sSeq ["value"] fS _ := ⟨FS, PySem.W.mg_of X G aS, FS.binds fun _ _ _ _ _ _ us hl => match us, hl with | [_], _ => rfl⟩
  have FL := fun_mk (st := sPlain) lL cL kL
  have AL : At K mg "plain" sPlain ["value"] fL _ := ⟨FL, PySem.W.mg_of X G aL, FL.binds fun _ _ _ _ _ _ us hl => match us, hl with | [_], _ => rfl⟩
  have FO := fun_mk (st := sSo) lO cO kO
  have AO : At K mg "_law_so" sSo ["found", "meant"] fO _ := ⟨FO, PySem.W.mg_of X G aO, FO.binds fun _ _ _ _ _ _ us hl => match us, hl with | [_, _], _ => rfl⟩
  have FN := fun_mk (st := sNum) lN cN kN
  have AN : At K mg "_law_numbers" sNum ["script"] fN _ := ⟨FN, PySem.W.mg_of X G aN, FN.binds fun _ _ _ _ _ _ us hl => match us, hl with | [_], _ => rfl⟩
  have FD := fun_mk (st := sDraw) lD cD kD
  have AD : At K mg "_law_draw" sDraw ["row", "at", "limit"] fD _ := ⟨FD, PySem.W.mg_of X G aD, FD.binds fun _ _ _ _ _ _ us hl => match us, hl with | [_, _, _], _ => rfl⟩
  have FT := fun_mk (st := sTake) lT cT kT
  have AT : At K mg "_law_take" sTake ["row", "spot", "limit"] fT _ := ⟨FT, PySem.W.mg_of X G aT, FT.binds fun _ _ _ _ _ _ us hl => match us, hl with | [_, _, _], _ => rfl⟩
  have FW := fun_mk (st := sWide) lW cW kW
  have AW : At K mg "_law_wide" sWide ["row", "spot", "limit"] fW _ := ⟨FW, PySem.W.mg_of X G aW, FW.binds fun _ _ _ _ _ _ us hl => match us, hl with | [_, _, _], _ => rfl⟩
  have FR := fun_mk (st := sRaised) lR cR kR
  have AR : At K mg "_law_raised" sRaised ["kind", "value"] fR _ := ⟨FR, PySem.W.mg_of X G aR, FR.binds fun _ _ _ _ _ _ us hl => match us, hl with | [_, _], _ => rfl⟩
  have FM := fun_mk (st := sLaw) lM cM kM
  have AM : At K mg "law" sLaw ["script"] fa _ := ⟨FM, PySem.W.mg_of X G aM, FM.binds fun _ _ _ _ _ _ us hl => match us, hl with | [_], _ => rfl⟩
  have Fg0 := fun_mk (st := iBV) lg0 cg0 kg0
  have bg0 := Fg0.binds (ps := ["self", "at"]) fun _ _ _ _ _ _ us hl => match us, hl with | [_, _], _ => rfl
  have E0 : Err K mg "BadValue" C0 g0 := ⟨⟨x1g0, x2g0, x3g0, x4g0, x5g0, x6g0, x7g0⟩, ig0, tg0, PySem.W.mg_of X G ag0, ⟨x8g0, x9g0, x5g0, x3g0⟩, ⟨cls_some x3g0, x8g0, x9g0, x5g0, y2g0, gt, tk, y3g0⟩⟩
  have I0 : Isi K C0 C0 C1 C2 C3 CH true false false false := ⟨o0g0, o1g0, o2g0, o3g0, veg0, leg0, aeg0, h1g0⟩
  have Fg1 := fun_mk (st := iBF) lg1 cg1 kg1
  have bg1 := Fg1.binds (ps := ["self", "path", "at"]) fun _ _ _ _ _ _ us hl => match us, hl with | [_, _, _], _ => rfl
  have E1 : Err K mg "BadFile" C1 g1 := ⟨⟨x1g1, x2g1, x3g1, x4g1, x5g1, x6g1, x7g1⟩, ig1, tg1, PySem.W.mg_of X G ag1, ⟨x8g1, x9g1, x5g1, x3g1⟩, ⟨cls_some x3g1, x8g1, x9g1, x5g1, y2g1, gt, tk, y3g1⟩⟩
  have I1 : Isi K C1 C0 C1 C2 C3 CH false true false false := ⟨o0g1, o1g1, o2g1, o3g1, veg1, leg1, aeg1, h1g1⟩
  have Fg2 := fun_mk (st := iNS) lg2 cg2 kg2
  have bg2 := Fg2.binds (ps := ["self", "paper"]) fun _ _ _ _ _ _ us hl => match us, hl with | [_, _], _ => rfl
  have E2 : Err K mg "NoSolution" C2 g2 := ⟨⟨x1g2, x2g2, x3g2, x4g2, x5g2, x6g2, x7g2⟩, ig2, tg2, PySem.W.mg_of X G ag2, ⟨x8g2, x9g2, x5g2, x3g2⟩, ⟨cls_some x3g2, x8g2, x9g2, x5g2, y2g2, gt, tk, y3g2⟩⟩
  have I2 : Isi K C2 C0 C1 C2 C3 CH false false true false := ⟨o0g2, o1g2, o2g2, o3g2, veg2, leg2, aeg2, h1g2⟩
  have Fg3 := fun_mk (st := iBS) lg3 cg3 kg3
  have bg3 := Fg3.binds (ps := ["self", "at"]) fun _ _ _ _ _ _ us hl => match us, hl with | [_, _], _ => rfl
  have E3 : Err K mg "BadSyntax" C3 g3 := ⟨⟨x1g3, x2g3, x3g3, x4g3, x5g3, x6g3, x7g3⟩, ig3, tg3, PySem.W.mg_of X G ag3, ⟨x8g3, x9g3, x5g3, x3g3⟩, ⟨cls_some x3g3, x8g3, x9g3, x5g3, y2g3, gt, tk, y3g3⟩⟩
  have I3 : Isi K C3 C0 C1 C2 C3 CH false false false true := ⟨o0g3, o1g3, o2g3, o3g3, veg3, leg3, aeg3, h1g3⟩
  refine ⟨PySem.W.fnOf "law" "law" (defArgs sLaw) (defBody sLaw) (defScope sLaw) .none kVM dcM pmM anM cdM ctM, fun s v => .of_eq rfl, fun base _ _ => ?_⟩
  have GT : FnOk l.prog w K mg base CX0 2 fT _ ["row", "spot", "limit"] (spTake K) := ok_take FT T AD
  refine ok_law FM T B AN AT AW AR AO (PySem.W.mg_of X G aH) E0 E1 E2 E3 I0 I1 I2 I3 natg0 natg1 npathg1 npaperg2 natg3 (ok_num FN T) GT (ok_wide FW T AT GT) ?_ (ok_soH AO T 3)
  exact ok_raised AR E0 E1 E2 E3 (ok_iBV Fg0 E0.ex natg0) bg0 (ok_iBF Fg1 E1.ex natg1 npathg1) bg1 (ok_iNS Fg2 E2.ex npaperg2 3 AL (ok_plain AL AS T 3)) bg2 (ok_iBS Fg3 E3.ex natg3) bg3
theorem walk {l : PySem.W.OpenLaw} {q : Program} {loose : List Str} {XP : (Str → Option Value) → Heap → Prop} {YP : World → Heap → Prop} {d : DefRec} {K : Params → PySem.W.Frag} (hn : l.most = some 63) (hdf : d.params.defaults = [])
    (hY : ∀ (w : World) (h : Heap), YP w h → (K w.params).In h)
    (F : ∀ (w : World) (mg : Str → Option Value) (fa : Addr) (h : Heap), (K w.params).In h → h.Ns mainGlobals mg → mg d.name = some (.ref fa) →
      ∃ fd : FuncData, (∀ (s : Shared) (u : Value), BindsTo s fd ⟨[u], []⟩ [("script", u)]) ∧ ∀ base : Heap, (K w.params).In base → base.Ns mainGlobals mg → FnOk l.prog w (K w.params) mg base CX0 8 fa fd ["script"] (spLaw (K w.params))) :
    PySem.W.WalkO q loose XP YP l.row.toRowW d [] (fun f vs => PySem.call f vs) :=
  L2.walk_of (n := 63) (k := 8) (x := "script") (CX := fun _ => CX0) (sp := fun w => spLaw (K w.params)) hn (by decide) hdf ⟨rfl, by decide, by decide⟩ hY F (fun _ _ a ns hl _ hS => ⟨a, ns, rfl, hS, hl, fun _ => rfl⟩) fun _ _ _ _ _ z => z
end Kl
open PySem PySem.W PyProof.Rows
set_option maxRecDepth 100000 in
set_option maxHeartbeats 0 in
theorem PySem.Challenge.cw_releasehouse_k00_errors_holds : PySem.Challenge.rw_releasehouse_k00_errors.Holds := by
  w_on; o_law; k_head; (case hw => w_witness2)
  k_fill
  refine Kl.walk (l := PySem.Challenge.rw_releasehouse_k00_errors) rfl rfl (fun w h Y => PySem.W.kIn_of Y) ?F
  case F =>
    intro w mg fa h KX G hmg
    refine' Kl.all_mk KX G hmg ?aS ?lS ?cS ?kS ?aL ?lL ?cL ?kL ?aO ?lO ?cO ?kO ?aN ?lN ?cN ?kN ?aD ?lD ?cD ?kD ?aT ?lT ?cT ?kT ?aW ?lW ?cW ?kW ?aR ?lR ?cR ?kR ?aM ?lM ?cM ?kM ?aH ?ag0 ?ig0 ?tg0 ?lg0 ?cg0 ?kg0 ?x1g0 ?x2g0 ?x3g0 ?x4g0 ?x5g0 ?x6g0 ?x7g0 ?x8g0 ?x9g0 ?y2g0 ?y3g0 ?o0g0 ?o1g0 ?o2g0 ?o3g0 ?veg0 ?leg0 ?aeg0 ?h1g0 ?ag1 ?ig1 ?tg1 ?lg1 ?cg1 ?kg1 ?x1g1 ?x2g1 ?x3g1 ?x4g1 ?x5g1 ?x6g1 ?x7g1 ?x8g1 ?x9g1 ?y2g1 ?y3g1 ?o0g1 ?o1g1 ?o2g1 ?o3g1 ?veg1 ?leg1 ?aeg1 ?h1g1 ?ag2 ?ig2 ?tg2 ?lg2 ?cg2 ?kg2 ?x1g2 ?x2g2 ?x3g2 ?x4g2 ?x5g2 ?x6g2 ?x7g2 ?x8g2 ?x9g2 ?y2g2 ?y3g2 ?o0g2 ?o1g2 ?o2g2 ?o3g2 ?veg2 ?leg2 ?aeg2 ?h1g2 ?ag3 ?ig3 ?tg3 ?lg3 ?cg3 ?kg3 ?x1g3 ?x2g3 ?x3g3 ?x4g3 ?x5g3 ?x6g3 ?x7g3 ?x8g3 ?x9g3 ?y2g3 ?y3g3 ?o0g3 ?o1g3 ?o2g3 ?o3g3 ?veg3 ?leg3 ?aeg3 ?h1g3 ?natg0 ?natg1 ?npathg1 ?npaperg2 ?natg3 ?gt ?tk ?z_len ?z_int ?z_range ?z_isi ?z_tuple ?z_list ?z_bool ?z_str ?z_dict ?z_sorted ?z_all ?z_ord ?z_zip ?z_max ?z_min ?z_ve ?z_le ?z_ae
    (case aS => k_is); (case aL => k_is); (case aO => k_is); (case aN => k_is); (case aD => k_is); (case aT => k_is)
    (case aW => k_is); (case aR => k_is); (case aM => k_is); (case aH => k_is); (case ag0 => k_is); (case aeg0 => kit_is)
    (case ag1 => k_is); (case aeg1 => kit_is); (case ag2 => k_is); (case aeg2 => kit_is); (case ag3 => k_is); (case aeg3 => kit_is)
    (case lS => k_is); (case cS => k_is); (case kS => k_is); (case lL => k_is); (case cL => k_is); (case kL => k_is)
    (case lO => k_is); (case cO => k_is); (case kO => k_is); (case lN => k_is); (case cN => k_is); (case kN => k_is)
    (case lD => k_is); (case cD => k_is); (case kD => k_is); (case lT => k_is); (case cT => k_is); (case kT => k_is)
    (case lW => k_is); (case cW => k_is); (case kW => k_is); (case lR => k_is); (case cR => k_is); (case kR => k_is)
    (case lM => k_is); (case cM => k_is); (case kM => k_is); (case ig0 => k_is); (case tg0 => k_is); (case lg0 => k_is)
    (case cg0 => k_is); (case kg0 => k_is); (case x1g0 => kx_is); (case x2g0 => kx_is); (case x3g0 => k_is); (case x4g0 => k_is)
    (case x5g0 => k_is); (case x6g0 => k_is); (case x7g0 => k_is); (case x8g0 => k_is); (case x9g0 => k_is); (case y2g0 => k_is)
    (case y3g0 => k_is); (case o0g0 => kit_is); (case o1g0 => kit_is); (case o2g0 => kit_is); (case o3g0 => kit_is); (case veg0 => kit_is)
    (case leg0 => kit_is); (case h1g0 => kts_exm); (case ig1 => k_is); (case tg1 => k_is); (case lg1 => k_is); (case cg1 => k_is)
    (case kg1 => k_is); (case x1g1 => kx_is); (case x2g1 => kx_is); (case x3g1 => k_is); (case x4g1 => k_is); (case x5g1 => k_is)
    (case x6g1 => k_is); (case x7g1 => k_is); (case x8g1 => k_is); (case x9g1 => k_is); (case y2g1 => k_is); (case y3g1 => k_is)
    (case o0g1 => kit_is); (case o1g1 => kit_is); (case o2g1 => kit_is); (case o3g1 => kit_is); (case veg1 => kit_is); (case leg1 => kit_is)
    (case h1g1 => kts_exm); (case ig2 => k_is); (case tg2 => k_is); (case lg2 => k_is); (case cg2 => k_is); (case kg2 => k_is)
    (case x1g2 => kx_is); (case x2g2 => kx_is); (case x3g2 => k_is); (case x4g2 => k_is); (case x5g2 => k_is); (case x6g2 => k_is)
    (case x7g2 => k_is); (case x8g2 => k_is); (case x9g2 => k_is); (case y2g2 => k_is); (case y3g2 => k_is); (case o0g2 => kit_is)
    (case o1g2 => kit_is); (case o2g2 => kit_is); (case o3g2 => kit_is); (case veg2 => kit_is); (case leg2 => kit_is); (case h1g2 => kts_exm)
    (case ig3 => k_is); (case tg3 => k_is); (case lg3 => k_is); (case cg3 => k_is); (case kg3 => k_is); (case x1g3 => kx_is)
    (case x2g3 => kx_is); (case x3g3 => k_is); (case x4g3 => k_is); (case x5g3 => k_is); (case x6g3 => k_is); (case x7g3 => k_is)
    (case x8g3 => k_is); (case x9g3 => k_is); (case y2g3 => k_is); (case y3g3 => k_is); (case o0g3 => kit_is); (case o1g3 => kit_is)
    (case o2g3 => kit_is); (case o3g3 => kit_is); (case veg3 => kit_is); (case leg3 => kit_is); (case h1g3 => kts_exm); (case natg0 => k_is)
    (case natg1 => k_is); (case npathg1 => k_is); (case npaperg2 => k_is); (case natg3 => k_is); (case gt => k_is); (case tk => k_is)
    (case z_len => k_is); (case z_int => k_is); (case z_range => k_is); (case z_isi => k_is); (case z_tuple => k_is); (case z_list => k_is)
    (case z_bool => k_is); (case z_str => k_is); (case z_dict => k_is); (case z_sorted => k_is); (case z_all => k_is); (case z_ord => k_is)
    (case z_zip => k_is); (case z_max => k_is); (case z_min => k_is); (case z_ve => k_is); (case z_le => k_is); (case z_ae => k_is)
