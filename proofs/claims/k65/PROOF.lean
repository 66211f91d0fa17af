import PyProof.Rows.All
import Wide.All
import OpenK.AllK
import Wide.FinOn
import HandS.ForMost
import HandS.IsInst
import HandS.TupMul
import HandS.TupAny
import HandS.Exc
import HandS.ExcOwn
import HandS.ExcInit
import HandS.ExcField
import HandS.TryOnly
import HandS.WordsExc
import HandS.EndBits
import HandS.CallSlots
import HandS.Deep
import HandS.Style
import PyProof.Rows.IntBool
import HandS.Iter
import HandS.Zip
import PyProof.EnumMake
import PyProof.EnumIter
import PyProof.EnumFor
import PyProof.Draws
import KE.GoesMore
import HandS.TryMany
import HandS.ExcIs
import HandS.SetFor
import HandS.Strs
import HandS.Conv
import PyProof.Rows.SortShell
import KE.KDictWalk
import HandS.Codes
import HandS.Small
import HandS.SortRule
import PyProof.Rows.SortKeyStr
import PyProof.EqKinds
import KE.GoesEnum
import HandS.SlotsOwn
import HandS.TupSets
import PySem.Challenge.RW_hourcards_k65_sized_days_judged

set_option Elab.async false
set_option linter.all false
set_option maxRecDepth 100000
set_option maxHeartbeats 4000000
namespace Hc
open PySem L2
/-- things, as far as they are looked into -/
inductive D where
  | non | bl (b : Bool) | int (i : Int) | str (s : Str) | tup (xs : List D) | lst | dct
def tyOf : D → String
  | .non => "NoneType" | .bl _ => "bool" | .int _ => "int" | .str _ => "str" | .tup _ => "tuple" | .lst => "list" | .dct => "dict"
section
variable (H : Hp) (h : Addr)
mutual
/-- v is the thing d, in the heap H, apart from the list at h -/
inductive Rp : V → D → Prop
  | non : Rp .non .non
  | bl (b : Bool) : Rp (.bl b) (.bl b)
  | int (i : Int) : Rp (.int i) (.int i)
  | str (x : Str) : Rp (.str x) (.str x)
  | tup {a : Addr} {xs : List V} {ds : List D} : H a = some (.tup xs) → xs.length ≤ 100000 → RpA xs ds → Rp (.ref a) (.tup ds)
  | lst {a : Addr} {xs : List V} : H a = some (.lst xs) → a ≠ h → Rp (.ref a) .lst
  | dct {a : Addr} {kvs : List (Key × V)} : H a = some (.dK kvs) → Rp (.ref a) .dct
inductive RpA : List V → List D → Prop
  | nil : RpA [] []
  | cons {v : V} {vs : List V} {d : D} {ds : List D} : Rp v d → RpA vs ds → RpA (v :: vs) (d :: ds)
end
end
/-- all but what stands at h is as it was -/
def But (h : Addr) (H H' : Hp) : Prop := ∀ b o, H b = some o → b ≠ h → H' b = some o
theorem But.refl (h : Addr) (H : Hp) : But h H H := fun _ _ e _ => e
theorem But.trans {h : Addr} {H H1 H2 : Hp} (a : But h H H1) (b : But h H1 H2) : But h H H2 := fun c o e n => b c o (a c o e n) n
theorem But.of {h : Addr} {H H' : Hp} (s : Same H H') : But h H H' := fun b o e _ => s b o e
theorem But.free {h : Addr} {H H' : Hp} (k : But h H H') {l : Addr} (hl : l ≠ h) (e : H' l = none) : H l = none := by
  cases q : H l with
  | none => rfl
  | some o => rw [k l o q hl] at e; cases e
theorem same_upd {H : Hp} {p : Addr} {o : HO} (hp : H p = none) : Same H (upd H p o) := fun b u e => by
  rw [upd_ne (ne_of_none e hp)]; exact e
theorem but_upd {H : Hp} {h : Addr} {o : HO} : But h H (upd H h o) := fun b u e n => by
  rw [upd_ne n]; exact e
def IsLst (H : Hp) (h : Addr) : Prop := ∃ xs, H h = some (.lst xs)
section
variable {H H' : Hp} {h : Addr}
mutual
theorem Rp.mono (l : IsLst H h) (k : But h H H') : ∀ {v : V} {d : D}, Rp H h v d → Rp H' h v d
  | _, _, .non => .non
  | _, _, .bl b => .bl b
  | _, _, .int i => .int i
  | _, _, .str x => .str x
  | _, _, .tup e z r => .tup (k _ _ e (by obtain ⟨zs, q⟩ := l; exact ne_of e q (by intro z; cases z))) z (RpA.mono l k r)
  | _, _, .lst e n => .lst (k _ _ e n) n
  | _, _, .dct e => .dct (k _ _ e (by obtain ⟨zs, q⟩ := l; exact ne_of e q (by intro z; cases z)))
theorem RpA.mono (l : IsLst H h) (k : But h H H') : ∀ {vs : List V} {ds : List D}, RpA H h vs ds → RpA H' h vs ds
  | _, _, .nil => .nil
  | _, _, .cons a r => .cons (Rp.mono l k a) (RpA.mono l k r)
end
mutual
theorem Rp.same (k : Same H H') : ∀ {v : V} {d : D}, Rp H h v d → Rp H' h v d
  | _, _, .non => .non
  | _, _, .bl b => .bl b
  | _, _, .int i => .int i
  | _, _, .str x => .str x
  | _, _, .tup e z r => .tup (k _ _ e) z (RpA.same k r)
  | _, _, .lst e n => .lst (k _ _ e) n
  | _, _, .dct e => .dct (k _ _ e)
theorem RpA.same (k : Same H H') : ∀ {vs : List V} {ds : List D}, RpA H h vs ds → RpA H' h vs ds
  | _, _, .nil => .nil
  | _, _, .cons a r => .cons (Rp.same k a) (RpA.same k r)
end
theorem RpA.len : ∀ {vs : List V} {ds : List D}, RpA H h vs ds → vs.length = ds.length
  | _, _, .nil => rfl
  | _, _, .cons a r => by rw [List.length_cons, List.length_cons, RpA.len r]
theorem RpA.get : ∀ {vs : List V} {ds : List D} {i : Nat} {v : V}, RpA H h vs ds → vs[i]? = some v → ∃ d, ds[i]? = some d ∧ Rp H h v d
  | _, _, i, _, .nil, e => by simp at e
  | _, _, 0, _, .cons a r, e => by simp at e; subst e; exact ⟨_, rfl, a⟩
  | _, _, i + 1, v, .cons a r, e => by
    obtain ⟨d, h1, h2⟩ := RpA.get (i := i) (v := v) r (by simpa using e)
    exact ⟨d, by simpa using h1, h2⟩
theorem RpA.app : ∀ {vs ws : List V} {ds es : List D}, RpA H h vs ds → RpA H h ws es → RpA H h (vs ++ ws) (ds ++ es)
  | _, _, _, _, .nil, s => s
  | _, _, _, _, .cons a r, s => .cons a (RpA.app r s)
theorem RpA.take : ∀ {vs : List V} {ds : List D} (n : Nat), RpA H h vs ds → RpA H h (vs.take n) (ds.take n)
  | _, _, 0, _ => .nil
  | _, _, _ + 1, .nil => .nil
  | _, _, n + 1, .cons a r => .cons a (RpA.take n r)
theorem RpA.drop : ∀ {vs : List V} {ds : List D} (n : Nat), RpA H h vs ds → RpA H h (vs.drop n) (ds.drop n)
  | _, _, 0, r => r
  | _, _, _ + 1, .nil => .nil
  | _, _, n + 1, .cons _ r => RpA.drop n r
/-- its type -/
theorem Rp.ty {K : PySem.W.Frag} {v : V} {d : D} (r : Rp H h v d) : TyX K H v (.type (tyOf d)) := by
  cases r with
  | non => exact .base .non
  | bl b => exact .base (.bl b)
  | int i => exact .base (.int i)
  | str x => exact .base (.str x)
  | tup e _ _ => exact .base (.tup e)
  | lst e _ => exact .base (.lst e)
  | dct e => exact .base (.dK e)
end
def isIB : D → Bool | .int _ => true | .bl _ => true | _ => false
def isB : D → Bool | .bl _ => true | _ => false
def isT : D → Bool | .tup _ => true | _ => false
theorem kitI (d : D) : kitB (tyOf d) "int" = some (isIB d) := by cases d <;> (simp only [tyOf, isIB]; decide +kernel)
theorem kitBo (d : D) : kitB (tyOf d) "bool" = some (isB d) := by cases d <;> (simp only [tyOf, isB]; decide +kernel)
theorem kitT (d : D) : kitB (tyOf d) "tuple" = some (isT d) := by cases d <;> (simp only [tyOf, isT]; decide +kernel)
def isInt : D → Bool | .int _ => true | _ => false
def isBtw (lo hi : Int) : D → Bool | .int i => decide (lo ≤ i) && decide (i ≤ hi) | _ => false
def areInts (n : Int) : D → Bool | .tup ds => decide ((ds.length : Int) = n) && ds.all isInt | _ => false
def areBtw (n lo hi : Int) : D → Bool | .tup ds => decide ((ds.length : Int) = n) && ds.all (isBtw lo hi) | _ => false
def neq2 : D → Bool | .tup (.int a :: .int b :: _) => !decide (a = b) | _ => false
def isBE (n : Int) (d : D) : Bool := areBtw 2 0 (n - 1) d && neq2 d
def areRoads (n : Int) : D → Bool | .tup ds => decide (1 ≤ ds.length) && decide (ds.length ≤ 24) && ds.all (isBE n) | _ => false
end Hc


set_option Elab.async false
set_option linter.all false
set_option maxRecDepth 100000
set_option maxHeartbeats 4000000
namespace L2
open PySem PySem.Spec PyProof.Rows
/-- x - j, x an int or a bool -/
def rSubA : R2 := fun x y H Q => (∃ i j, x = .int i ∧ y = .int j ∧ Q (.int (i - j)) H) ∨ ∃ b j, x = .bl b ∧ y = .int j ∧ Q (.int ((if b = true then (1 : Int) else 0) - j)) H
theorem op_subA {X : Cx} : OpR X (binaryOp .Sub) rSubA := by
  intro pins s σ H x y v u Q I rx ry h
  rcases h with ⟨i, j, rfl, rfl, q⟩ | ⟨b, j, rfl, rfl, q⟩
  · exact op_sub pins s σ H _ _ v u Q I rx ry ⟨i, j, rfl, rfl, q⟩
  · cases rx
    obtain ⟨t, rfl⟩ := ry
    exact PySem.IntBool.sub_bool_int ⟨.int _, H, I.tok _, ⟨_, rfl⟩, q⟩
/-- t * 1 is t -/
theorem tuple_mul1 (l : Addr) (items : Array Value) (n : Nat) (dd : Option Addr) (sl : Array (Option Value)) (u : Tok) :
    Meets (Builtin.«tuple.__mul__» ⟨[.ref l, .int 1 u], []⟩) (fun _ R s => s.heap.get? l = some { cls := .type "tuple", dict := dd, data := .seq items n, slots := sl } ∧
      R (.ok (.ret (Value.ref l))) s) :=
  .of_wp fun prog w A R s h => by
    obtain ⟨hp, g, d, tk, os⟩ := s
    obtain ⟨hl, h⟩ := h
    have f1 := AutoSeq1.idx_int
    have c0 : (decide ((1 : Int) < -(2 ^ 63)) || decide ((1 : Int) ≥ 2 ^ 63)) = false := by decide
    have c1 : (items.isEmpty || ((1 : Int) == 1)) = true := by rw [Bool.or_eq_true]; exact .inr rfl
    wp_walk using wpAny_loadPart' hl
    repeat (first
      | (refine wpAny_ite_false (decide_eq_false (by rw [c0]; exact Bool.false_ne_true)) ?_; wp_walk using wpAny_loadPart' hl)
      | (refine wpAny_ite_true (decide_eq_true c1) ?_; wp_walk using wpAny_loadPart' hl))
    exact ⟨_, rfl, h⟩
def rRepA (K : PySem.W.Frag) : R2 := fun x y H Q => ∃ l k xs, x = .ref l ∧ y = .int k ∧ SqT K H l xs ∧ xs ≠ [] ∧ 1 ≤ k ∧ k ≤ 1000 ∧ xs.length ≤ 1000 ∧
  (k = 1 → Q (.ref l) H) ∧ (2 ≤ k → ∀ p, H p = none → Q (.ref p) (upd H p (.tup (List.replicate k.toNat xs).flatten)))
theorem op_repA {X : Cx} : OpR X (binaryOp .Mult) (rRepA X.K) := by
  intro pins s σ H x y v u Q I rx ry h
  obtain ⟨l, k, xs, rfl, rfl, hT, hne, h1, h2, hz, q1, q2⟩ := h
  by_cases h3 : 2 ≤ k
  · exact op_repT pins s σ H _ _ v u Q I rx ry ⟨l, k, xs, rfl, rfl, hT, hne, h3, h2, hz, q2 h3⟩
  · obtain rfl : k = 1 := by omega
    cases rx
    obtain ⟨t, rfl⟩ := ry
    obtain ⟨its, r, ⟨⟨cls, dd, data, sl⟩, ho, hc, n, hd⟩, hs⟩ := I.tuple hT
    simp only at hc hd
    subst hc hd
    exact wpAny_binaryOp_repeat_ref (T := "tuple") (U := "int") (by decide) ⟨_, ho, rfl⟩ (fun s' => typeIs_int s' 1 t) noFill_tuple_mul F.fills_int_mul F.slot_int_rmul repeat_tuple F.slot_int_index.lookup
      (call_meets F.slot_int_rmul (typeIs_int s 1 t) F.entry_int_rmul (F.args_int_rmul_2 _ _) (int_rmul_tuple 1 t l its.toArray n dd sl)
        ⟨ho, rfl, ⟨_, ho, rfl⟩, call_meets F.slot_tuple_mul ⟨_, ho, rfl⟩ F.entry_tuple_mul (F.args_tuple_mul_2 _ _) (tuple_mul1 l its.toArray n dd sl t) ⟨ho, ⟨.ref l, H, I, rfl, q1 rfl⟩⟩⟩)
/-- C(e, ..) where what is raised is wished for at the caller's slots -/
def tMakeS (C : Addr) (sp : Sp) (dvs : List V) (E : St → XK) (t : TA) : TE := fun σ H Q => t σ H fun vs H1 => ∀ x dx, H1 x = none → H1 dx = none → dx ≠ x →
  sp (.ref x :: (vs ++ dvs)) (upd (upd H1 dx (.own x)) x (.ins C dx [])) (fun v H2 => v = .non ∧ Q (.ref x) H2) (E σ)
section
variable {X : Cx} {CX : CXT} {k : Nat} {f C : Addr} {fd : FuncData} {ps : List Str} {sp : Sp} {dvs : List V} {ds : List Value} {E : St → XK} {x m : Str} {p pos apos : Pos} {e o : Expr} {es : List Expr} {ta : TE} {t : TA}
theorem pe_makeS (M : Mk X.K C f) (F : FnOk X.prog X.w X.K X.mg X.base CX k f fd ps sp) (hr : Room (k + 1) X.A) (hg : Gl X x) (hm : X.mg x = some (.ref C)) (hb : Binds X.K fd ps ds) (hd : Vals dvs ds) (hx : ∀ σ, PassesAt CX X σ (E σ))
    (ha : PA X (e :: es) t) (hdb : (x == ("__debug__" : Str)) = false := by decide) (he : starEach (e :: es) X.env = (false, eval e X.env) :: starEach es X.env := by rfl) (hpl : (backTo pos (starEach es X.env)).any (·.1) = false := by rfl) :
    PE X (.Call (.Name x p) (e :: es) [] pos) (tMakeS C sp dvs E t) := by
  refine ⟨fun pins s0 σ H0 Q I0 h0 => ?_⟩
  refine wpAny_Call_Name_kw (ld_glob I0 hg hm ?_ hdb)
  refine PySem.W.callWith_K (h₀ := X.base) I0.ok.mod.kin M.kp (thn (ha.run pos pins s0 σ H0 _ I0 h0) fun us s ⟨vs, H, I, r, h⟩ => ⟨I.kIn, ?_⟩) he hpl
  have hq := h (s.heap.objs.size + 1) s.heap.objs.size (I.hok.fresh (Nat.le_succ _)) (I.hok.fresh (Nat.le_refl _)) (Nat.ne_of_lt (Nat.lt_succ_self _))
  have I2 := Inv.made (C := C) I
  have r2 : Vals (V.ref (s.heap.objs.size + 1) :: (vs ++ dvs)) (Value.ref (s.heap.objs.size + 1) :: (us ++ ds)) := .cons rfl (r.append hd)
  have hl : (Value.ref (s.heap.objs.size + 1) :: us ++ ds).length = ps.length := by
    have e := r2.length
    rw [F.len _ _ _ _ hq] at e
    exact e.symm
  refine wpAny_call (make_map (f := f) I.kIn M.makes M.init (beq_iff_eq.mp M.fn) (codeAny_mono (F.run _ X.stack _ _ ⟨Value.ref (s.heap.objs.size + 1) :: us, []⟩ (Value.ref (s.heap.objs.size + 1) :: (us ++ ds)) _ _ (E σ) (hr.make C us [])
    (I2.env0.make C us []) (hb _ (Value.ref (s.heap.objs.size + 1) :: us) I2.kIn hl) r2 hq) fun r s' hq' => ?_))
  cases r with
  | error e => exact hx σ pins _ _ e s' I2 hq'
  | ok fl =>
    cases fl with
    | ret u =>
      obtain ⟨v, H', I3, rv, ev, q3⟩ := I2.after hq'
      subst ev
      exact ⟨rv, ⟨V.ref (s.heap.objs.size + 1), H', I3, rfl, q3⟩⟩
    | next => exact False.elim hq'
    | brk => exact False.elim hq'
    | cont => exact False.elim hq'
end
end L2
/-! ### Hc -/
namespace Hc
open PySem L2
theorem line_lt {n : Nat} (h : n ≤ 100000) : n < sizeLine := by rw [sizeLine_eq]; omega
theorem line_le {n : Nat} (h : n ≤ 100000) : n ≤ sizeLine := by rw [sizeLine_eq]; omega
theorem take_more {α : Type} : ∀ {l : List α} {i : Nat} {x : α}, l[i]? = some x → l.take (i + 1) = l.take i ++ [x]
  | [], i, x, h => by simp at h
  | a :: l, 0, x, h => by
    have e : a = x := Option.some.inj h
    subst e
    rfl
  | a :: l, i + 1, x, h => by
    have ih := take_more (l := l) (i := i) (x := x) h
    show a :: l.take (i + 1) = a :: l.take i ++ [x]
    rw [ih]
    rfl
/-- [p(x) for x in t]: the list of the answers -/
theorem all_tup {K : PySem.W.Frag} {H : Hp} {h a A : Addr} {xs : List V} {ds : List D} {j : Nat} {te : TE} {σ : St} {vs : List Nat} {Qd : Hp → Prop}
    (e : H a = some (.tup xs)) (z : xs.length ≤ 100000) (ra : RpA H h xs ds) (p : D → Bool) (hA : H A = none)
    (hw : ∀ x, wipe ((wipe σ vs).set j (some x)) vs = wipe σ vs)
    (hs : ∀ x d H' (Q : VK), d ∈ ds → Same H H' → Rp H' h x d → (∀ H4, Same H' H4 → Q (.bl (p d)) H4) → te ((wipe σ vs).set j (some x)) H' Q)
    (hd : ∀ H', Same H H' → SqL K H' A ((ds.map p).map V.bl) → Qd H') :
    ∃ W : Nat → Nat → Hp → Prop, (∃ m, W 0 m (upd H A (.lst []))) ∧ ∀ i m H, W i m H →
      ((Itt K a).stop i H ∧ Qd H) ∨ ((Itt K a).go i H ∧ ∃ Nx : Hp → Prop, (∀ H', Nx H' → ∃ m', m' < m ∧ W (i + 1) m' H') ∧ ∀ x H', (Itt K a).yld i H x H' → (gName j) x (wipe σ vs) H' fun σ2 H2 => wipe σ2 vs = wipe σ vs ∧ tYes σ2 H2 fun b H3 =>
        if b = true then te σ2 H3 fun y H4 => ∃ acc, H4 A = some (.lst acc) ∧ acc.length < sizeLine ∧ Nx (upd H4 A (.lst (acc ++ [y]))) else Nx H3) := by
  have hl := ra.len
  refine lc_tup (K := K) (xs := xs) (fun i H' => Same H (fun b => if b = A then none else H' b) ∧ H' A = some (.lst (((ds.take i).map p).map V.bl)))
    ⟨fun b o q => ?_, upd_same⟩ (fun i H' hi ⟨s, _⟩ => ?_) ?_ ?_
  · have n := ne_of_none q hA
    show (if b = A then none else upd H A _ b) = _
    rw [if_neg n, upd_ne n]; exact q
  · have q := s _ _ e
    have n := ne_of_none e hA
    simp only [if_neg n] at q
    exact SqT.of q
  · intro i x H' hx ⟨s, hH⟩
    have sm : Same H H' := fun b o q => by
      have r := s b o q
      simp only [if_neg (ne_of_none q hA)] at r
      exact r
    obtain ⟨d, hd1, rp⟩ := ra.get hx
    have hi : i < xs.length := (List.getElem?_eq_some_iff.mp hx).1
    refine ⟨hw x, ?_⟩
    unfold tYes
    show (if true = true then te _ _ _ else _)
    rw [if_pos rfl]
    refine hs x d H' _ (List.mem_of_getElem? hd1) sm (rp.same sm) fun H4 s4 => ⟨_, s4 _ _ hH, ?_, ?_, ?_⟩
    · rw [List.length_map, List.length_map, List.length_take]
      exact line_lt (by omega)
    · intro b o q
      have n := ne_of_none q hA
      show (if b = A then none else upd H4 A _ b) = _
      rw [if_neg n, upd_ne n]
      exact s4 _ _ (sm _ _ q)
    · rw [upd_same, take_more hd1, List.map_append, List.map_append]; rfl
  · intro H' ⟨s, hH⟩
    have sm : Same H H' := fun b o q => by
      have r := s b o q
      simp only [if_neg (ne_of_none q hA)] at r
      exact r
    rw [hl, List.take_length] at hH
    exact hd H' sm (SqL.of hH)
/-- [x for x in t if not p(x)]: as many as are none -/
theorem none_tup {K : PySem.W.Frag} {H : Hp} {h a A : Addr} {xs : List V} {ds : List D} {j : Nat} {te : TE} {tt : TT} {σ : St} {vs : List Nat} {Qd : Hp → Prop}
    (e : H a = some (.tup xs)) (z : xs.length ≤ 100000) (ra : RpA H h xs ds) (p : D → Bool) (hA : H A = none)
    (hw : ∀ x, wipe ((wipe σ vs).set j (some x)) vs = wipe σ vs)
    (hs : ∀ x d H' (Q : Bool → Hp → Prop), d ∈ ds → Same H H' → Rp H' h x d → (∀ H4, Same H' H4 → Q (!p d) H4) → tt ((wipe σ vs).set j (some x)) H' Q)
    (ht : ∀ x H' (Q : VK), Same H H' → (∀ y, Q y H') → te ((wipe σ vs).set j (some x)) H' Q)
    (hd : ∀ H' acc, Same H H' → SqL K H' A acc → acc.length ≤ 100000 → (acc.length = 0 ↔ ds.all p = true) → Qd H') :
    ∃ W : Nat → Nat → Hp → Prop, (∃ m, W 0 m (upd H A (.lst []))) ∧ ∀ i m H, W i m H →
      ((Itt K a).stop i H ∧ Qd H) ∨ ((Itt K a).go i H ∧ ∃ Nx : Hp → Prop, (∀ H', Nx H' → ∃ m', m' < m ∧ W (i + 1) m' H') ∧ ∀ x H', (Itt K a).yld i H x H' → (gName j) x (wipe σ vs) H' fun σ2 H2 => wipe σ2 vs = wipe σ vs ∧ tt σ2 H2 fun b H3 =>
        if b = true then te σ2 H3 fun y H4 => ∃ acc, H4 A = some (.lst acc) ∧ acc.length < sizeLine ∧ Nx (upd H4 A (.lst (acc ++ [y]))) else Nx H3) := by
  have hl := ra.len
  refine lc_tup (K := K) (xs := xs) (fun i H' => Same H (fun b => if b = A then none else H' b) ∧ ∃ acc, H' A = some (.lst acc) ∧ acc.length ≤ i ∧ (acc.length = 0 ↔ (ds.take i).all p = true))
    ⟨fun b o q => ?_, [], upd_same, Nat.le_refl _, by simp⟩ (fun i H' hi ⟨s, _⟩ => ?_) ?_ ?_
  · have n := ne_of_none q hA
    show (if b = A then none else upd H A _ b) = _
    rw [if_neg n, upd_ne n]; exact q
  · have q := s _ _ e
    have n := ne_of_none e hA
    simp only [if_neg n] at q
    exact SqT.of q
  · intro i x H' hx ⟨s, acc, hH, h1, h2⟩
    have sm : Same H H' := fun b o q => by
      have r := s b o q
      simp only [if_neg (ne_of_none q hA)] at r
      exact r
    obtain ⟨d, hd1, rp⟩ := ra.get hx
    have hi : i < xs.length := (List.getElem?_eq_some_iff.mp hx).1
    refine ⟨hw x, hs x d H' _ (List.mem_of_getElem? hd1) sm (rp.same sm) fun H4 s4 => ?_⟩
    cases hp : p d with
    | false =>
      rw [if_pos (by decide)]
      refine ht x H4 _ (fun b o q => s4 _ _ (sm _ _ q)) fun y => ⟨_, s4 _ _ hH, line_lt (by omega), fun b o q => ?_, _, upd_same, ?_, ?_⟩
      · have n := ne_of_none q hA
        show (if b = A then none else upd H4 A _ b) = _
        rw [if_neg n, upd_ne n]
        exact s4 _ _ (sm _ _ q)
      · rw [List.length_append, List.length_singleton]; omega
      · rw [List.length_append, List.length_singleton, take_more hd1, List.all_append]
        simp [hp]
    | true =>
      rw [if_neg (by decide)]
      refine ⟨fun b o q => ?_, acc, s4 _ _ hH, by omega, ?_⟩
      · have n := ne_of_none q hA
        show (if b = A then none else H4 b) = _
        rw [if_neg n]
        exact s4 _ _ (sm _ _ q)
      · rw [take_more hd1, List.all_append, h2]
        simp [hp]
  · intro H' ⟨s, acc, hH, h1, h2⟩
    have sm : Same H H' := fun b o q => by
      have r := s b o q
      simp only [if_neg (ne_of_none q hA)] at r
      exact r
    rw [hl, List.take_length] at h2
    exact hd H' acc sm (SqL.of hH) (by omega) h2
end Hc


set_option Elab.async false
set_option linter.all false
set_option maxRecDepth 100000
set_option maxHeartbeats 4000000
set_option autoImplicit false
namespace PySem
open Sem (wp)
open AutoSeq1 (wpAny_loadPart')
theorem meets_enumerate_newT (l : Addr) (items : Array Value) (n : Nat) (dct : Option Addr) (sl : Array (Option Value)) :
    Meets (Builtin.«enumerate.__new__» ⟨[.type "enumerate", .ref l], []⟩) (fun _ R s => s.heap.get? l = some { cls := .type "tuple", dict := dct, data := .seq items n, slots := sl } ∧
      R (.ok (.ret (.ref (s.heap.push { cls := .type "tuple_iterator", data := .fields #[.ref l, .int 0 0] }).objs.size)))
        { s with heap := (s.heap.push { cls := .type "tuple_iterator", data := .fields #[.ref l, .int 0 0] }).push { cls := .type "enumerate", data := .fields #[.none, .bool false, .ref s.heap.objs.size, rawInt 0, .none, .none] } }) :=
  .of_wp fun prog w A R s h => by
    obtain ⟨hp, g, d, tk, os⟩ := s; obtain ⟨hl, h⟩ := h
    have hsub := sub_enumerate
    have hL : Heap.IsTuple (Shared.heap ⟨hp, g, d, tk, os⟩) l items := ⟨_, hl, rfl, n, rfl⟩
    wp_walk using wpAny_loadPart' hl
    refine wpAny_stack_any fun st => wpAny_pure ?_
    split
    · rename_i c _ _ _ _ _
      cases (c == Value.type "enumerate")
      · wp_walk using wpAny_loadPart' hl, wpAny_pyIter_tuple hL
        exact ⟨_, rfl, h⟩
      · wp_walk using wpAny_loadPart' hl, wpAny_pyIter_tuple hL
        exact ⟨_, rfl, h⟩
    · wp_walk using wpAny_loadPart' hl, wpAny_pyIter_tuple hL
      exact ⟨_, rfl, h⟩
section
variable {prog : Program} {w : World} {A : Around} {E : Value → Shared → Prop} {s : Shared}
theorem call_enumerate_tuple {l : Addr} {items : Array Value} {Q : Value → Shared → Prop} (hL : s.heap.IsTuple l items)
    (h : ∀ h', IsEnum h' (s.heap.objs.size + 1) s.heap.objs.size 0 .none → h'.IsTupleIter s.heap.objs.size l 0 → h'.objs.size = s.heap.objs.size + 2 →
      (∀ b o, s.heap.get? b = some o → h'.get? b = some o) → Q (.ref (s.heap.objs.size + 1)) { s with heap := h' }) :
    wpAny (model prog w) A (call (.type "enumerate") [.ref l]) Q E s := by
  obtain ⟨⟨c, dct, dt, sl⟩, hl, hc, n, hd⟩ := hL
  replace hc : c = .type "tuple" := hc
  replace hd : dt = .seq items n := hd
  subst hc hd
  refine callType_new F.called_enumerate (by decide) (F.typeCall_enumerate_1 _) (F.newCall_enumerate_1 _) (fun obj => F.args_object_init_2 obj _) F.entry_enumerate_new
    (meets_enumerate_newT l items n dct sl) ⟨hl, ?_⟩
  have hz : (s.heap.push { cls := .type "tuple_iterator", data := .fields #[.ref l, .int 0 0] }).objs.size = s.heap.objs.size + 1 := Heap.size_push ..
  show _ ∧ _
  rw [hz]
  have he : IsEnum ((s.heap.push { cls := .type "tuple_iterator", data := .fields #[.ref l, .int 0 0] }).push
      { cls := .type "enumerate", data := .fields #[.none, .bool false, .ref s.heap.objs.size, rawInt 0, .none, .none] }) (s.heap.objs.size + 1) s.heap.objs.size 0 .none := by
    have := Heap.get?_push_size (s.heap.push { cls := .type "tuple_iterator", data := .fields #[.ref l, .int 0 0] })
      (o := { cls := .type "enumerate", data := .fields #[.none, .bool false, .ref s.heap.objs.size, rawInt 0, .none, .none] }) rfl
    rw [hz] at this; exact this
  refine ⟨⟨_, he, rfl⟩, h _ he ⟨_, Heap.get?_push_of_some _ (Heap.get?_push_size _ rfl), rfl, rfl⟩ (by rw [Heap.size_push, hz]) fun b o x => Heap.get?_push_of_some _ (Heap.get?_push_of_some _ x)⟩
theorem wpAny_pyNext_enum_endT {e it l : Addr} {i : Nat} {items : Array Value} {old : Value} {Q : Option Value → Shared → Prop} (hh : A.handled = none)
    (he : IsEnum s.heap e it i old) (hit : s.heap.IsTupleIter it l i) (hl : s.heap.IsTuple l items) (hx : items[i]? = none)
    (hQ : ∀ h', Heap.ExtBut it s.heap h' → Q none { s with heap := h' }) : wpAny (model prog w) A (pyNext (.ref e)) Q E s := by
  have hT : s.TypeIs (.ref e) "enumerate" := ⟨_, he, rfl⟩
  unfold pyNext
  refine wpAny_bind (wpAny_attempt (wpAny_callSpecial?_slot (name := Str.ofString "__next__") hT F.slot_enumerate_next
    (wpAny_call_entry F.slot_enumerate_next hT F.entry_enumerate_next ?_ (F.args_enumerate_next_1 _))))
  show wpAny _ _ (field (.ref e) 2 >>= _) _ _ _
  refine wpAny_bind (wpAny_field he rfl (x := .ref it) rfl ?_)
  refine wpAny_bind (wpAny_nextOf_tuple_end hh hit hl hx fun h' x he' hx' => ?_)
  obtain ⟨o, ho, hc⟩ := hx'
  refine wpAny_bind (wpAny_isInstance (T := "StopIteration") (b := true) ⟨o, ho, hc⟩ isSubtype_stop ?_)
  exact wpAny_pure (hQ _ he')
end
end PySem
namespace L2
open PySem PySem.Spec PyProof.Rows
/-- the tuple at a as it stands at each turn, each item in a new pair with its number -/
def IteT (K : PySem.W.Frag) (a : Addr) : It :=
  ⟨fun i H => ∃ (xs : List V) (x : V), SqT K H a xs ∧ xs[i]? = some x, fun i H v H' => ∃ T x, v = .ref T ∧ H T = none ∧ H' = upd H T (.tup [.int (i : Nat), x]) ∧ ∀ xs, SqT K H a xs → xs[i]? = some x, fun i H => ∃ xs : List V, SqT K H a xs ∧ xs.length ≤ i⟩
theorem turn_enumT {P : Program} {w : World} {K : PySem.W.Frag} {elts : List Expr} {kk : Nat} {tpos : Pos} (a e it : Addr) :
    Turn P w K (.Tuple elts kk tpos) (IteT K a) [e, it] e (fun i h => (∃ old, IsEnum h e it ((i : Nat) : Int) old) ∧ h.IsTupleIter it a i ∧ e ≠ it ∧ a ≠ it ∧ e ≠ a) where
  mem := by simp
  obj := fun i h st b hb => by
    obtain ⟨⟨old, he⟩, ⟨o, ho, hc, hd⟩, _⟩ := st
    have e' : b = e ∨ b = it := by simpa using hb
    rcases e' with z | z
    · rw [z]; exact ⟨_, he, fun v q => nomatch q⟩
    · rw [z]; exact ⟨o, ho, fun v q => by rw [hd] at q; cases q⟩
  keep := fun i h h' st k => let ⟨⟨old, he⟩, hi, hne⟩ := st; ⟨⟨old, k e (by simp) _ he⟩, hi.at fun o q => k it (by simp) o q, hne⟩
  item := by
    intro X hP hw hK hc i pins s σ H E I hf st hg
    subst hP hw hK
    obtain ⟨⟨old, he⟩, hit, hne, hai, hea⟩ := st
    obtain ⟨xs, x, hq, hx⟩ := hg
    obtain ⟨its, rv, p, hz⟩ := I.tuple hq
    obtain ⟨u, hu, ru⟩ := rv.get hx
    have hel : e < s.heap.objs.size := Heap.lt_size he
    have hil : it < s.heap.objs.size := by obtain ⟨_, q, _⟩ := hit; exact Heap.lt_size q
    have hlt : i < its.toArray.size := by
      rw [List.size_toArray]
      exact (List.getElem?_eq_some_iff.mp hu).1
    refine wpAny_pyNext_enum_itemD (Draws.tuple (A := X.A.in1) (I.ok.hd hc) it a hai its.toArray) he ⟨hit, p⟩ hlt hne (by simp [hne, hea]) fun x' h' tk hx' ho st' hT hsz hk => ?_
    obtain ⟨hit', _⟩ := st'
    obtain rfl : x' = u := by
      have q : its[i]? = some x' := by simpa using hx'
      rw [hu] at q
      exact (Option.some.inj q).symm
    refine ⟨_, rfl, wpAny_letOwnedTupleGo_enum (s := { s with heap := h', toks := tk + 1 }) ho fun h'' he' sb => ?_⟩
    have hT2 : h''.get? s.heap.objs.size = some { cls := .type "tuple", data := .seq #[.int i tk, x'] } := (sb.2 _ (Nat.ne_of_gt hel)).trans hT
    have new : ObjOk X.prog X.w (upd H s.heap.objs.size (.tup [.int (i : Nat), x])) h'' s.heap.objs.size (.tup [.int (i : Nat), x]) :=
      ⟨by show 2 ≤ sizeLine; decide, [.int i tk, x'], .cons ⟨_, rfl⟩ (.cons ru .nil), ⟨_, hT2, rfl, _, rfl⟩⟩
    have I1 : Inv X pins σ (upd H s.heap.objs.size (.tup [.int (i : Nat), x])) { s with heap := h'', toks := tk + 1 } :=
      I.turnedNew (ch := [e, it]) (fun b ob hb q => (sb.2 b (fun z => hb (by simp [z]))).trans (hk b ob (fun z => hb (by simp [z])) (fun z => hb (by simp [z])) q)) hf (Nat.le_refl _) new
    refine ⟨.ref s.heap.objs.size, _, I1, rfl, ⟨_, x, rfl, I.hok.fresh (Nat.le_refl _), rfl, fun ys hy => by rw [I.tuple_inj hy hq]; exact hx⟩, ⟨⟨x', ?_⟩, hit'.at fun o q => (sb.2 it (Ne.symm hne)).trans q, hne, hai, hea⟩, fun b hb => ?_⟩
    · have e1 : ((i + 1 : Nat) : Int) = (i : Int) + 1 := by omega
      rw [e1]; exact he'
    · have hb' : b < s.heap.objs.size := by
        have e' : b = e ∨ b = it := by simpa using hb
        rcases e' with z | z
        · rw [z]; exact hel
        · rw [z]; exact hil
      rw [upd_ne (Nat.ne_of_lt hb')]
      exact (hf b hb).1
  done := by
    intro X hP hw hK hc i pins s σ H E I hf st hg
    subst hP hw hK
    obtain ⟨⟨old, he⟩, hit, hne, hai, hea⟩ := st
    obtain ⟨xs, hq, hx⟩ := hg
    obtain ⟨its, rv, p, hz⟩ := I.tuple hq
    obtain ⟨f0, f1, f2, f3, f4, f5⟩ := hf it (by simp)
    have hl := rv.length
    exact wpAny_pyNext_enum_endT (I.ok.hd hc) he hit p (by simp; omega) fun h' eb => ⟨rfl, I.turned (t' := s.toks) (fun b o hb q => eb b o hb q) f0 f1 f3 f4 f5⟩
  self := fun A i s Q E st h => let ⟨⟨_, he⟩, _⟩ := st; wpAny_pyIter_enum he h
def iEnumT (K : PySem.W.Frag) (ta : TA) : TI := fun σ H R => ta σ H fun vs H1 => ∃ a xs, vs = [.ref a] ∧ SqT K H1 a xs ∧ R (IteT K a) H1
theorem pi_enumT {X : Cx} {e : Expr} {ta : TA} {p pos tpos : Pos} {elts : List Expr} {kk : Nat} (hg : Gl X "enumerate") (hm : X.mg "enumerate" = none) (ha : PA X [e] ta) (hs : starEach [e] X.env = [(false, eval e X.env)] := by rfl) :
    PI X (.Tuple elts kk tpos) (.Call (.Name "enumerate" p) [e] [] pos) (iEnumT X.K ta) := by
  refine ⟨fun pins s σ H R I h => ?_⟩
  refine Call_ (ld_blt I hg hm boot_enumerate (PyProof.Rows.callWith_type1 (thn (ha.run pos pins s σ H _ I h) fun us s1 ⟨vs, H1, I1, r1, q1⟩ => ?_) hs rfl))
  obtain ⟨a, xs, ex, hq, q⟩ := q1
  subst ex
  cases r1 with
  | cons r rr =>
    cases rr
    cases r
    obtain ⟨its, rv, p', hz⟩ := I1.tuple hq
    have hal : a < s1.heap.objs.size := by obtain ⟨_, q, _⟩ := p'; exact Heap.lt_size q
    refine call_enumerate_tuple p' fun h' he hit hsz hk => wpAny_pyIter_enum he ?_
    have I2 : Inv X pins σ H1 { s1 with heap := h' } := I1.kept (t' := s1.toks) hk
    refine ⟨s1.heap.objs.size + 1, [s1.heap.objs.size + 1, s1.heap.objs.size], _, _, H1, rfl, I2, turn_enumT a (s1.heap.objs.size + 1) s1.heap.objs.size, ⟨⟨.none, he⟩, hit, Nat.succ_ne_self _, Nat.ne_of_lt hal, Ne.symm (Nat.ne_of_lt (Nat.lt_succ_of_lt hal))⟩, fun b hb => ?_, q⟩
    have e' : b = s1.heap.objs.size + 1 ∨ b = s1.heap.objs.size := by simpa using hb
    have hle : s1.heap.objs.size ≤ b := by
      rcases e' with z | z
      · rw [z]; exact Nat.le_add_right _ _
      · rw [z]; exact Nat.le_refl _
    exact I1.fpOk hle (I1.hok.fresh hle)
end L2


set_option Elab.async false
set_option linter.all false
set_option maxRecDepth 100000
set_option maxHeartbeats 4000000
set_option autoImplicit false
namespace L2
open PySem PySem.Spec PyProof.Rows
section
variable {X : Cx}
theorem mk_endN {pins : List (Addr × Obj)} {σ : St} {H1 H2 : Hp} {Q : XK} {hp hp2 h2 : Heap} {g1 g2 : Array GenState} {d1 d2 : Drawn} {t1 t2 : Nat} {os1 os2 : OsState} {a C : Addr} (T : Raises X (.ref C)) (I1 : Inv X pins σ H1 ⟨hp, g1, d1, t1, os1⟩)
    (ha : hp.objs.size ≤ a) (k : ∀ b o, hp.get? b = some o → hp2.get? b = some o) (un : Un (frs X.stack) [] (upd H1 a (exo a C none)) H2 hp2 h2) (hok : HOk X.prog X.w H2 h2) (ho : os2 = os1) (hb : AllBare g2)
    (e2 : H2 = upd H1 a (exo a C none)) (q : Q (.ref C) none H1) : MkP X pins σ Q (.ref a) ⟨h2, g2, d2, t2, os2⟩ := by
  have ea : H2 a = some (exo a C none) := by rw [e2]; exact upd_same
  obtain ⟨t0, hoe⟩ := exo_at hok ea
  have hn : H1 a = none := I1.hok.fresh ha
  obtain ⟨G, g1', g2'⟩ := restrict h2 fun b => decide (b ≠ a)
  have gk : ∀ b, b ≠ a → G.get? b = h2.get? b := fun b hb => g1' b (decide_eq_true hb)
  have ge : G.get? a = none := g2' a (by simp)
  have nha : ∀ {b : Addr} {o : Obj}, hp.get? b = some o → b ≠ a := fun {b o} z => Nat.ne_of_lt (Nat.lt_of_lt_of_le (Heap.lt_size z) ha)
  have up : ∀ {b : Addr}, b ≠ a → H1 b = none → upd H1 a (exo a C none) b = none := fun {b} hb n => by rw [upd_ne hb]; exact n
  have dn : del H2 a = H1 := by
    funext b
    by_cases z : b = a
    · subst z; rw [del_same, hn]
    · rw [del_ne z, e2, upd_ne z]
  have U : Un (frs X.stack) [] H1 (del H2 a) hp G := {
    keep := fun b o z n hf hx => by
      rw [gk b (nha z)]
      exact un.keep b o (k b o z) (up (nha z) n) hf hx
    slot := fun b o z n hf hx => by
      rw [gk b (nha z)]
      exact un.slot b o (k b o z) (up (nha z) n) hf hx
    free := fun b o z n hx => by
      rw [del_ne (nha z)]
      exact un.free b o (k b o z) (up (nha z) n) hx
    there := fun b o z hx => by
      rw [gk b (nha z)]
      exact un.there b o (k b o z) hx
    tups := fun b xs z => by
      rw [del_ne (ne_of_none z hn)]
      exact un.tups b xs (by rw [upd_ne (ne_of_none z hn)]; exact z)
    frzs := fun b o v z => by
      rw [del_ne (ne_of_none z hn)]
      exact un.frzs b o v (by rw [upd_ne (ne_of_none z hn)]; exact z)
    tbls := fun b ps z => by
      rw [del_ne (ne_of_none z hn)]
      exact un.tbls b ps (by rw [upd_ne (ne_of_none z hn)]; exact z) }
  have hok3 : HOk X.prog X.w (del H2 a) G := fun b o z => by
    have hba : b ≠ a := fun e => by
      rw [e, del_same] at z
      cases z
    rw [del_ne hba] at z
    have noa : ∀ {c : Addr}, H2 c = some (.own b) → c ≠ a := fun {c} hc => at_ne ea hc exo_own
    exact (hok b o z).stay (fun c v hc y => by
        have hca : c ≠ a := by
          rcases hc with hc | hc
          · rw [hc]
            exact hba
          · exact noa hc
        rw [gk c hca]
        exact y)
      (fun c hc => by rw [del_ne (noa hc)]; exact hc) (fun c xs hc => by rw [del_ne (at_ne ea hc exo_tup)]; exact hc)
  have J : Inv X pins σ (del H2 a) ⟨G, g2, d2, t2, os2⟩ := I1.call' (ch := []) ho U hok3 hb (fun b z => absurd z (by simp))
  rw [dn] at J
  refine ⟨a, _, _, ⟨G, g2, d2, t2, os2⟩, _, .ref C, none, rfl, J, fun b o z => ?_, ge, hoe, ⟨rfl, rfl⟩, rfl, rfl, hn, rfl, hb, T, q⟩
  by_cases hba : b = a
  · rw [hba, ge] at z
    cases z
  · exact (gk b hba).symm.trans z
/-- C() of an own exception whose __init__ does nothing -/
def spInitN : Sp := fun vs H Q _ => ∃ a : Addr, vs = [.ref a] ∧ Q .non H
def tMkN (C : Addr) : St → Hp → XK → Prop := fun _ H Q => Q (.ref C) none H
theorem pmk_oexN {CX : CXT} {x : Str} {C fI : Addr} {k : Nat} {fd : FuncData} {ps : List Str} {p pos : Pos} (T : OexC X.K C) (iC : PySem.W.findIn X.K (.ref C) "__init__" = some (some (.ref fI))) (tI : PySem.W.typeIn X.K (.ref fI) = some (.type "function"))
    (F1 : FnOk X.prog X.w X.K X.mg X.base CX k fI fd ps spInitN) (hr : Room (k + 1) X.A) (hb : Binds X.K fd ps []) (hx : Passes CX X (fun _ _ _ => False)) (hg : Gl X x) (hm : X.mg x = some (.ref C))
    (hdb : (x == ("__debug__" : Str)) = false := by decide) :
    PMk X (.Call (.Name x p) [] [] pos) (tMkN C) := by
  intro pins s1 σ H1 Q I1 h
  obtain ⟨nm, q, N, bs, bm, sn, sub, ab, col, dd, k0, k1, k2, k3, k5, hC, hbm⟩ := T.cls
  refine wpAny_Call_Name_kw (ld_glob I1 hg hm ?_ hdb)
  refine PySem.W.callWith_K0 I1.kIn T.kC ?_
  show wpAny _ _ (call (.ref C) []) _ _ _
  obtain ⟨hp, g, dr, tk, os⟩ := s1
  have hsz : hp.objs.size ≤ hp.objs.size + 1 := Nat.le_succ _
  have hn : H1 (hp.objs.size + 1) = none := I1.hok.fresh hsz
  have kk : ∀ b o, hp.get? b = some o → ((hp.push (PySem.W.kdv_tup [])).push (PySem.HandSPX.excO C hp.objs.size)).get? b = some o := fun b o e => Heap.get?_push_of_some _ (Heap.get?_push_of_some _ e)
  have hget : ((hp.push (PySem.W.kdv_tup [])).push (PySem.HandSPX.excO C hp.objs.size)).get? (hp.objs.size + 1) = some (PySem.HandSPX.excO C hp.objs.size) := by heap_get
  have I2 : Inv X pins σ (upd H1 (hp.objs.size + 1) (exo (hp.objs.size + 1) C none)) ⟨(hp.push (PySem.W.kdv_tup [])).push (PySem.HandSPX.excO C hp.objs.size), g, dr, tk, os⟩ :=
    I1.laid (t' := tk) (a := hp.objs.size + 1) (o := exo (hp.objs.size + 1) C none) (h' := (hp.push (PySem.W.kdv_tup [])).push (PySem.HandSPX.excO C hp.objs.size)) kk hsz (exo_ok hget)
  have hq : spInitN [V.ref (hp.objs.size + 1)] (upd H1 (hp.objs.size + 1) (exo (hp.objs.size + 1) C none)) (fun v H2 => v = .non ∧ H2 = upd H1 (hp.objs.size + 1) (exo (hp.objs.size + 1) C none)) (fun _ _ _ => False) := ⟨_, rfl, rfl, rfl⟩
  have r2 : Vals [V.ref (hp.objs.size + 1)] [Value.ref (hp.objs.size + 1)] := .cons rfl .nil
  have hl : ([Value.ref (hp.objs.size + 1)] ++ ([] : List Value)).length = ps.length := by
    rw [← F1.len _ _ _ _ hq]; rfl
  refine wpAny_call (PySem.HandSPX.call_own F.excBase_ValueError (fun Y => PySem.HandSPX.refsVE_contains Y bm hbm) (I1.kIn _ _ hC) (PySem.W.looks_findIn I1.kIn iC) (fun self => PySem.W.bind_fn I1.kIn self tI) (by show 0 ≤ sizeLine; decide)
    (codeAny_mono (F1.run _ X.stack _ _ ⟨[Value.ref (hp.objs.size + 1)], []⟩ [Value.ref (hp.objs.size + 1)] _ _ (fun _ _ _ => False) (hr.make C [] []) (I2.env0.make C [] []) (hb _ [Value.ref (hp.objs.size + 1)] I2.kIn hl) r2 hq) fun r s' hq' => ?_))
  cases r with
  | error er => exact hx pins σ _ _ er s' I2 hq'
  | ok fl =>
    cases fl with
    | ret u =>
      obtain ⟨v, H2, os2, bare2, un2, hok2, rv, ev, e2⟩ := hq'
      subst ev
      obtain ⟨h2, g2, d2, t2, os'⟩ := s'
      exact ⟨rv, mk_endN (raises_own T.exC T.tyC) I1 hsz kk un2 hok2 os2 bare2 e2 h⟩
    | next => exact False.elim hq'
    | brk => exact False.elim hq'
    | cont => exact False.elim hq'
end
end L2


set_option Elab.async false
set_option linter.all false
set_option maxRecDepth 100000
set_option maxHeartbeats 1000000
set_option autoImplicit false
namespace HT
open PySem PySem.Spec PyProof.Rows
section
variable {prog : Program} {w : World} {A : Around} {E : Value → Shared → Prop} {s : Shared}
theorem adjust_rev (n : Nat) : Builtin.Slice.sliceAdjust none none (-1) (n : Int) = ((n : Int) - 1, -1) := by
  unfold Builtin.Slice.sliceAdjust
  have h1 : ((-1 : Int) < 0) := by omega
  simp only [h1, if_true]
theorem places_rev (n : Nat) : Builtin.Slice.slicePlaces ((n : Int) - 1) (-1) (-1) = n := by
  unfold Builtin.Slice.slicePlaces
  have h1 : ¬ ((-1 : Int) > 0) := by omega
  simp only [h1, if_false]
  split <;> (try simp) <;> omega
theorem sliceApplied_rev {sl : Addr} {n : Nat} {t : Tok} {Q : Int × Int × Nat → Shared → Prop} (hs : s.heap.IsSliceOf sl .none .none (.int (-1) t))
    (h : Q ((n : Int) - 1, -1, n) s) : wpAny (model prog w) A (Builtin.Slice.sliceApplied (.ref sl) (pure (n : Int))) Q E s := by
  obtain ⟨os, hos, hcs, hds⟩ := id hs
  unfold Builtin.Slice.sliceApplied Builtin.Slice.sliceFields
  refine wpAny_bind (wpAny_bind (wpAny_field hos hds (x := .none) rfl (wpAny_bind (wpAny_field hos hds (x := .none) rfl (wpAny_bind (wpAny_field hos hds (x := .int (-1) t) rfl (wpAny_pure ?_)))))))
  refine wpAny_bind (slicePart_ (.int (-1) t) ?_)
  show wpAny _ _ (if ((-1 : Int) == 0) = true then _ else _) _ _ s
  rw [if_neg (by decide)]
  refine wpAny_bind (slicePart_ .none (wpAny_bind (slicePart_ .none (wpAny_bind (wpAny_pure ?_)))))
  show wpAny _ _ (match Builtin.Slice.sliceAdjust none none (-1) (n : Int) with | (lo, hi) => pure (lo, (-1 : Int), Builtin.Slice.slicePlaces lo hi (-1))) _ _ s
  rw [adjust_rev n]
  show wpAny _ _ (pure ((n : Int) - 1, (-1 : Int), Builtin.Slice.slicePlaces ((n : Int) - 1) (-1) (-1))) _ _ s
  rw [places_rev]
  exact wpAny_pure h
theorem fm_congr {α β : Type} {f g : α → Option β} : ∀ l : List α, (∀ x ∈ l, f x = g x) → l.filterMap f = l.filterMap g
  | [], _ => rfl
  | x :: l, h => by
    have e := h x List.mem_cons_self
    have r := fm_congr l fun y hy => h y (List.mem_cons_of_mem _ hy)
    rw [List.filterMap_cons, List.filterMap_cons, e, r]
theorem pick_rev (xs : Array Value) : ((List.range xs.size).filterMap fun (m : Nat) => xs[(((xs.size : Int) - 1) + (m : Int) * (-1)).toNat]?).toArray = xs.toList.reverse.toArray := by
  have e : (List.range xs.size).filterMap (fun (m : Nat) => xs[(((xs.size : Int) - 1) + (m : Int) * (-1)).toNat]?) = (List.range xs.size).filterMap ((xs[·]?) ∘ fun k => xs.size - 1 - k) :=
    fm_congr _ fun m hm => by
      have hm := List.mem_range.mp hm
      have e1 : (((xs.size : Int) - 1) + (m : Int) * (-1)).toNat = xs.size - 1 - m := by omega
      rw [e1]; rfl
  rw [e, ← List.filterMap_map, PySem.W.krv_range, List.filterMap_reverse, PySem.W.krv_all]
theorem getItem_tuple_rev {t sl : Addr} {items : Array Value} {u : Tok} {Q : Value → Shared → Prop} (ht : IsTup s.heap t items) (hs : s.heap.IsSliceOf sl .none .none (.int (-1) u))
    (h : Q (.ref s.heap.objs.size) { s with heap := s.heap.push { cls := .type "tuple", data := .seq items.toList.reverse.toArray } })
    (hsz : items.size ≤ sizeLine) : wpAny (model prog w) A (getItem (.ref t) (.ref sl)) Q E s := by
  have htake : sizeOk (.seq items.toList.reverse.toArray) := by
    show items.toList.reverse.toArray.size ≤ sizeLine
    rw [List.size_toArray, List.length_reverse, Array.length_toList]
    omega
  obtain ⟨os, hos, hcs, hds⟩ := id hs
  have hTs : s.TypeIs (.ref sl) "slice" := ⟨os, hos, hcs⟩
  unfold getItem
  try with_reducible refine wpAny_holding ?_
  first | refine wpAny_bind (wpAny_pure ?_) | skip
  refine wpAny_bind (wpAny_sequenceKey ht.typeIs (by decide) ?_)
  refine wpAny_bind (wpAny_callSpecial?_slot (name := Str.ofString "__getitem__") ht.typeIs PyProof.Rows.slot_tuple_getitem
    (wpAny_call_entry PyProof.Rows.slot_tuple_getitem ht.typeIs entry_tuple_getitem ?_ (args_tuple_getitem _ _)))
  show wpAny _ _ (Builtin.Tuple.tupleItemsOf (.ref t) >>= _) _ _ s
  refine wpAny_bind (tupleItemsOf_ ht ?_)
  refine wpAny_bind (wpAny_typeOf hTs ?_)
  rw [if_pos (by decide)]
  refine wpAny_bind (sliceApplied_rev hs ?_)
  have hno : ¬ ((((items.size : Int) - 1) == 0 && (-1 : Int) == 1 && items.size == items.size) = true) := by
    intro q
    rw [Bool.and_eq_true, Bool.and_eq_true] at q
    exact absurd q.1.2 (by decide)
  show wpAny _ _ (if (((items.size : Int) - 1) == 0 && (-1 : Int) == 1 && items.size == items.size) = true then _ else _) _ _ s
  rw [if_neg hno, pick_rev]
  first
    | exact wpAny_bind (m := Builtin.Tuple.tupleExact _) (wpAny_newObj_type (wpAny_pure ⟨_, rfl, wpAny_pure h⟩) htake)
    | exact wpAny_bind (m := Builtin.Tuple.tupleExact _) (wpAny_newObj_type (wpAny_bind (wpAny_pure (wpAny_pure ⟨_, rfl, wpAny_pure h⟩))) htake)
    | exact wpAny_bind (wpAny_bind (m := Builtin.Tuple.tupleExact _) (wpAny_newObj_type (wpAny_pure (wpAny_pure ⟨_, rfl, wpAny_pure h⟩)) htake))
    | exact wpAny_bind (wpAny_bind (m := Builtin.Tuple.tupleExact _) (wpAny_newObj_type (wpAny_pure ⟨_, rfl, wpAny_pure h⟩) htake))
end
end HT
namespace L2
open PySem PySem.Spec PyProof.Rows
section
variable {X : Cx}
/-- set(t), t a tuple of ints -/
def rSetT (K : PySem.W.Frag) (w : World) : List V → Hp → VK → Prop := fun xs H Q => ∃ (l : Addr) (ns : List Int), xs = [.ref l] ∧ SqT K H l (ns.map V.int) ∧ ns.length ≤ 1000 ∧
  ∀ a n, n ≤ ns.length → H a = none → Q (.ref a) (upd H a (SetO w a (fun j => decide (j ∈ ns)) n))
theorem cr_setT (hc : X.calm = true) : CallR X (.type "set") (rSetT X.K X.w) := by
  intro pins s σ H xs us Q I r h
  obtain ⟨l, ns, rfl, hq, hl, q⟩ := h
  obtain ⟨u, rfl, ru⟩ := vals1 r
  cases ru
  obtain ⟨its, rv, pt, hz⟩ := I.tuple hq
  have hi : IntsAre its.toArray.toList ns := ints_of_vals rv
  refine call_set_tupI ns (I.ok.hd hc) (show s.heap.IsTuple l its.toArray from pt) hi (by unfold scanBound; omega) fun h' tk c R1 hcn k => ?_
  exact ⟨.ref s.heap.objs.size, _, I.laid (t' := tk) (h' := h') (o := SetO X.w s.heap.objs.size (fun j => decide (j ∈ ns)) c) k (Nat.le_refl _) (setO_new R1), rfl, q _ c hcn (I.hok.fresh (Nat.le_refl _))⟩
def tRevT (K : PySem.W.Frag) (te : TE) : TE := fun σ H Q => te σ H fun x H1 => ∃ a xs, x = .ref a ∧ SqT K H1 a xs ∧ ∀ p, H1 p = none → Q (.ref p) (upd H1 p (.tup xs.reverse))
theorem pe_revT {e : Expr} {te : TE} {k : Nat} {p1 p2 p3 pos : Pos} (he : PE X e te) : PE X (.Subscript e (.Slice none none (some (.UnaryOp .USub (.Constant (.int 1) k p1) p2)) p3) pos) (tRevT X.K te) := by
  refine ⟨fun pins s σ H Q I h => ?_⟩
  refine Subscript_ (thn (he.run pins s σ H _ I h) fun v s1 ⟨x, H1, I1, r1, q1⟩ => ?_)
  obtain ⟨a, xs, ex, hx, q⟩ := q1
  subst ex
  cases r1
  have hst : PO X (some (.UnaryOp .USub (.Constant (.int 1) k p1) p2)) (tPart (tUn (rU fun i => .int (-i)) (tC (.int 1)))) := po_some (pe_un un_neg pe_int)
  refine wpAny_Slice (thn (po_none.run pins s1 σ H1 (fun o H2 => o = none ∧ H2 = H1) I1 ⟨rfl, rfl⟩) fun vl s2 ⟨l, H2, I2, pl, el, e2⟩ => ?_)
  subst el e2
  refine thn (po_none.run pins s2 σ H2 (fun o H3 => o = none ∧ H3 = H2) I2 ⟨rfl, rfl⟩) fun vu s3 ⟨u, H3, I3, pu, eu, e3⟩ => ?_
  subst eu e3
  refine thn (hst.run pins s3 σ H3 (fun o H4 => o = some (-1) ∧ H4 = H3) I3 ⟨1, rfl, -1, rfl, rfl, rfl⟩) fun vs s4 ⟨o, H4, I4, ps, eo, e4⟩ => ?_
  subst eo e4
  cases pl
  cases pu
  cases ps with
  | int _ tt =>
  have I5 : Inv X pins σ H4 { s4 with heap := s4.heap.push { cls := .type "slice", data := .fields #[.none, .none, .int (-1) tt] } } := I4.kept (t' := s4.toks) fun b ob q => Heap.get?_push_of_some _ q
  obtain ⟨its, r, ht, hz⟩ := I5.tuple hx
  have hlen := r.length
  show wpAny (model X.prog X.w) X.A (subscriptTail e (.Slice none none (some (.UnaryOp .USub (.Constant (.int 1) k p1) p2)) p3) (.ref a) (.ref s4.heap.objs.size)) (EP X pins σ Q) X.xe { s4 with heap := s4.heap.push { cls := .type "slice", data := .fields #[.none, .none, .int (-1) tt] } }
  refine tail_any (ops := [.ref a, .ref s4.heap.objs.size]) ht.typeIs (PyProof.Rows.slot_tuple_getitem.lookup) ?_ (by with_unfolding_all rfl)
  refine HT.getItem_tuple_rev ht (Heap.IsSliceOf.new _ .none .none (.int (-1) tt)) ?_ (by rw [List.size_toArray]; omega)
  refine ⟨.ref _, _, I5.laid (t' := s4.toks) (o := .tup xs.reverse) (fun b ob q => Heap.get?_push_of_some _ q) (Nat.le_refl _) ?_, rfl, q _ (I5.hok.fresh (Nat.le_refl _))⟩
  exact ⟨by rw [List.length_reverse]; exact hz, _, r.reverse, IsTup.new _ _⟩
end
end L2
namespace Hc
open PySem L2
/-- [f(a, b) for a, b in zip(s, t)]: two tuples, perhaps of unlike lengths -/
theorem lc_zipT {K : PySem.W.Frag} {a b : Addr} {xs ys : List V} {g : TG} {tt : TT} {te : TE} {vs : List Nat} {σ : St} {H1 : Hp} {D : Addr} {Qd : Hp → Prop} (Pv : Nat → Hp → Prop) (h0 : Pv 0 (upd H1 D (.lst [])))
    (hl : ∀ i H, Pv i H → SqT K H a xs ∧ SqT K H b ys)
    (hs : ∀ (i : Nat) (x y : V) (T : Addr) (H : Hp), xs[i]? = some x → ys[i]? = some y → Pv i H → H T = none → g (.ref T) (wipe σ vs) (upd H T (.tup [x, y])) fun σ2 H2 => wipe σ2 vs = wipe σ vs ∧ tt σ2 H2 fun b H3 =>
      if b = true then te σ2 H3 fun y H4 => ∃ acc, H4 D = some (.lst acc) ∧ acc.length < sizeLine ∧ Pv (i + 1) (upd H4 D (.lst (acc ++ [y]))) else Pv (i + 1) H3) (hd : ∀ H, Pv (min xs.length ys.length) H → Qd H) :
    ∃ W : Nat → Nat → Hp → Prop, (∃ m, W 0 m (upd H1 D (.lst []))) ∧ ∀ i m H, W i m H →
      ((RZ.ItzT K a b).stop i H ∧ Qd H) ∨ ((RZ.ItzT K a b).go i H ∧ ∃ Nx : Hp → Prop, (∀ H', Nx H' → ∃ m', m' < m ∧ W (i + 1) m' H') ∧ ∀ x H', (RZ.ItzT K a b).yld i H x H' → g x (wipe σ vs) H' fun σ2 H2 => wipe σ2 vs = wipe σ vs ∧ tt σ2 H2 fun b H3 =>
        if b = true then te σ2 H3 fun y H4 => ∃ acc, H4 D = some (.lst acc) ∧ acc.length < sizeLine ∧ Nx (upd H4 D (.lst (acc ++ [y]))) else Nx H3) := by
  refine ⟨fun i m H => m = min xs.length ys.length - i ∧ i ≤ min xs.length ys.length ∧ Pv i H, ⟨_, rfl, Nat.zero_le _, h0⟩, ?_⟩
  rintro i m H ⟨rfl, hi, p⟩
  obtain ⟨qx, qy⟩ := hl i H p
  by_cases hlt : i < min xs.length ys.length
  · have h1 : i < xs.length := by omega
    have h2 : i < ys.length := by omega
    refine .inr ⟨⟨xs, ys, _, _, qx, qy, List.getElem?_eq_getElem h1, List.getElem?_eq_getElem h2⟩, Pv (i + 1), fun H' p' => ⟨min xs.length ys.length - (i + 1), by omega, rfl, hlt, p'⟩, fun v H' y => ?_⟩
    obtain ⟨T, x', y', rfl, hT, rfl, f1, f2⟩ := y
    exact hs i x' y' T H (f1 xs qx) (f2 ys qy) p hT
  · have e : i = min xs.length ys.length := by omega
    subst e
    refine .inl ⟨⟨xs, ys, qx, qy, ?_⟩, hd H p⟩
    omega
end Hc


set_option Elab.async false
set_option linter.all false
set_option maxRecDepth 100000
set_option maxHeartbeats 2000000
set_option autoImplicit false
namespace L2
open PySem PySem.Spec PyProof.Rows
/-- what the first clause, 'except x as n', wishes of an exception that is its own; slot i is n's -/
def wAs1 (K : PySem.W.Frag) (c : Value) (i : Nat) (ts : Addr → Value → Option Addr → TS) (D : Ends) : WX := fun cls d σ H =>
  PySem.W.exmOne K cls c = some true ∧ ∀ a, H a = none → ts a cls d { nx := fun σ' H' => D.nx (σ'.set i none) H', rt := D.rt, bk := fun σ' H' => D.bk (σ'.set i none) H', ct := fun σ' H' => D.ct (σ'.set i none) H' } (σ.set i (some (.ref a))) H
section
variable {X : Cx} {x n : Str} {c : Value} {i : Nat} {body suite : List Stmt} {b₀ : Stmt} {np pos pos' : Pos} {tb : WX → TS} {ts : Addr → Value → Option Addr → TS} {more : List ExceptHandler}
theorem ps_try_as1 (hs : X.stack = X.env :: X.outer) (hf : X.env.frame = some X.env.locals) (hN : X.N.Nodup) (hi : X.N[i]? = some n) (hln : X.env.kindOf n = some .local) (hc : Names X x c)
    (hb : ∀ (W : WX) (pn : List (Addr × Obj)) (xe : Value → Shared → Prop), Takes (X.tr pn xe) W → PassesOwn (model X.prog X.w) X.A X.env xe → PSs (X.tr pn xe) body (tb W))
    (hsu : ∀ (a : Addr) (oe : Obj) (cls : Value) (d : Option Addr) (pn : List (Addr × Obj)), Zc cls d oe → (∃ vs, oe.data = .fields vs) → PSs (X.suite a ((a, oe) :: pn)) (b₀ :: suite) (ts a cls d)) :
    PS X (.Try body (.ExceptHandler (some (.Name x np)) (some n) (b₀ :: suite) pos' :: more) [] [] pos) (fun D σ H => tb (wAs1 X.K c i ts D) D σ H) := by
  refine ⟨fun pins s σ H D I h => ?_⟩
  have ok := I.ok
  have hfr : X.A.frames = some (X.env :: X.outer) := by rw [ok.frames, hs]
  have hloc : Loc X.env.scope n := .inl hln
  refine wpAny_Try_except ?_
  refine wpAny_mono ((hb (wAs1 X.K c i ts D) (X.pn ++ pins) (fun e s₁ => wpAny (model X.prog X.w) X.A (noteFrame e X.env) (fun _ s₂ => wpAny (model X.prog X.w) X.A (setFlight e none) (fun _ s₃ =>
    wpAny (model X.prog X.w) X.A (handleBy e X.env (.ExceptHandler (some (.Name x np)) (some n) (b₀ :: suite) pos' :: more)) (SP X pins D) X.xe s₃) X.xe s₂) X.xe s₁) (fun u s' xx => ?_) PassesOwn.looking).run [] s σ H D (I.toTry _) h) (fun f s1 hsp => ?_) (fun e s1 he => he)
  · obtain ⟨a, B, sI, pins', σ', H', cls, d, rfl, J', nb, up, sky, na, os, ag, hb1, hyes⟩ := xx
    have J : Inv X pins σ' H' sI := J'.ofTry ok
    have sky' : Sky B (X.env :: X.outer) a (Zc cls d) X.env.locals s'.heap := by rw [← hs]; exact sky
    show wpAny (model X.prog X.w) X.A (noteFrame (.ref a) X.env) _ _ _
    refine Sky.land Zc.steady hfr hf sky' fun h3 fl3 up3 => ?_
    have J3 : Inv X pins σ' H' { s' with heap := h3 } := J.landed nb fl3.1 (up.trans up3) os ag
    obtain ⟨oe3, vs3, he3, hz3, hd3⟩ := fl3.there
    have nfr : a ∉ frs (X.env :: X.outer) := fun hm => by
      obtain ⟨_, o', e', hnf⟩ := fl3.2.2.1.mem hm
      rw [he3] at e'; cases e'
      exact hnf _ hd3
    have nL : a ≠ X.env.locals := fun z => nfr (List.mem_filterMap.mpr ⟨X.env, List.mem_cons_self, by rw [hf, z]⟩)
    have nF : a ∉ X.fs := fun hm => by
      obtain ⟨e, he, q⟩ := List.mem_filterMap.mp hm
      exact nfr (List.mem_filterMap.mpr ⟨e, List.mem_cons_of_mem _ he, q⟩)
    have S3 := J3.suite he3 hd3 na nL nF
    refine wpAny_handleBy_cons (codeAny_handlers_test ?_) (by intro q; cases q)
    have LT : PySem.W.Looks (model X.prog X.w) h3 (typeOf (.ref a)) cls := fun A Q E s k q => wpAny_typeOf_ref (k _ _ he3) (by rw [hz3.1]; exact q)
    have LM := PySem.W.exm_one (M := model X.prog X.w) (J3.kIn) LT hb1
    have test : ∀ {Q : Value → Shared → Prop} {E : Value → Shared → Prop}, Q c { s' with heap := h3 } → wpAny (model X.prog X.w) (X.A.mark (some (.ref a))) (eval (.Name x np) X.env) Q E { s' with heap := h3 } := fun {Q E} q => by
      obtain ⟨hg, hdbg, hm | ⟨hm, hv, hnn⟩⟩ := hc
      · exact ld_glob (X := X.suite a ((a, oe3) :: (X.pn ++ pins))) S3 hg hm q hdbg
      · exact ld_blt (X := X.suite a ((a, oe3) :: (X.pn ++ pins))) S3 hg hm hv q hnn hdbg
    refine test (LM.here ?_)
    refine codeAny_handlers_suite_as ?_
    refine HandSPX.lands_againZ fl3 fun h4 fl4 up4 => ?_
    have J4 : Inv X pins σ' H' { s' with heap := h4 } := J.landed nb fl4.1 ((up.trans up3).trans up4) os ag
    obtain ⟨oe4, vs4, he4, hz4, hd4⟩ := fl4.there
    have S4 := J4.suite he4 hd4 na nL nF
    refine store_ok (X := X.suite a ((a, oe4) :: (X.pn ++ pins))) (v := .ref a) S4 hN hi hloc rfl (fun s5 S5 => ?_) (.inr hln)
    refine wpAny_mono ((hsu a oe4 cls d (X.pn ++ pins) hz4 ⟨_, hd4⟩).run [] s5 _ H' _ S5 (hyes a na)) (fun f s6 hsp => ?_) (fun _ _ z => False.elim z)
    have end_ : ∀ {σ6 : St} {H6 : Hp} {Q : Shared → Prop}, Inv (X.suite a ((a, oe4) :: (X.pn ++ pins))) [] σ6 H6 s6 → (∀ s7, Inv X pins (σ6.set i none) H6 s7 → Q s7) →
        wpAny (model X.prog X.w) X.A (do bindName X.env n .none; unbindBehindTheSuite X.env n pos') (fun _ s7 => Q s7) X.xe s6 := fun {σ6 H6 Q} S6 hq => gone_ok (S6.unsuite ok) hN hi hln hq
    cases f with
    | next =>
      obtain ⟨σ6, H6, S6, q6⟩ := hsp
      exact end_ S6 fun s7 J7 => ⟨_, _, J7, q6⟩
    | brk =>
      obtain ⟨σ6, H6, S6, q6⟩ := hsp
      exact end_ S6 fun s7 J7 => ⟨_, _, J7, q6⟩
    | cont =>
      obtain ⟨σ6, H6, S6, q6⟩ := hsp
      exact end_ S6 fun s7 J7 => ⟨_, _, J7, q6⟩
    | ret u =>
      obtain ⟨v6, σ6, H6, S6, r6, q6⟩ := hsp
      exact end_ S6 fun s7 J7 => ⟨_, _, _, J7, r6, q6⟩
  · cases f with
    | next =>
      obtain ⟨σ', H', J', q⟩ := hsp
      exact wpAny_execs_nil ⟨σ', H', J'.ofTry ok, q⟩
    | brk =>
      obtain ⟨σ', H', J', q⟩ := hsp
      exact ⟨σ', H', J'.ofTry ok, q⟩
    | cont =>
      obtain ⟨σ', H', J', q⟩ := hsp
      exact ⟨σ', H', J'.ofTry ok, q⟩
    | ret u =>
      obtain ⟨v, σ', H', J', r, q⟩ := hsp
      exact ⟨v, σ', H', J'.ofTry ok, r, q⟩
end
end L2


set_option Elab.async false
set_option linter.all false
set_option maxRecDepth 100000
set_option maxHeartbeats 1000000
set_option autoImplicit false
namespace PyProof.Rows
open PySem PySem.Spec
section
variable {prog : Program} {w : World} {A : Around} {E : Value → Shared → Prop} {s : Shared}
theorem collect_tupleHo {l : Addr} {vs : List Value} {Q : List Value → Shared → Prop} (hl : s.heap.IsTuple l vs.toArray)
    (h : Q vs { s with heap := (s.heap.push (seqObj "list" #[] 0)).update s.heap.objs.size (Obj.mapSeq (· ++ vs.toArray)) }) (hsz : vs.length ≤ sizeLine) :
    wpAny (model prog w) A (collect (.ref l)) Q E s := by
  obtain ⟨o, ho, hc, n, hd⟩ := id hl
  unfold collect
  refine wpAny_bind (wpAny_runValue (codeAny_builtin entry_proto_collect' ?_))
  show wpAny _ _ (do again (.builtin "list.__iadd__" ⟨[← newList [], .ref l], []⟩)) _ _ s
  refine wpAny_bind (wpAny_newList (wpAny_pure ⟨Code.quiet_builtin _ (by decide +kernel), codeAny_builtin entry_list_iadd' ?_⟩))
  show wpAny _ _ (Builtin.List.listExtendWith (.ref s.heap.objs.size) (.ref l) (.ref s.heap.objs.size)) _ _ { s with heap := s.heap.push (seqObj "list" #[] 0) }
  unfold Builtin.List.listExtendWith
  have ho' : (s.heap.push (seqObj "list" #[] 0)).get? l = some o := Heap.get?_push_of_some _ ho
  refine wpAny_bind (wpAny_typeOf (T := "tuple") ⟨o, ho', hc⟩ ?_)
  have ht : (Value.type "tuple" == Value.type "tuple") = true := by rfl
  rw [if_pos (by rw [ht]; simp)]
  refine wpAny_bind (listItems_at ho' hd ?_)
  refine wpAny_bind (listItems_at (xs := #[]) (n := 0) (Heap.get?_push_size _ rfl) rfl ?_)
  rw [if_neg (by simp)]
  refine wpAny_bind (listUpdate_at (xs := #[]) (n := 0) (Heap.get?_push_size _ rfl) rfl ?_ (Nat.zero_le _) (by show (#[] ++ vs.toArray).size ≤ sizeLine + 1; simp only [Array.size_append, List.size_toArray, List.length_nil]; omega))
  refine wpAny_pure ?_
  show wpAny (model prog w) A (do
      let o ← load s.heap.objs.size
      match o.data with
      | .seq xs _ => pure xs.toList
      | _ => unsupported "internal:collect") Q E { s with heap := (s.heap.push (seqObj "list" #[] 0)).update s.heap.objs.size (Obj.mapSeq (· ++ vs.toArray)) }
  refine wpAny_bind (wpAny_load (get?_update_seq (Heap.get?_push_size _ rfl) _) ?_)
  show wpAny _ _ (pure ((#[] : Array Value) ++ vs.toArray).toList) Q E _
  rw [show ((#[] : Array Value) ++ vs.toArray).toList = vs by simp]
  exact wpAny_pure h
theorem sorted_intsTo {l : Addr} {vs : List Value} {ns : List Int} {Q : Value → Shared → Prop} (hl : s.heap.IsTuple l vs.toArray) (hI : IntsAre vs ns) (h64 : vs.length < 64)
    (h : ∀ (out : Array Value) (ns' : List Int), IntsAre out.toList ns' → ns'.Perm ns → ns'.Pairwise (· ≤ ·) → Q (.ref (s.heap.objs.size + 1)) { s with heap := sortedAll s.heap vs out }) :
    wpAny (model prog w) A (call (.builtin "sorted") [.ref l]) Q E s := by
  refine Calls.call_function_entry kind_sorted plain_sorted entry_sorted (args_sorted1 _) ?_
  unfold Builtin.«sorted»
  refine wpAny_bind (m := checkCount "sorted" 1 1 _) (wpAny_pure ?_)
  refine wpAny_bind (collect_tupleHo hl ?_ (by rw [sizeLine_eq]; omega))
  refine wpAny_bind (wpAny_newList ?_ (by rw [sizeLine_eq]; omega))
  have hsz : ((s.heap.push (seqObj "list" #[] 0)).update s.heap.objs.size (Obj.mapSeq (· ++ vs.toArray))).objs.size = s.heap.objs.size + 1 := by
    rw [Heap.size_update, size_push']
  have hoL : (((s.heap.push (seqObj "list" #[] 0)).update s.heap.objs.size (Obj.mapSeq (· ++ vs.toArray))).push (seqObj "list" vs.toArray 0)).get? (s.heap.objs.size + 1) = some (seqObj "list" vs.toArray 0) := by
    rw [← hsz]; exact Heap.get?_push_size _ rfl
  show wpAny _ _ _ _ _ { s with heap := ((s.heap.push (seqObj "list" #[] 0)).update s.heap.objs.size (Obj.mapSeq (· ++ vs.toArray))).push (seqObj "list" vs.toArray 0) }
  rw [hsz]
  refine wpAny_bind (wpAny_holding (wpAny_call_entry slot_list_sort ⟨_, hoL, rfl⟩ entry_list_sort (list_sort_tree hoL hI h64 fun out ns' a1 a2 a3 => ⟨_, rfl, ?_⟩) (args_list_sort _)))
  exact wpAny_pure ⟨_, rfl, h out ns' a1 a2 a3⟩
end
end PyProof.Rows
namespace L2
open PySem PySem.Spec PyProof.Rows
def rSortTo (K : PySem.W.Frag) : List V → Hp → VK → Prop := fun vs H Q => ∃ (a : Addr) (ns : List Int), vs = [V.ref a] ∧ SqT K H a (ns.map V.int) ∧ ns.length < 64 ∧
  ∀ (ns' : List Int) (p : Addr), ns'.Perm ns → ns'.Pairwise (· ≤ ·) → H p = none → Q (.ref p) (upd H p (.lst (ns'.map V.int)))
theorem cr_sortT1o {X : Cx} : CallR X (.builtin "sorted") (rSortTo X.K) := by
  intro pins s σ H vs us Q I r h
  obtain ⟨a, ns, rfl, hs, h64, q⟩ := h
  obtain ⟨its, rv, hl, _⟩ := I.tuple hs
  rw [Vals.ref1 r]
  have hi := rv.ints
  refine PyProof.Rows.sorted_intsTo (show s.heap.IsTuple a its.toArray from hl) hi (by rw [hi.length]; exact h64) fun out ns' h1 h2 h3 => ?_
  obtain ⟨ep, he'⟩ := PyProof.Rows.sortedAll_at s.heap its out
  have hlen : (ns'.map V.int).length ≤ sizeLine := by rw [List.length_map, h2.length_eq]; exact small64 h64
  exact ⟨.ref _, upd H (s.heap.objs.size + 1) (.lst (ns'.map V.int)), I.laid (t' := s.toks) (fun _ _ => PyProof.Rows.sortedAll_old) (Nat.le_succ _) ⟨hlen, out.toList, ep, vals_of_ints h1, he'⟩, rfl, q ns' _ h2 h3 (I.hok.fresh (Nat.le_succ _))⟩
end L2


set_option Elab.async false
set_option linter.all false
set_option maxRecDepth 100000
set_option maxHeartbeats 1000000
set_option autoImplicit false
namespace L2
open PySem PySem.Spec PyProof.Rows
section
variable {X : Cx} {pins : List (Addr × Obj)} {σ : St} {H : Hp} {s : Shared} {d : Addr} {o : Obj}
theorem Inv.frzT2 {kvs : List (List Key × V)} (I : Inv X pins σ H s) (h : H d = some (.frz o (.dT kvs))) :
    (d == sysModules) = false ∧ s.heap.get? d = some o ∧ o.ExactDict ∧ ∃ (es : Array DictEntry) (ep : Nat), o.data = .dict es ep ∧ es.size = kvs.length ∧
      ∀ (i : Nat) (k : List Key) (v : V), kvs[i]? = some (k, v) → ∃ (en : DictEntry) (q : Addr), es[i]? = some en ∧ en.key = .ref q ∧ H q = some (.tup (k.map kV)) ∧ RelV v en.val := by
  obtain ⟨hd, z, hs, xs, pr, o', es, ep, ho, hx, hdt, he, _⟩ := I.hok d _ h
  rw [hd] at ho
  cases ho
  refine ⟨hs, hd, hx, es, ep, hdt, ?_, fun i k v e => ?_⟩
  · have l1 : es.size = xs.length := size_of_entries he
    have l2 : kvs.length = xs.length := Paired.length pr
    omega
  · obtain ⟨b, hb, e1, e2, e3⟩ := paired_get pr e
    have q := entry_at he i
    rw [hb] at q
    exact ⟨_, b.2.1, q, rfl, e2, e3⟩
end
/-- the pairs of a dict with tuple keys, each a new tuple of the key's own tuple and the value -/
def Itit (d : Addr) (o : Obj) (kvs : List (List Key × V)) : It :=
  ⟨fun i H => H d = some (.frz o (.dT kvs)) ∧ i < kvs.length, fun i H x H' => ∃ (T : Addr) (k : List Key) (v : V) (q : Addr), kvs[i]? = some (k, v) ∧ x = .ref T ∧ H T = none ∧ H q = some (.tup (k.map kV)) ∧ H' = upd H T (.tup [.ref q, v]), fun i H => H d = some (.frz o (.dT kvs)) ∧ kvs.length ≤ i⟩
section
variable {P : Program} {w : World} {K : PySem.W.Frag} {tg : Expr} {d : Addr} {o : Obj} {es : Array DictEntry} {ep : Nat}
theorem turn_itemsT {kvs : List (List Key × V)} {elts : List Expr} {kk : Nat} {tpos : Pos} (it : Addr) (hod : o.data = .dict es ep) :
    Turn P w K (.Tuple elts kk tpos) (Itit d o kvs) [it] it (fun i h => ∃ ok ov, IsItemIter h it d i kvs.length ep ok ov) where
  mem := by simp
  obj := fun i h st b hb => by
    have e : b = it := by simpa using hb
    subst e
    obtain ⟨ok, ov, e⟩ := st
    exact ⟨_, e, fun v z => nomatch z⟩
  keep := fun i h h' st k => let ⟨ok, ov, e⟩ := st; ⟨ok, ov, k it (by simp) _ e⟩
  item := by
    intro X hP hw hK hc i pins s σ H E I hf st hg
    subst hP hw hK
    obtain ⟨hd, hi⟩ := hg
    obtain ⟨hs, hgd, hx, es', ep', hdt, hsz, ent⟩ := I.frzT2 hd
    obtain ⟨rfl, rfl⟩ := dict_ep hod hdt
    obtain ⟨⟨k, v⟩, hkv⟩ : ∃ p, kvs[i]? = some p := ⟨kvs[i], List.getElem?_eq_getElem hi⟩
    obtain ⟨en, q, hen, hkey, hq, ru⟩ := ent i k v hkv
    obtain ⟨ok, ov, he⟩ := st
    have he0 := he
    rw [← hsz] at he
    have hlt : it < s.heap.objs.size := Heap.lt_size he
    have hm : s.heap.DictRaw d es' ep' := ⟨o, hgd, hx, hdt⟩
    have hlt' : i < es'.size := by omega
    have e1 : es'[i] = en := by
      rw [Array.getElem?_eq_getElem hlt'] at hen
      exact Option.some.inj hen
    refine wpAny_pyNext_items_item_raw he hm hlt' fun h' ho hT hz hk => ?_
    rw [e1] at ho hT
    refine ⟨_, rfl, wpAny_letOwnedTupleGo_items (s := { s with heap := h' }) ho fun h'' he' sb => ?_⟩
    have hT2 : h''.get? s.heap.objs.size = some { cls := .type "tuple", data := .seq #[en.key, en.val] } := (sb.2 _ (Nat.ne_of_gt hlt)).trans hT
    have rk : RelV (.ref q) en.key := by rw [hkey]; exact rfl
    have new : ObjOk X.prog X.w (upd H s.heap.objs.size (.tup [.ref q, v])) h'' s.heap.objs.size (.tup [.ref q, v]) :=
      ⟨by show 2 ≤ sizeLine; decide, [en.key, en.val], .cons rk (.cons ru .nil), ⟨_, hT2, rfl, _, rfl⟩⟩
    have I1 : Inv X pins σ (upd H s.heap.objs.size (.tup [.ref q, v])) { s with heap := h'' } :=
      I.turnedNew (t' := s.toks) (ch := [it]) (fun b ob hb e => (sb.2 b (by simpa using hb)).trans (hk b ob (by simpa using hb) e)) hf (Nat.le_refl _) new
    refine ⟨.ref s.heap.objs.size, _, I1, rfl, ⟨_, k, v, q, hkv, rfl, I.hok.fresh (Nat.le_refl _), hq, rfl⟩, ⟨en.key, en.val, ?_⟩, fun b hb => ?_⟩
    · rw [← hsz]; exact he'
    · have e : b = it := by simpa using hb
      rw [e, upd_ne (Nat.ne_of_lt hlt)]
      exact (hf it (by simp)).1
  done := by
    intro X hP hw hK hc i pins s σ H E I hf st hg
    subst hP hw hK
    obtain ⟨hd, hi⟩ := hg
    obtain ⟨f0, f1, f2, f3, f4, f5⟩ := hf it (by simp)
    obtain ⟨hs, hgd, hx, es', ep', hdt, hsz, ent⟩ := I.frzT2 hd
    obtain ⟨rfl, rfl⟩ := dict_ep hod hdt
    obtain ⟨ok, ov, he⟩ := st
    rw [← hsz] at he
    exact wpAny_pyNext_items_end_raw (I.ok.hd hc) he ⟨o, hgd, hx, hdt⟩ (by omega) fun h' eb => ⟨rfl, I.turned (t' := s.toks) (fun b ob hb e => eb b ob hb e) f0 f1 f3 f4 f5⟩
  self := fun A i s Q E st h => let ⟨_, _, e⟩ := st; PySem.W.kcp_self e h
end
def iItemsT (td : TE) : TI := fun σ H R => td σ H fun x H1 => ∃ d o kvs, x = .ref d ∧ H1 d = some (.frz o (.dT kvs)) ∧ R (Itit d o kvs) H1
section
variable {X : Cx} {tg e : Expr} {td : TE} {apos cpos : Pos}
theorem pi_itemsT {elts : List Expr} {kk : Nat} {tpos : Pos} (he : PE X e td) (hbase : attributeBase e "items" X.env (eval e X.env) = eval e X.env := by rfl) (hline : (apos.endLine == cpos.line) = true := by rfl) :
    PI X (.Tuple elts kk tpos) (.Call (.Attribute e "items" apos) [] [] cpos) (iItemsT td) := by
  refine ⟨fun pins s σ H R I h => ?_⟩
  refine wpAny_Call_method (T := "dict") (id := "dict.items") hbase rfl hline F.plainAttrs_dict F.slot_dict_items F.type_dict_items (thn (he.run pins s σ H _ I h) fun u s1 ⟨x, H1, I1, rx, d, o, kvs, ex, hd, q⟩ => ?_)
  subst ex
  obtain rfl : u = Value.ref d := rx
  obtain ⟨hs, hgd, hx, es, ep, hdt, hsz, ent⟩ := I1.frzT2 hd
  have hm : s1.heap.DictRaw d es ep := ⟨o, hgd, hx, hdt⟩
  obtain ⟨z, _, xs, _, dd⟩ := dt_rd I1.hok (.inr ⟨o, hd⟩)
  refine ⟨hm.typeIs, fun b e => by cases e; exact ⟨o, hgd, hx.2.1⟩, ?_⟩
  have I2 : Inv X pins σ H1 { s1 with heap := s1.heap.push { cls := .type "dict_items", data := .fields #[.ref d] } } := I1.kept (t' := s1.toks) fun b ob q => Heap.get?_push_of_some _ q
  have fin : wpAny (model X.prog X.w) X.A (pyIter (.ref s1.heap.objs.size)) (PIE X pins σ (.Tuple elts kk tpos) R) X.xe { s1 with heap := s1.heap.push { cls := .type "dict_items", data := .fields #[.ref d] } } := by
    refine wpAny_pyIter_items_raw (d := d) (es := es) (ep := ep) ⟨_, Heap.get?_push_size _ rfl, rfl, rfl⟩ (hm.at fun o e => Heap.get?_push_of_some _ e) (pi_one (tk := s1.toks) I2 _ (turn_itemsT _ hdt) ⟨.none, .none, ?_⟩ q)
    rw [← hsz]
    exact Heap.get?_push_size _ rfl
  show wpAny _ _ (callWith cpos (.builtin "dict.items") [.ref d] [] []) _ X.xe s1
  exact method_meetsIn F.slot_dict_items F.entry_dict_items rfl (PySem.evalArgs_none ⟨rfl, hm.typeIs, F.args_dict_items_1 _, _, meets_dict_items_raw d hs, ⟨es, ep, hm⟩, fin⟩)
end
end L2


set_option Elab.async false
set_option linter.all false
set_option maxRecDepth 100000
set_option maxHeartbeats 1000000
set_option autoImplicit false
namespace L2
open PySem PySem.Spec PyProof.Rows
/-- zip of the tuple at a and the list at b, both as they stand at each turn -/
def ItzM (K : PySem.W.Frag) (a b : Addr) : It where
  go i H := ∃ (xs ys : List V) (x y : V), SqT K H a xs ∧ SqL K H b ys ∧ xs[i]? = some x ∧ ys[i]? = some y
  yld i H v H' := ∃ T x y, v = .ref T ∧ H T = none ∧ H' = upd H T (.tup [x, y]) ∧ (∀ xs, SqT K H a xs → xs[i]? = some x) ∧ ∀ ys, SqL K H b ys → ys[i]? = some y
  stop i H := ∃ xs ys : List V, SqT K H a xs ∧ SqL K H b ys ∧ i ≤ xs.length ∧ i ≤ ys.length ∧ (i = xs.length ∨ i = ys.length)
/-- where the mixed zip stands -/
structure ZmAt (z TI TO i1 i2 a b : Addr) (i : Nat) (h : Heap) : Prop where
  zip : IsZip h z TI TO .none
  ins : IsTupOf2 h TI (.ref i1) (.ref i2)
  out : ∃ x y, IsTupOf2 h TO x y
  it1 : h.IsTupleIter i1 a i
  it2 : h.IsListIter i2 b i
theorem sep_of {z TI TO i1 i2 a b : Addr} (D : ZipApart z TI TO i1 i2 a b) : ZipSep2 z TI TO i1 i2 [i1, a] [i2, b] where
  TIz := D.TIz
  TOz := D.TOz
  TITO := D.TITO
  TIi1 := D.TIi1
  mem1 := by simp
  zf1 := by simp [D.i1z.symm, D.l1z.symm]
  Tf1 := by simp [D.TOi1, D.l1TO.symm]
  TIi2 := D.TIi2
  mem2 := by simp
  zf2 := by simp [D.i2z.symm, D.l2z.symm]
  Tf2 := by simp [D.TOi2, D.l2TO.symm]
  sep1_2 := by simp [D.i12, D.l2i1.symm]
  sep2_1 := by simp [D.i12.symm, D.l1i2.symm]
theorem cells5 {z TI TO i1 i2 a b : Addr} {i : Nat} {h : Heap} (st : ZmAt z TI TO i1 i2 a b i h) {c : Addr} (hc : c ∈ [z, TI, TO, i1, i2]) : ∃ o, h.get? c = some o ∧ ∀ v, o.data ≠ .cell v := by
  obtain ⟨hz, hI, ⟨x, y, hO⟩, ⟨o1, e1, _, d1⟩, ⟨o2, e2, _, d2⟩⟩ := st
  simp only [List.mem_cons, List.not_mem_nil, or_false] at hc
  rcases hc with rfl | rfl | rfl | rfl | rfl
  · exact ⟨_, hz, fun v => nofun⟩
  · exact ⟨_, hI, fun v => nofun⟩
  · exact ⟨_, hO, fun v => nofun⟩
  · exact ⟨o1, e1, fun v q => by rw [d1] at q; cases q⟩
  · exact ⟨o2, e2, fun v q => by rw [d2] at q; cases q⟩
theorem ZmAt.keeps {z TI TO i1 i2 a b : Addr} {i : Nat} {h h' : Heap} (st : ZmAt z TI TO i1 i2 a b i h) (k : ∀ c ∈ [z, TI, TO, i1, i2], ∀ o, h.get? c = some o → h'.get? c = some o) : ZmAt z TI TO i1 i2 a b i h' where
  zip := k z (by simp) _ st.zip
  ins := k TI (by simp) _ st.ins
  out := let ⟨x, y, e⟩ := st.out; ⟨x, y, k TO (by simp) _ e⟩
  it1 := st.it1.at fun o e => k i1 (by simp) o e
  it2 := st.it2.at fun o e => k i2 (by simp) o e
theorem turn_zipM {P : Program} {w : World} {K : PySem.W.Frag} {elts : List Expr} {kk : Nat} {tpos : Pos} {a b z TI TO i1 i2 : Addr} (D : ZipApart z TI TO i1 i2 a b) :
    Turn P w K (.Tuple elts kk tpos) (ItzM K a b) [z, TI, TO, i1, i2] z (ZmAt z TI TO i1 i2 a b) where
  mem := List.mem_cons_self
  obj i h st c hc := cells5 st hc
  keep i h h' st k := st.keeps k
  item := by
    intro X hP hw hK hc i pins s σ H E I hf st hg
    subst hP hw hK
    obtain ⟨xs, ys, x, y, qx, qy, hx, hy⟩ := hg
    obtain ⟨us, ru, pu, _⟩ := I.tuple qx
    obtain ⟨ws, rw', pw, _⟩ := I.list qy
    have hh : X.A.in1.handled = none := I.ok.hd hc
    have nx : i < us.toArray.size := by
      have := ru.length
      have := (List.getElem?_eq_some_iff.mp hx).1
      simp only [List.size_toArray]; omega
    have ny : i < ws.toArray.size := by
      have := rw'.length
      have := (List.getElem?_eq_some_iff.mp hy).1
      simp only [List.size_toArray]; omega
    obtain ⟨a1, a2, hO⟩ := st.out
    have lc : ∀ {c : Addr}, c ∈ [z, TI, TO, i1, i2] → c < s.heap.objs.size := fun hm => let ⟨_, e, _⟩ := cells5 st hm; Heap.lt_size e
    refine wpAny_pyNext_zipD2_item (sep_of D) (Draws.tuple hh i1 a D.l1i1 us.toArray) (Draws.list hh i2 b D.l2i2 ws.toArray) st.zip st.ins hO ⟨st.it1, pu⟩ ⟨st.it2, pw.isList⟩ nx ny fun x1 x2 h' tk y1 y2 z' O' s1 s2 hT hsz hk => ?_
    obtain ⟨u1, eu1, r1⟩ := ru.get hx
    obtain ⟨u2, eu2, r2⟩ := rw'.get hy
    have e1 : x1 = u1 := Option.some.inj (y1.symm.trans (by simpa using eu1))
    have e2 : x2 = u2 := Option.some.inj (y2.symm.trans (by simpa using eu2))
    subst e1 e2
    refine ⟨_, rfl, wpAny_letOwnedTupleGo_zip (s := { s with heap := h', toks := tk }) z' fun g gz sb => ?_⟩
    have gT : g.get? s.heap.objs.size = some { cls := .type "tuple", data := .seq #[x1, x2] } := (sb.2 _ (Nat.ne_of_gt (lc (by simp)))).trans hT
    have I1 : Inv X pins σ (upd H s.heap.objs.size (.tup [x, y])) { s with heap := g, toks := tk } :=
      I.turnedNew (ch := [z, TI, TO, i1, i2]) (fun c o nc e => by
        simp only [List.mem_cons, List.not_mem_nil, or_false, not_or] at nc
        exact (sb.2 c nc.1).trans (hk c o nc.1 nc.2.2.1 nc.2.2.2.1 nc.2.2.2.2 e)) hf (Nat.le_refl _) ⟨by show 2 ≤ sizeLine; decide, [x1, x2], .cons r1 (.cons r2 .nil), ⟨_, gT, rfl, _, rfl⟩⟩
    refine ⟨.ref s.heap.objs.size, _, I1, rfl, ⟨_, x, y, rfl, I.hok.fresh (Nat.le_refl _), rfl, fun l hl => ?_, fun l hl => ?_⟩, ⟨gz, ?_, ⟨x1, x2, ?_⟩, ?_, ?_⟩, fun c hm => ?_⟩
    · rw [I.tuple_inj hl qx]; exact hx
    · rw [I.list_inj hl qy]; exact hy
    · exact (sb.2 _ D.TIz).trans (hk _ _ D.TIz D.TITO D.TIi1 D.TIi2 st.ins)
    · exact (sb.2 _ D.TOz).trans O'
    · exact s1.1.at fun o q => (sb.2 _ D.i1z).trans q
    · exact s2.1.at fun o q => (sb.2 _ D.i2z).trans q
    · rw [upd_ne (Nat.ne_of_lt (lc hm))]
      exact (hf c hm).1
  done := by
    intro X hP hw hK hc i pins s σ H E I hf st hg
    subst hP hw hK
    obtain ⟨xs, ys, qx, qy, h1, h2, h3⟩ := hg
    obtain ⟨us, ru, pu, _⟩ := I.tuple qx
    obtain ⟨ws, rw', pw, _⟩ := I.list qy
    have hh : X.A.in1.handled = none := I.ok.hd hc
    obtain ⟨a1, a2, hO⟩ := st.out
    have l1 := ru.length
    have l2 := rw'.length
    exact wpAny_pyNext_zipD2_end (sep_of D) (Draws.tuple hh i1 a D.l1i1 us.toArray) (Draws.list hh i2 b D.l2i2 ws.toArray) st.zip st.ins hO ⟨st.it1, pu⟩ ⟨st.it2, pw.isList⟩
      (by simp only [List.size_toArray]; omega) (by simp only [List.size_toArray]; omega) (by simp only [List.size_toArray]; omega) fun h' tk hk => ⟨rfl, I.turnedL (ch := [z, TI, TO, i1, i2]) (fun c o nc e => by
        simp only [List.mem_cons, List.not_mem_nil, or_false, not_or] at nc
        exact hk c o nc.1 nc.2.2.1 nc.2.2.2.1 nc.2.2.2.2 e) hf⟩
  self A i s Q E st h := wpAny_pyIter_zip st.zip h
def iZipM (K : PySem.W.Frag) (ta : TA) : TI := fun σ H R => ta σ H fun vs H1 => ∃ a b xs ys, vs = [.ref a, .ref b] ∧ SqT K H1 a xs ∧ SqL K H1 b ys ∧ R (ItzM K a b) H1
theorem pi_zipM {X : Cx} {e e2 : Expr} {ta : TA} {p pos tpos : Pos} {elts : List Expr} {kk : Nat} (hg : Gl X "zip") (hm : X.mg "zip" = none) (ha : PA X [e, e2] ta)
    (hs : starEach [e, e2] X.env = (false, eval e X.env) :: starEach [e2] X.env := by rfl) (hpl : (backTo pos (starEach [e2] X.env)).any (·.1) = false := by rfl) :
    PI X (.Tuple elts kk tpos) (.Call (.Name "zip" p) [e, e2] [] pos) (iZipM X.K ta) where
  run pins s σ H R I h := by
    refine Call_ (ld_blt I hg hm PyProof.Rows.boot_zip (PyProof.Rows.callWith_type1 (thn (ha.run pos pins s σ H _ I h) fun us s1 ⟨vs, H1, I1, r1, a, b, xs, ys, ev, qx, qy, q⟩ => ?_) hs hpl))
    subst ev
    cases r1 with
    | cons ra rr =>
    cases rr with
    | cons rb rr =>
    cases rr
    cases ra
    cases rb
    obtain ⟨us, _, pu, _⟩ := I1.tuple qx
    obtain ⟨ws, _, pw, _⟩ := I1.list qy
    have la : a < s1.heap.objs.size := let ⟨o, e, _⟩ := pu; Heap.lt_size e
    refine zip_begins2 (begins_tuple a us.toArray) (begins_list b ws.toArray) pu pw.isList fun h' hz hI hO h1 h2 hsz hk => wpAny_pyIter_zip hz ?_
    refine ⟨s1.heap.objs.size + 4, [s1.heap.objs.size + 4, s1.heap.objs.size + 2, s1.heap.objs.size + 3, s1.heap.objs.size, s1.heap.objs.size + 1], _, _, H1, rfl, I1.kept (t' := s1.toks) hk, turn_zipM (PySem.W.ktu_apart s1.heap.objs.size a b la pw.lt), ⟨hz, hI, ⟨_, _, hO⟩, ⟨_, h1, rfl, rfl⟩, ⟨_, h2, rfl, rfl⟩⟩, fun c hc => ?_, q⟩
    have hle : s1.heap.objs.size ≤ c := by
      simp only [List.mem_cons, List.not_mem_nil, or_false] at hc
      rcases hc with rfl | rfl | rfl | rfl | rfl <;> omega
    exact I1.fpOk hle (I1.hok.fresh hle)
end L2


set_option Elab.async false
set_option linter.all false
set_option maxRecDepth 100000
set_option maxHeartbeats 4000000
set_option autoImplicit false
namespace Hc
open PySem L2
def top (i : Nat) : Stmt := PySem.Challenge.pw_hourcards_k65_sized_days_judged.main.body.getD i (.Pass ⟨0, 0, 0, 0⟩)
structure Df (K : PySem.W.Frag) (mg : Str → Option Value) (x : Str) (st : Stmt) (ps : List Str) : Type where
  f : Addr
  fd : FuncData
  F : Fun K x x st f fd
  g : mg x = some (.ref f)
  b : Binds K fd ps []
/-- an own class -/
structure Wf (K : PySem.W.Frag) (mg : Str → Option Value) (x q : Str) (st : Stmt) (ps fs : List Str) : Type where
  C : Addr
  f : Addr
  fd : FuncData
  F : Fun K "__init__" q st f fd
  g : mg x = some (.ref C)
  b : Binds K fd ps []
  mk1 : Mk K C f
  cl : Cls K C
  no : ∀ x ∈ fs, PySem.W.findIn K (.ref C) x = some none
/-- an own error -/
structure Xf (K : PySem.W.Frag) (mg : Str → Option Value) (x q : Str) (st : Stmt) (ps fs : List Str) : Type where
  C : Addr
  f : Addr
  fd : FuncData
  F : Fun K "__init__" q st f fd
  g : mg x = some (.ref C)
  b : Binds K fd ps []
  T : OexC K C
  iC : PySem.W.findIn K (.ref C) "__init__" = some (some (.ref f))
  tI : PySem.W.typeIn K (.ref f) = some (.type "function")
  xf : XfC K C
  te : PySem.W.exmOne K (.ref C) (.ref C) = some true
  no : ∀ x ∈ fs, PySem.W.findIn K (.ref C) x = some none
/-- an own class's ==, and what else is asked of it -/
structure Ef (K : PySem.W.Frag) (C : Addr) (q : Str) (st : Stmt) (ps : List Str) : Type where
  f : Addr
  fd : FuncData
  F : Fun K "__eq__" q st f fd
  b : Binds K fd ps []
  i : PySem.W.findIn K (.ref C) "__eq__" = some (some (.ref f))
  t : PySem.W.isFn K (.ref f) = true
  k : PySem.W.kitOne K (.ref C) (.ref C) = some true
  ha : PySem.W.findIn K (.ref C) "__class__" = some (some (.builtin "object.__class__"))
  hn : PySem.W.specialIn K (.builtin "object.__class__") "__get__" = some (some (.builtin "getset_descriptor.__get__"))
  ht : PySem.W.takesIn K (.builtin "object.__class__") = some true
  hm : PySem.W.mroIn K C (.type "object") = some true
  ne : PySem.W.findIn K (.ref C) "__ne__" = some (some (.builtin "object.__ne__"))
  sb : PySem.W.subIn K (.ref C) (.type "object") = some true
  tN : PySem.W.subIn K (.type "NoneType") (.ref C) = some false ∧ PySem.W.kitOne K (.type "NoneType") (.ref C) = some false
  tI : PySem.W.subIn K (.type "int") (.ref C) = some false ∧ PySem.W.kitOne K (.type "int") (.ref C) = some false
  tB : PySem.W.subIn K (.type "bool") (.ref C) = some false ∧ PySem.W.kitOne K (.type "bool") (.ref C) = some false
  tS : PySem.W.subIn K (.type "str") (.ref C) = some false ∧ PySem.W.kitOne K (.type "str") (.ref C) = some false
  tT : PySem.W.subIn K (.type "tuple") (.ref C) = some false ∧ PySem.W.kitOne K (.type "tuple") (.ref C) = some false
  tL : PySem.W.subIn K (.type "list") (.ref C) = some false ∧ PySem.W.kitOne K (.type "list") (.ref C) = some false
  tD : PySem.W.subIn K (.type "dict") (.ref C) = some false ∧ PySem.W.kitOne K (.type "dict") (.ref C) = some false
/-- what isinstance asks of the error class at D, and of its base -/
structure HeF (K : PySem.W.Frag) (mg : Str → Option Value) (D : Addr) : Type where
  C : Addr
  g : mg "HourError" = some (.ref C)
  k1 : PySem.W.kitOne K (.ref D) (.ref C) = some true
  k2 : PySem.W.kitOne K (.ref D) (.type "ValueError") = some true
  ec : ExcC K D
abbrev s_is_integer : Stmt := (top 1)
theorem sc_is_integer : FnScope ["thing"] ["thing"] (defScope s_is_integer) := ⟨rfl, rfl, rfl, by decide +kernel, rfl, by decide +kernel, by decide +kernel⟩
abbrev s_is_between : Stmt := (top 2)
theorem sc_is_between : FnScope ["low", "high", "thing"] ["low", "high", "thing"] (defScope s_is_between) := ⟨rfl, rfl, rfl, by decide +kernel, rfl, by decide +kernel, by decide +kernel⟩
abbrev s_is_tuple : Stmt := (top 3)
theorem sc_is_tuple : FnScope ["many", "thing"] ["many", "thing"] (defScope s_is_tuple) := ⟨rfl, rfl, rfl, by decide +kernel, rfl, by decide +kernel, by decide +kernel⟩
abbrev s_are_integers : Stmt := (top 4)
theorem sc_are_integers : FnScope ["many", "thing", "one"] ["many", "thing"] (defScope s_are_integers) := ⟨rfl, rfl, rfl, by decide +kernel, rfl, by decide +kernel, by decide +kernel⟩
abbrev s_are_between : Stmt := (top 5)
theorem sc_are_between : FnScope ["many", "low", "high", "thing", "one"] ["many", "low", "high", "thing"] (defScope s_are_between) := ⟨rfl, rfl, rfl, by decide +kernel, rfl, by decide +kernel, by decide +kernel⟩
abbrev s_are_roads : Stmt := (top 17)
theorem sc_are_roads : FnScope ["houses", "thing", "road"] ["houses", "thing"] (defScope s_are_roads) := ⟨rfl, rfl, rfl, by decide +kernel, rfl, by decide +kernel, by decide +kernel⟩
abbrev s_is_begin_and_end : Stmt := (top 18)
theorem sc_is_begin_and_end : FnScope ["houses", "thing"] ["houses", "thing"] (defScope s_is_begin_and_end) := ⟨rfl, rfl, rfl, by decide +kernel, rfl, by decide +kernel, by decide +kernel⟩
abbrev s_is_road : Stmt := (top 19)
theorem sc_is_road : FnScope ["web", "thing"] ["web", "thing"] (defScope s_is_road) := ⟨rfl, rfl, rfl, by decide +kernel, rfl, by decide +kernel, by decide +kernel⟩
abbrev s_is_way : Stmt := (top 20)
theorem sc_is_way : FnScope ["web", "thing", "road", "after"] ["web", "thing"] (defScope s_is_way) := ⟨rfl, rfl, rfl, by decide +kernel, rfl, by decide +kernel, by decide +kernel⟩
abbrev s_is_plain : Stmt := (top 25)
theorem sc_is_plain : FnScope ["web", "number"] ["web"] (defScope s_is_plain) := ⟨rfl, rfl, rfl, by decide +kernel, rfl, by decide +kernel, by decide +kernel⟩
abbrev s_are_sized_letters : Stmt := (top 27)
theorem sc_are_sized_letters : FnScope ["web", "thing", "letter"] ["web", "thing"] (defScope s_are_sized_letters) := ⟨rfl, rfl, rfl, by decide +kernel, rfl, by decide +kernel, by decide +kernel⟩
abbrev s_is_sized_letter : Stmt := (top 28)
theorem sc_is_sized_letter : FnScope ["web", "thing"] ["web", "thing"] (defScope s_is_sized_letter) := ⟨rfl, rfl, rfl, by decide +kernel, rfl, by decide +kernel, by decide +kernel⟩
abbrev s_is_size : Stmt := (top 29)
theorem sc_is_size : FnScope ["thing"] ["thing"] (defScope s_is_size) := ⟨rfl, rfl, rfl, by decide +kernel, rfl, by decide +kernel, by decide +kernel⟩
abbrev s_are_sized_hours : Stmt := (top 30)
theorem sc_are_sized_hours : FnScope ["letters", "thing", "letter", "row"] ["letters", "thing"] (defScope s_are_sized_hours) := ⟨rfl, rfl, rfl, by decide +kernel, rfl, by decide +kernel, by decide +kernel⟩
abbrev s_some_sized_early : Stmt := (top 31)
theorem sc_some_sized_early : FnScope ["letters", "hours", "_", "come", "size", "row", "firsts", "hour", "first"] ["letters", "hours"] (defScope s_some_sized_early) := ⟨rfl, rfl, rfl, by decide +kernel, rfl, by decide +kernel, by decide +kernel⟩
abbrev s_some_sized_full : Stmt := (top 32)
theorem sc_some_sized_full : FnScope ["letters", "hours", "busy", "way", "_", "size", "row", "road", "hour", "tick"] ["letters", "hours"] (defScope s_some_sized_full) := ⟨rfl, rfl, rfl, by decide +kernel, rfl, by decide +kernel, by decide +kernel⟩
abbrev s_law_hand : Stmt := (top 34)
theorem sc_law_hand : FnScope ["_law_script", "_law_cells", "_law_cell"] ["_law_script"] (defScope s_law_hand) := ⟨rfl, rfl, rfl, by decide +kernel, rfl, by decide +kernel, by decide +kernel⟩
abbrev s_law_draw : Stmt := (top 35)
theorem sc_law_draw : FnScope ["_law_hand_here", "_law_many", "_law_cell", "_law_digit", "_law_number"] ["_law_hand_here", "_law_many"] (defScope s_law_draw) := ⟨rfl, rfl, rfl, by decide +kernel, rfl, by decide +kernel, by decide +kernel⟩
abbrev s_law_roads : Stmt := (top 36)
theorem sc_law_roads : FnScope ["_law_hand_here", "_law_houses", "_law_many", "_law_roads_here", "_law_road", "_law_begin"] ["_law_hand_here", "_law_houses", "_law_many"] (defScope s_law_roads) := ⟨rfl, rfl, rfl, by decide +kernel, rfl, by decide +kernel, by decide +kernel⟩
abbrev s_law_counts : Stmt := (top 37)
theorem sc_law_counts : FnScope ["_law_hand_here", "_law_many", "_law_most", "_law_k"] ["_law_hand_here", "_law_many", "_law_most"] (defScope s_law_counts) := ⟨rfl, rfl, rfl, by decide +kernel, rfl, by decide +kernel, by decide +kernel⟩
abbrev s_law_next : Stmt := (top 38)
theorem sc_law_next : FnScope ["_law_roads_here", "_law_road", "_law_other"] ["_law_roads_here", "_law_road"] (defScope s_law_next) := ⟨rfl, rfl, rfl, by decide +kernel, rfl, by decide +kernel, by decide +kernel⟩
abbrev s_law_way : Stmt := (top 39)
theorem sc_law_way : FnScope ["_law_hand_here", "_law_roads_here", "_law_most", "_law_way_here", "_law_turn", "_law_ahead"] ["_law_hand_here", "_law_roads_here", "_law_most"] (defScope s_law_way) := ⟨rfl, rfl, rfl, by decide +kernel, rfl, by decide +kernel, by decide +kernel⟩
abbrev s_law_sized_letters : Stmt := (top 40)
theorem sc_law_sized_letters : FnScope ["_law_hand_here", "_law_roads_here", "_law_many", "_law_most", "_law_found", "_law_k", "_law_way_here"] ["_law_hand_here", "_law_roads_here", "_law_many", "_law_most"] (defScope s_law_sized_letters) := ⟨rfl, rfl, rfl, by decide +kernel, rfl, by decide +kernel, by decide +kernel⟩
abbrev s_law_led : Stmt := (top 41)
theorem sc_law_led : FnScope ["_law_hand_here", "_law_roads_here", "_law_rooms", "_law_pauses", "_law_letters", "_law_ranks", "_law_holds", "_law_rows", "_law_ready", "_law_taken", "_law_tick", "_law_order", "_law_rank", "_law_k", "_law_at", "_law_road", "_law_busy", "_law_letter", "_law_free", "_law_row"] ["_law_hand_here", "_law_roads_here", "_law_rooms", "_law_pauses", "_law_letters"] (defScope s_law_led) := ⟨rfl, rfl, rfl, by decide +kernel, rfl, by decide +kernel, by decide +kernel⟩
abbrev s_law_sized_hours : Stmt := (top 42)
theorem sc_law_sized_hours : FnScope ["_law_hand_here", "_law_roads_here", "_law_letters", "_law_pauses", "_law_letter", "_law_road"] ["_law_hand_here", "_law_roads_here", "_law_letters"] (defScope s_law_sized_hours) := ⟨rfl, rfl, rfl, by decide +kernel, rfl, by decide +kernel, by decide +kernel⟩
abbrev s_law_flag : Stmt := (top 43)
theorem sc_law_flag : FnScope ["_law_told_here", "_law_due"] ["_law_told_here", "_law_due"] (defScope s_law_flag) := ⟨rfl, rfl, rfl, by decide +kernel, rfl, by decide +kernel, by decide +kernel⟩
abbrev s_law_is_integer : Stmt := (top 44)
theorem sc_law_is_integer : FnScope ["_law_thing"] ["_law_thing"] (defScope s_law_is_integer) := ⟨rfl, rfl, rfl, by decide +kernel, rfl, by decide +kernel, by decide +kernel⟩
abbrev s_law_is_way : Stmt := (top 45)
theorem sc_law_is_way : FnScope ["_law_roads_here", "_law_thing", "_law_at"] ["_law_roads_here", "_law_thing"] (defScope s_law_is_way) := ⟨rfl, rfl, rfl, by decide +kernel, rfl, by decide +kernel, by decide +kernel⟩
abbrev s_law_put : Stmt := (top 46)
theorem sc_law_put : FnScope ["_law_thing", "_law_at", "_law_item"] ["_law_thing", "_law_at", "_law_item"] (defScope s_law_put) := ⟨rfl, rfl, rfl, by decide +kernel, rfl, by decide +kernel, by decide +kernel⟩
abbrev s_law_are_letters : Stmt := (top 47)
theorem sc_law_are_letters : FnScope ["_law_roads_here", "_law_thing", "_law_one"] ["_law_roads_here", "_law_thing"] (defScope s_law_are_letters) := ⟨rfl, rfl, rfl, by decide +kernel, rfl, by decide +kernel, by decide +kernel⟩
abbrev s_law_are_hours : Stmt := (top 48)
theorem sc_law_are_hours : FnScope ["_law_letters", "_law_thing", "_law_one", "_law_row", "_law_hour"] ["_law_letters", "_law_thing"] (defScope s_law_are_hours) := ⟨rfl, rfl, rfl, by decide +kernel, rfl, by decide +kernel, by decide +kernel⟩
abbrev s_law_fault : Stmt := (top 49)
theorem sc_law_fault : FnScope ["_law_plain", "_law_roads_here", "_law_letters", "_law_hours", "_law_busy", "_law_early", "_law_way_here", "_law_come", "_law_size", "_law_row", "_law_at", "_law_least", "_law_k"] ["_law_plain", "_law_roads_here", "_law_letters", "_law_hours"] (defScope s_law_fault) := ⟨rfl, rfl, rfl, by decide +kernel, rfl, by decide +kernel, by decide +kernel⟩
abbrev s_law_odd : Stmt := (top 50)
theorem sc_law_odd : FnScope ["_law_hand_here", "_law_odd_here"] ["_law_hand_here"] (defScope s_law_odd) := ⟨rfl, rfl, rfl, by decide +kernel, rfl, by decide +kernel, by decide +kernel⟩
abbrev s_law_spoiled_letters : Stmt := (top 51)
theorem sc_law_spoiled_letters : FnScope ["_law_hand_here", "_law_roads_here", "_law_letters", "_law_way_here", "_law_at", "_law_one", "_law_place"] ["_law_hand_here", "_law_roads_here", "_law_letters"] (defScope s_law_spoiled_letters) := ⟨rfl, rfl, rfl, by decide +kernel, rfl, by decide +kernel, by decide +kernel⟩
abbrev s_law_spoiled_hours : Stmt := (top 52)
theorem sc_law_spoiled_hours : FnScope ["_law_hand_here", "_law_hours", "_law_way_here", "_law_k", "_law_row", "_law_at", "_law_other", "_law_change", "_law_j"] ["_law_hand_here", "_law_hours"] (defScope s_law_spoiled_hours) := ⟨rfl, rfl, rfl, by decide +kernel, rfl, by decide +kernel, by decide +kernel⟩
abbrev s_law_told : Stmt := (top 53)
theorem sc_law_told : FnScope ["_law_web", "_law_letters", "_law_hours", "_law_told_here", "e"] ["_law_web", "_law_letters", "_law_hours"] (defScope s_law_told) := ⟨rfl, rfl, rfl, by decide +kernel, rfl, by decide +kernel, by decide +kernel⟩
abbrev s_law : Stmt := (top 54)
theorem sc_law : FnScope ["_law_script", "_law_hand_here", "_law_houses", "_law_roads_here", "_law_counts_here", "_law_web", "_law_plain", "_law_letters", "_law_hours", "_law_spoil", "_law_fault_here", "_law_told_here", "_law_day", "_law_later", "_law_row", "_law_hour"] ["_law_script"] (defScope s_law) := ⟨rfl, rfl, rfl, by decide +kernel, rfl, by decide +kernel, by decide +kernel⟩
abbrev s_Web___init : Stmt := inClass (top 16) 0
theorem sc_Web___init : FnScope ["self", "houses", "roads", "rooms", "times"] ["self", "houses", "roads", "rooms", "times"] (defScope s_Web___init) := ⟨rfl, rfl, rfl, by decide +kernel, rfl, by decide +kernel, by decide +kernel⟩
abbrev s_SizedDay___init : Stmt := inClass (top 26) 0
theorem sc_SizedDay___init : FnScope ["self", "web", "letters", "hours"] ["self", "web", "letters", "hours"] (defScope s_SizedDay___init) := ⟨rfl, rfl, rfl, by decide +kernel, rfl, by decide +kernel, by decide +kernel⟩
abbrev s_BadWeb___init : Stmt := inClass (top 8) 0
theorem sc_BadWeb___init : FnScope ["self", "part"] ["self", "part"] (defScope s_BadWeb___init) := ⟨rfl, rfl, rfl, by decide +kernel, rfl, by decide +kernel, by decide +kernel⟩
abbrev s_BadDay___init : Stmt := inClass (top 9) 0
theorem sc_BadDay___init : FnScope ["self", "part"] ["self", "part"] (defScope s_BadDay___init) := ⟨rfl, rfl, rfl, by decide +kernel, rfl, by decide +kernel, by decide +kernel⟩
abbrev s_Web___eq : Stmt := inClass (top 16) 1
theorem sc_Web___eq : FnScope ["self", "other"] ["self", "other"] (defScope s_Web___eq) := ⟨rfl, rfl, rfl, by decide +kernel, rfl, by decide +kernel, by decide +kernel⟩
abbrev s_SizedDay___eq : Stmt := inClass (top 26) 1
theorem sc_SizedDay___eq : FnScope ["self", "other"] ["self", "other"] (defScope s_SizedDay___eq) := ⟨rfl, rfl, rfl, by decide +kernel, rfl, by decide +kernel, by decide +kernel⟩
structure Tx (K : PySem.W.Frag) (mg : Str → Option Value) : Type where
  is_integer : Df K mg "is_integer" s_is_integer ["thing"]
  is_between : Df K mg "is_between" s_is_between ["low", "high", "thing"]
  is_tuple : Df K mg "is_tuple" s_is_tuple ["many", "thing"]
  are_integers : Df K mg "are_integers" s_are_integers ["many", "thing"]
  are_between : Df K mg "are_between" s_are_between ["many", "low", "high", "thing"]
  are_roads : Df K mg "are_roads" s_are_roads ["houses", "thing"]
  is_begin_and_end : Df K mg "is_begin_and_end" s_is_begin_and_end ["houses", "thing"]
  is_road : Df K mg "is_road" s_is_road ["web", "thing"]
  is_way : Df K mg "is_way" s_is_way ["web", "thing"]
  is_plain : Df K mg "is_plain" s_is_plain ["web"]
  are_sized_letters : Df K mg "are_sized_letters" s_are_sized_letters ["web", "thing"]
  is_sized_letter : Df K mg "is_sized_letter" s_is_sized_letter ["web", "thing"]
  is_size : Df K mg "is_size" s_is_size ["thing"]
  are_sized_hours : Df K mg "are_sized_hours" s_are_sized_hours ["letters", "thing"]
  some_sized_early : Df K mg "some_sized_early" s_some_sized_early ["letters", "hours"]
  some_sized_full : Df K mg "some_sized_full" s_some_sized_full ["letters", "hours"]
  _law_hand : Df K mg "_law_hand" s_law_hand ["_law_script"]
  _law_draw : Df K mg "_law_draw" s_law_draw ["_law_hand_here", "_law_many"]
  _law_roads : Df K mg "_law_roads" s_law_roads ["_law_hand_here", "_law_houses", "_law_many"]
  _law_counts : Df K mg "_law_counts" s_law_counts ["_law_hand_here", "_law_many", "_law_most"]
  _law_next : Df K mg "_law_next" s_law_next ["_law_roads_here", "_law_road"]
  _law_way : Df K mg "_law_way" s_law_way ["_law_hand_here", "_law_roads_here", "_law_most"]
  _law_sized_letters : Df K mg "_law_sized_letters" s_law_sized_letters ["_law_hand_here", "_law_roads_here", "_law_many", "_law_most"]
  _law_led : Df K mg "_law_led" s_law_led ["_law_hand_here", "_law_roads_here", "_law_rooms", "_law_pauses", "_law_letters"]
  _law_sized_hours : Df K mg "_law_sized_hours" s_law_sized_hours ["_law_hand_here", "_law_roads_here", "_law_letters"]
  _law_flag : Df K mg "_law_flag" s_law_flag ["_law_told_here", "_law_due"]
  _law_is_integer : Df K mg "_law_is_integer" s_law_is_integer ["_law_thing"]
  _law_is_way : Df K mg "_law_is_way" s_law_is_way ["_law_roads_here", "_law_thing"]
  _law_put : Df K mg "_law_put" s_law_put ["_law_thing", "_law_at", "_law_item"]
  _law_are_letters : Df K mg "_law_are_letters" s_law_are_letters ["_law_roads_here", "_law_thing"]
  _law_are_hours : Df K mg "_law_are_hours" s_law_are_hours ["_law_letters", "_law_thing"]
  _law_fault : Df K mg "_law_fault" s_law_fault ["_law_plain", "_law_roads_here", "_law_letters", "_law_hours"]
  _law_odd : Df K mg "_law_odd" s_law_odd ["_law_hand_here"]
  _law_spoiled_letters : Df K mg "_law_spoiled_letters" s_law_spoiled_letters ["_law_hand_here", "_law_roads_here", "_law_letters"]
  _law_spoiled_hours : Df K mg "_law_spoiled_hours" s_law_spoiled_hours ["_law_hand_here", "_law_hours"]
  _law_told : Df K mg "_law_told" s_law_told ["_law_web", "_law_letters", "_law_hours"]
  law : Df K mg "law" s_law ["_law_script"]
  c_MOST_HOUSES : ∃ t, mg "MOST_HOUSES" = some (.int 12 t)
  c_MOST_ROADS : ∃ t, mg "MOST_ROADS" = some (.int 24 t)
  c_MOST_ROOMS : ∃ t, mg "MOST_ROOMS" = some (.int 3 t)
  c_LONGEST_TIME : ∃ t, mg "LONGEST_TIME" = some (.int 3 t)
  c_LONGEST_WAY : ∃ t, mg "LONGEST_WAY" = some (.int 8 t)
  c_MOST_LETTERS : ∃ t, mg "MOST_LETTERS" = some (.int 60 t)
  c_LAST_TICK : ∃ t, mg "LAST_TICK" = some (.int 1000000 t)
  c_SIZES : ∃ a, mg "SIZES" = some (.ref a) ∧ ∀ H, SqT K H a [.int 1, .int 2]
  Web : Wf K mg "Web" "Web.__init__" s_Web___init ["self", "houses", "roads", "rooms", "times"] ["houses", "roads", "rooms", "times"]
  SizedDay : Wf K mg "SizedDay" "SizedDay.__init__" s_SizedDay___init ["self", "web", "letters", "hours"] ["web", "letters", "hours"]
  x_BadWeb : Xf K mg "BadWeb" "BadWeb.__init__" s_BadWeb___init ["self", "part"] ["part"]
  x_BadDay : Xf K mg "BadDay" "BadDay.__init__" s_BadDay___init ["self", "part"] ["part"]
  e_Web : Ef K Web.C "Web.__eq__" s_Web___eq ["self", "other"]
  e_SizedDay : Ef K SizedDay.C "SizedDay.__eq__" s_SizedDay___eq ["self", "other"]
  n_isinstance : mg "isinstance" = none
  n_int : mg "int" = none
  n_bool : mg "bool" = none
  n_tuple : mg "tuple" = none
  n_list : mg "list" = none
  n_len : mg "len" = none
  n_all : mg "all" = none
  n_any : mg "any" = none
  n_abs : mg "abs" = none
  n_range : mg "range" = none
  n_zip : mg "zip" = none
  n_sorted : mg "sorted" = none
  n_set : mg "set" = none
  n_max : mg "max" = none

section
variable {P : Program} {w : World} {K : PySem.W.Frag} {mg : Str → Option Value} {base : Heap}
def spThing (g : D → Bool) : Sp := fun vs H Q _ => ∃ (h : Addr) (v : V) (d : D), vs = [v] ∧ Rp H h v d ∧ Q (.bl (g d)) H
theorem ok_is_integer (T : Tx K mg) : FnOk P w K mg base CX0 1 T.is_integer.f T.is_integer.fd ["thing"] (spThing isInt) := by
  refine T.is_integer.F.ok sc_is_integer (fun vs H Q E h => ?_) (fun cdv A outer s H vs Q E hr h => ?_)
  · obtain ⟨_, v, d, rfl, _⟩ := h
    rfl
  · obtain ⟨_, v, d, rfl, r, k⟩ := h
    refine ⟨_, (pss_one (ps_ret (pe_and (pe_callB call_isi (by rfl) T.n_isinstance (by decide +kernel) (pa_cons (pv 0) (pa_cons (pe_bltn (v := .ty "int") (by rfl) T.n_int (by decide +kernel) rfl) pa_nil))) (pe_one (pe_not (pe_callB call_isi (by rfl) T.n_isinstance (by decide +kernel) (pa_cons (pv 0) (pa_cons (pe_bltn (v := .ty "bool") (by rfl) T.n_bool (by decide +kernel) rfl) pa_nil)))))))), ?_⟩
    refine ⟨_, rfl, _, _, _, _, _, rfl, .ty "int", r.ty, kit_ty (kitI d), _, rfl, ?_⟩
    cases e : isIB d with
    | false =>
      refine iteF ?_
      have : isInt d = false := by cases d <;> first | rfl | exact Bool.noConfusion e
      rw [this] at k
      exact k
    | true =>
      refine iteT ?_
      refine ⟨_, rfl, _, _, _, _, _, rfl, .ty "bool", r.ty, kit_ty (kitBo d), _, rfl, ?_⟩
      have : (!isB d) = isInt d := by cases d <;> first | rfl | exact Bool.noConfusion e
      rw [this]
      exact k
def spBtw : Sp := fun vs H Q _ => ∃ (h : Addr) (lo hi : Int) (v : V) (d : D), vs = [.int lo, .int hi, v] ∧ Rp H h v d ∧ Q (.bl (isBtw lo hi d)) H
theorem ok_is_between (T : Tx K mg) : FnOk P w K mg base CX0 2 T.is_between.f T.is_between.fd ["low", "high", "thing"] spBtw := by
  refine T.is_between.F.ok sc_is_between (fun vs H Q E h => ?_) (fun cdv A outer s H vs Q E hr h => ?_)
  · obtain ⟨_, lo, hi, v, d, rfl, _⟩ := h
    rfl
  · obtain ⟨_, lo, hi, v, d, rfl, r, k⟩ := h
    refine ⟨_, (pss_one (ps_ret (pe_and (pe_call (ok_is_integer T) (hr.mono (by decide)) rfl T.is_integer.g T.is_integer.F.kp T.is_integer.b .nil pass0 (pa_cons (pv 2) pa_nil)) (pe_one (pe_chain op_le op_le (pv 0) (pv 2) (pv 1)))))), ?_⟩
    refine ⟨_, rfl, _, v, d, rfl, r, _, rfl, ?_⟩
    cases r with
    | int i =>
      refine iteT ?_
      refine ⟨_, rfl, _, rfl, _, _, rfl, rfl, _, rfl, ?_⟩
      by_cases h1 : lo ≤ i
      · rw [decide_eq_true h1]
        refine iteT ?_
        refine ⟨_, rfl, _, _, rfl, rfl, ?_⟩
        have : isBtw lo hi (.int i) = decide (i ≤ hi) := by show (decide (lo ≤ i) && decide (i ≤ hi)) = _; rw [decide_eq_true h1]; rfl
        rw [this] at k
        exact k
      · rw [decide_eq_false h1]
        refine iteF ?_
        have : isBtw lo hi (.int i) = false := by show (decide (lo ≤ i) && decide (i ≤ hi)) = _; rw [decide_eq_false h1]; rfl
        rw [this] at k
        exact k
    | _ => exact iteF k
def isTupN (n : Int) : D → Bool | .tup ds => decide ((ds.length : Int) = n) | _ => false
def spTupN : Sp := fun vs H Q _ => ∃ (h : Addr) (n : Int) (v : V) (d : D), vs = [.int n, v] ∧ Rp H h v d ∧ Q (.bl (isTupN n d)) H
theorem int_eqd (a b : Int) : decide (V.int a = V.int b) = decide (a = b) := by
  by_cases e : a = b
  · subst e; simp
  · rw [decide_eq_false e, decide_eq_false fun z => e (V.int.inj z)]
theorem ok_is_tuple (T : Tx K mg) : FnOk P w K mg base CX0 1 T.is_tuple.f T.is_tuple.fd ["many", "thing"] spTupN := by
  refine T.is_tuple.F.ok sc_is_tuple (fun vs H Q E h => ?_) (fun cdv A outer s H vs Q E hr h => ?_)
  · obtain ⟨_, n, v, d, rfl, _⟩ := h
    rfl
  · obtain ⟨ha, n, v, d, rfl, r, k⟩ := h
    refine ⟨_, (pss_one (ps_ret (pe_and (pe_callB call_isi (by rfl) T.n_isinstance (by decide +kernel) (pa_cons (pv 1) (pa_cons (pe_bltn (v := .ty "tuple") (by rfl) T.n_tuple (by decide +kernel) rfl) pa_nil))) (pe_one (pe_cmpR op_eq (pe_callB call_len_seq (by rfl) T.n_len (by decide +kernel) (pa_cons (pv 1) pa_nil)) (pv 0) (nomark _)))))), ?_⟩
    refine ⟨_, rfl, _, _, _, _, _, rfl, .ty "tuple", r.ty, kit_ty (kitT d), _, rfl, ?_⟩
    cases r with
    | @tup _ xs ds e z ra =>
      refine iteT ?_
      refine ⟨_, rfl, _, _, rfl, .inr (SqT.of e), _, rfl, rfl, ?_⟩
      rw [int_eqd, ra.len]
      exact k
    | _ => exact iteF k
def spPair : Sp := fun vs H Q _ => ∃ (h : Addr) (v : V) (d : D), vs = [v] ∧ Rp H h v d ∧ Q (.bl (isTupN 2 d)) H
def spInts : Sp := fun vs H Q _ => ∃ (h : Addr) (n : Int) (v : V) (d : D), vs = [.int n, v] ∧ Rp H h v d ∧ ∀ H', Same H H' → Q (.bl (areInts n d)) H'
theorem areInts_tup (n : Int) (ds : List D) : areInts n (.tup ds) = (decide ((ds.length : Int) = n) && ds.all isInt) := rfl
theorem areBtw_tup (n lo hi : Int) (ds : List D) : areBtw n lo hi (.tup ds) = (decide ((ds.length : Int) = n) && ds.all (isBtw lo hi)) := rfl
theorem areRoads_tup (n : Int) (ds : List D) : areRoads n (.tup ds) = (decide (1 ≤ ds.length) && decide (ds.length ≤ 24) && ds.all (isBE n)) := rfl
theorem map_all (ds : List D) (p : D → Bool) : (ds.map p).all id = ds.all p := by rw [List.all_map]; rfl
theorem ok_are_integers (T : Tx K mg) : FnOk P w K mg base CX0 2 T.are_integers.f T.are_integers.fd ["many", "thing"] spInts := by
  refine T.are_integers.F.ok sc_are_integers (fun vs H Q E h => ?_) (fun cdv A outer s H vs Q E hr h => ?_)
  · obtain ⟨_, n, v, d, rfl, _⟩ := h
    rfl
  · obtain ⟨ha, n, v, d, rfl, r, k⟩ := h
    refine ⟨_, (pss_one (ps_ret (pe_and (pe_call (ok_is_tuple T) (hr.mono (by decide)) rfl T.is_tuple.g T.is_tuple.F.kp T.is_tuple.b .nil pass0 (pa_cons (pv 0) (pa_cons (pv 1) pa_nil))) (pe_one (pe_callB (cr_all rfl) (by rfl) T.n_all (by decide +kernel) (pa_cons (pe_lc (own := [("one", 2)]) (g := (gName 2)) (tt := tYes) rfl sc_are_integers.nd (pi_tup (pv 1)) (blkOk_by (own := [("one", 2)]) (N := ["many", "thing", "one"]) (sc := defScope s_are_integers) (by decide +kernel)) (fun _ _ _ _ _ => (pg_name (i := 2) sc_are_integers.nd rfl (Or.inl rfl))) (fun _ _ _ _ _ => pts_nil) (fun _ _ _ _ _ => (by exact (pe_call (ok_is_integer T) (hr.mono (by decide)) rfl T.is_integer.g T.is_integer.F.kp T.is_integer.b .nil pass0 (pa_cons (pv 2) pa_nil))))) pa_nil)))))), ?_⟩
    refine ⟨_, rfl, _, rfl, ha, n, v, d, rfl, r, _, rfl, ?_⟩
    cases r with
    | @tup _ xs ds e z ra =>
      show if decide ((ds.length : Int) = n) = true then _ else _
      by_cases hn : (ds.length : Int) = n
      · rw [decide_eq_true hn]
        refine iteT ?_
        refine ⟨_, rfl, _, rfl, ⟨_, SqT.of e⟩, fun A hA => all_tup e z ra isInt hA (fun x => rfl) (fun x d H' Q' _ _ rp q => ?_) (fun H' sm sl => ?_)⟩
        · exact ⟨_, rfl, ha, _, _, rfl, rp, q _ (Same.refl _)⟩
        · refine ⟨_, _, rfl, sl, ?_⟩
          rw [map_all]
          have := k H' sm
          rw [areInts_tup, decide_eq_true hn] at this
          exact this
      · rw [decide_eq_false hn]
        refine iteF ?_
        have := k H (Same.refl _)
        rw [areInts_tup, decide_eq_false hn] at this
        exact this
    | _ => exact iteF (k H (Same.refl _))
def spBtws : Sp := fun vs H Q _ => ∃ (h : Addr) (n lo hi : Int) (v : V) (d : D), vs = [.int n, .int lo, .int hi, v] ∧ Rp H h v d ∧ ∀ H', Same H H' → Q (.bl (areBtw n lo hi d)) H'
theorem btw_int (lo hi : Int) (ds : List D) : (ds.all isInt && ds.all (isBtw lo hi)) = ds.all (isBtw lo hi) := by
  cases e : ds.all (isBtw lo hi) with
  | false => rw [Bool.and_false]
  | true =>
    rw [Bool.and_true, List.all_eq_true]
    rw [List.all_eq_true] at e
    intro d hd
    have := e d hd
    cases d <;> first | rfl | exact Bool.noConfusion this
theorem ok_are_between (T : Tx K mg) : FnOk P w K mg base CX0 3 T.are_between.f T.are_between.fd ["many", "low", "high", "thing"] spBtws := by
  refine T.are_between.F.ok sc_are_between (fun vs H Q E h => ?_) (fun cdv A outer s H vs Q E hr h => ?_)
  · obtain ⟨_, n, lo, hi, v, d, rfl, _⟩ := h
    rfl
  · obtain ⟨ha, n, lo, hi, v, d, rfl, r, k⟩ := h
    refine ⟨_, (pss_one (ps_ret (pe_and (pe_call (ok_are_integers T) (hr.mono (by decide)) rfl T.are_integers.g T.are_integers.F.kp T.are_integers.b .nil pass0 (pa_cons (pv 0) (pa_cons (pv 3) pa_nil))) (pe_one (pe_callB (cr_all rfl) (by rfl) T.n_all (by decide +kernel) (pa_cons (pe_lc (own := [("one", 4)]) (g := (gName 4)) (tt := tYes) rfl sc_are_between.nd (pi_tup (pv 3)) (blkOk_by (own := [("one", 4)]) (N := ["many", "low", "high", "thing", "one"]) (sc := defScope s_are_between) (by decide +kernel)) (fun _ _ _ _ _ => (pg_name (i := 4) sc_are_between.nd rfl (Or.inl rfl))) (fun _ _ _ _ _ => pts_nil) (fun _ _ _ _ _ => (by exact (pe_chain op_le op_le (pv 1) (pv 4) (pv 2))))) pa_nil)))))), ?_⟩
    refine ⟨_, rfl, _, rfl, ha, _, _, _, rfl, r, fun H1 s1 => ⟨_, rfl, ?_⟩⟩
    cases e1 : areInts n d with
    | false =>
      refine iteF ?_
      have : areBtw n lo hi d = false := by
        cases d with
        | tup ds =>
          show (decide _ && ds.all (isBtw lo hi)) = false
          rw [← btw_int, ← Bool.and_assoc]
          have e2 : (decide ((ds.length : Int) = n) && ds.all isInt) = false := e1
          rw [e2]; rfl
        | _ => rfl
      have q := k H1 s1
      rw [this] at q
      exact q
    | true =>
      refine iteT ?_
      cases r.same s1 with
      | tup e z ra =>
        refine ⟨_, rfl, _, rfl, ⟨_, SqT.of e⟩, fun A hA => all_tup e z ra (isBtw lo hi) hA (fun x => rfl) (fun x d H' Q' hd _ rp q => ?_) (fun H' sm sl => ?_)⟩
        · have e2 := (Bool.and_eq_true_iff.mp e1).2
          rw [List.all_eq_true] at e2
          have e3 := e2 d hd
          cases rp with
          | int i =>
            refine ⟨_, rfl, _, rfl, _, _, rfl, rfl, _, rfl, ?_⟩
            by_cases h1 : lo ≤ i
            · rw [decide_eq_true h1]
              refine iteT ?_
              refine ⟨_, rfl, _, _, rfl, rfl, ?_⟩
              have : isBtw lo hi (.int i) = decide (i ≤ hi) := by show (decide (lo ≤ i) && decide (i ≤ hi)) = _; rw [decide_eq_true h1]; rfl
              have q2 := q _ (Same.refl _)
              rw [this] at q2
              exact q2
            · rw [decide_eq_false h1]
              refine iteF ?_
              have : isBtw lo hi (.int i) = false := by show (decide (lo ≤ i) && decide (i ≤ hi)) = _; rw [decide_eq_false h1]; rfl
              have q2 := q _ (Same.refl _)
              rw [this] at q2
              exact q2
          | _ => exact Bool.noConfusion e3
        · refine ⟨_, _, rfl, sl, ?_⟩
          rw [map_all]
          have := k H' (s1.trans sm)
          have e4 := (Bool.and_eq_true_iff.mp e1).1
          rw [areBtw_tup, e4] at this
          exact this
      | _ => exact Bool.noConfusion e1
def spBE : Sp := fun vs H Q _ => ∃ (h : Addr) (n : Int) (v : V) (d : D), vs = [.int n, v] ∧ Rp H h v d ∧ ∀ H', Same H H' → Q (.bl (isBE n d)) H'
theorem be_false {n : Int} {d : D} (e : areBtw 2 0 (n - 1) d = false) : isBE n d = false := by
  unfold isBE
  rw [e]; rfl
theorem be_true {n : Int} {d : D} (e : areBtw 2 0 (n - 1) d = true) : ∃ a b, d = .tup [.int a, .int b] ∧ isBE n d = !decide (a = b) := by
  have e0 := e
  cases d with
  | tup ds =>
    rw [areBtw_tup] at e
    obtain ⟨h1, h2⟩ := Bool.and_eq_true_iff.mp e
    have h3 := of_decide_eq_true h1
    match ds, h3 with
    | [x, y], _ =>
      rw [List.all_cons, List.all_cons, List.all_nil, Bool.and_true] at h2
      obtain ⟨h4, h5⟩ := Bool.and_eq_true_iff.mp h2
      cases x with
      | int a =>
        cases y with
        | int b =>
          refine ⟨a, b, rfl, ?_⟩
          unfold isBE
          rw [e0]; rfl
        | _ => exact Bool.noConfusion h5
      | _ => exact Bool.noConfusion h4
    | [], h => simp at h
    | [_], h => simp at h
    | _ :: _ :: _ :: _, h => simp at h; omega
  | _ => exact Bool.noConfusion e
theorem ok_is_begin_and_end (T : Tx K mg) : FnOk P w K mg base CX0 4 T.is_begin_and_end.f T.is_begin_and_end.fd ["houses", "thing"] spBE := by
  refine T.is_begin_and_end.F.ok sc_is_begin_and_end (fun vs H Q E h => ?_) (fun cdv A outer s H vs Q E hr h => ?_)
  · obtain ⟨_, n, v, d, rfl, _⟩ := h
    rfl
  · obtain ⟨ha, n, v, d, rfl, r, k⟩ := h
    refine ⟨_, (pss_one (ps_ret (pe_and (pe_call (ok_are_between T) (hr.mono (by decide)) rfl T.are_between.g T.are_between.F.kp T.are_between.b .nil pass0 (pa_cons pe_int (pa_cons pe_int (pa_cons (pe_op op_sub (pv 0) pe_int) (pa_cons (pv 1) pa_nil))))) (pe_one (pe_cmpR op_ne (pe_ix ix_tup (pv 1) pe_int (fun _ _ => rfl)) (pe_ix ix_tup (pv 1) pe_int (fun _ _ => rfl)) (nomark _)))))), ?_⟩
    refine ⟨_, rfl, _, _, rfl, rfl, _, rfl, ha, _, _, _, _, _, rfl, r, fun H1 s1 => ⟨_, rfl, ?_⟩⟩
    cases e1 : areBtw 2 0 (n - 1) d with
    | false =>
      refine iteF ?_
      have q := k H1 s1
      rw [be_false e1] at q
      exact q
    | true =>
      refine iteT ?_
      obtain ⟨a, b, rfl, e2⟩ := be_true e1
      have q := k H1 s1
      rw [e2] at q
      cases r.same s1 with
      | tup e z ra =>
        cases ra with
        | cons r1 ra =>
          cases ra with
          | cons r2 ra =>
            cases ra
            cases r1
            cases r2
            refine ⟨_, rfl, _, _, _, _, rfl, rfl, SqT.of e, atI_nat (j := 0) rfl, _, rfl, _, _, _, _, rfl, rfl, SqT.of e, atI_nat (j := 1) rfl, rfl, ?_⟩
            rw [int_eqd]
            exact q
def spRoads : Sp := fun vs H Q _ => ∃ (h : Addr) (n : Int) (v : V) (d : D), vs = [.int n, v] ∧ Rp H h v d ∧ ∀ H', Same H H' → Q (.bl (areRoads n d)) H'
theorem ok_are_roads (T : Tx K mg) : FnOk P w K mg base CX0 5 T.are_roads.f T.are_roads.fd ["houses", "thing"] spRoads := by
  refine T.are_roads.F.ok sc_are_roads (fun vs H Q E h => ?_) (fun cdv A outer s H vs Q E hr h => ?_)
  · obtain ⟨_, n, v, d, rfl, _⟩ := h
    rfl
  · obtain ⟨ha, n, v, d, rfl, r, k⟩ := h
    refine ⟨_, (pss_one (ps_ret (pe_and (pe_callB call_isi (by rfl) T.n_isinstance (by decide +kernel) (pa_cons (pv 1) (pa_cons (pe_bltn (v := .ty "tuple") (by rfl) T.n_tuple (by decide +kernel) rfl) pa_nil))) (pe_and (pe_chain op_le op_le pe_int (pe_callB call_len_seq (by rfl) T.n_len (by decide +kernel) (pa_cons (pv 1) pa_nil)) (pe_glob (v := .int 24) rfl T.c_MOST_ROADS.choose_spec ⟨_, rfl⟩)) (pe_one (pe_callB (cr_all rfl) (by rfl) T.n_all (by decide +kernel) (pa_cons (pe_lc (own := [("road", 2)]) (g := (gName 2)) (tt := tYes) rfl sc_are_roads.nd (pi_tup (pv 1)) (blkOk_by (own := [("road", 2)]) (N := ["houses", "thing", "road"]) (sc := defScope s_are_roads) (by decide +kernel)) (fun _ _ _ _ _ => (pg_name (i := 2) sc_are_roads.nd rfl (Or.inl rfl))) (fun _ _ _ _ _ => pts_nil) (fun _ _ _ _ _ => (by exact (pe_call (ok_is_begin_and_end T) (hr.mono (by decide)) rfl T.is_begin_and_end.g T.is_begin_and_end.F.kp T.is_begin_and_end.b .nil pass0 (pa_cons (pv 0) (pa_cons (pv 2) pa_nil)))))) pa_nil))))))), ?_⟩
    refine ⟨_, rfl, _, _, _, _, _, rfl, .ty "tuple", r.ty, kit_ty (kitT d), _, rfl, ?_⟩
    cases r with
    | @tup _ xs ds e z ra =>
      refine iteT ?_
      refine ⟨_, rfl, _, _, rfl, .inr (SqT.of e), _, _, rfl, rfl, _, rfl, ?_⟩
      rw [ra.len]
      by_cases h1 : 1 ≤ ds.length
      · rw [decide_eq_true (show (1 : Int) ≤ (ds.length : Int) by omega)]
        refine iteT ?_
        refine ⟨_, _, rfl, rfl, _, rfl, ?_⟩
        by_cases h2 : ds.length ≤ 24
        · rw [decide_eq_true (show (ds.length : Int) ≤ 24 by omega)]
          refine iteT ?_
          refine ⟨_, rfl, _, rfl, ⟨_, SqT.of e⟩, fun A hA => all_tup e z ra (isBE n) hA (fun x => rfl) (fun x d H' Q' _ _ rp q => ?_) (fun H' sm sl => ?_)⟩
          · exact ⟨_, rfl, _, rfl, ha, _, _, _, rfl, rp, q⟩
          · refine ⟨_, _, rfl, sl, ?_⟩
            rw [map_all]
            have := k H' sm
            rw [areRoads_tup, decide_eq_true h1, decide_eq_true h2] at this
            exact this
        · rw [decide_eq_false (show ¬ (ds.length : Int) ≤ 24 by omega)]
          refine iteF ?_
          have := k H (Same.refl _)
          rw [areRoads_tup, decide_eq_true h1, decide_eq_false h2] at this
          exact this
      · rw [decide_eq_false (show ¬ (1 : Int) ≤ (ds.length : Int) by omega)]
        refine iteF ?_
        have := k H (Same.refl _)
        rw [areRoads_tup, decide_eq_false h1] at this
        exact ⟨_, rfl, iteF this⟩
    | _ => exact iteF (k H (Same.refl _))
theorem btw_shape {lo hi : Int} {d : D} (e : isBtw lo hi d = true) : ∃ n, d = .int n := by
  cases d with
  | int n => exact ⟨n, rfl⟩
  | _ => exact Bool.noConfusion e
theorem roads_shape {n : Int} {d : D} (e : areRoads n d = true) : ∃ ds, d = .tup ds := by
  cases d with
  | tup ds => exact ⟨ds, rfl⟩
  | _ => exact Bool.noConfusion e
theorem tup_inv {H : Hp} {h : Addr} {v : V} {ds : List D} (r : Rp H h v (.tup ds)) : ∃ a xs, v = .ref a ∧ H a = some (.tup xs) ∧ xs.length ≤ 100000 ∧ RpA H h xs ds := by
  cases r with
  | tup e z ra => exact ⟨_, _, rfl, e, z, ra⟩
theorem int_inv {H : Hp} {h : Addr} {v : V} {i : Int} (r : Rp H h v (.int i)) : v = .int i := by
  cases r; rfl
theorem putF_lt {f : Str} {v : V} : ∀ {fs : List (Str × V)} {n : Nat}, fs.length < n → (putF f v fs).length < n + 1
  | [], n, h => by show 1 < n + 1; have : 0 < n := h; omega
  | (g, w) :: fs, n, h => by
    have h' : fs.length + 1 < n := h
    show (if g = f then (g, v) :: fs else (g, w) :: putF f v fs).length < n + 1
    by_cases e : g = f
    · rw [if_pos e]; show fs.length + 1 < n + 1; omega
    · rw [if_neg e]
      have := putF_lt (f := f) (v := v) (fs := fs) (n := n - 1) (by omega)
      show (putF f v fs).length + 1 < n + 1
      omega
/-- the error's own dict behind it -/
def spInitE (C : Addr) (f : Str) : Sp := fun vs H Q _ => ∃ (a : Addr) (y : V), vs = [.ref a, y] ∧ H a = some (exo a C none) ∧
  ∀ dx, H dx = none → dx ≠ a → Q .non (upd (upd H dx (exd dx [(f, y)])) a (exo a C (some dx)))
theorem ok_BadWeb___init (T : Tx K mg) : FnOk P w K mg base (L2.CX P w) 1 T.x_BadWeb.f T.x_BadWeb.fd ["self", "part"] (spInitE T.x_BadWeb.C "part") := by
  refine T.x_BadWeb.F.okX sc_BadWeb___init (fun vs H Q E h => ?_) (fun cdv A outer s H vs Q E hr h => ?_)
  · obtain ⟨a, y, rfl, _⟩ := h
    rfl
  · obtain ⟨a, y, rfl, ha, k⟩ := h
    refine ⟨_, pss_one (ps_ost (pv 0) (pv 1)), ?_⟩
    exact ⟨_, rfl, _, rfl, a, T.x_BadWeb.C, rfl, T.x_BadWeb.T, T.x_BadWeb.no _ (by simp), .inl ⟨ha, fun dx n ne => k dx n ne⟩⟩
def dlen : D → Nat | .tup ds => ds.length | _ => 0
def num : D → Int | .int i => i | _ => 0
/-- the first part that is not as told -/
def due (d1 d2 d3 d4 : D) : Option Str :=
  if isBtw 2 12 d1 = false then some "houses" else if areRoads (num d1) d2 = false then some "roads"
  else if areBtw (dlen d2) 1 3 d3 = false then some "rooms" else if areBtw (dlen d2) 1 3 d4 = false then some "times" else none
def webF (v1 v2 v3 v4 : V) : List (Str × V) := putF "times" v4 (putF "rooms" v3 (putF "roads" v2 (putF "houses" v1 [])))
def spWeb (C CB : Addr) : Sp := fun vs H Q E => ∃ (h p dx : Addr) (v1 v2 v3 v4 : V) (d1 d2 d3 d4 : D), vs = [.ref p, v1, v2, v3, v4] ∧ H p = some (.ins C dx []) ∧
  Rp H h v1 d1 ∧ Rp H h v2 d2 ∧ Rp H h v3 d3 ∧ Rp H h v4 d4 ∧
  (due d1 d2 d3 d4 = none → ∀ H', But p H H' → H' p = some (.ins C dx (webF v1 v2 v3 v4)) → Q .non H') ∧
  (∀ part, due d1 d2 d3 d4 = some part → ∀ H' d, Same H H' → H' d = some (.xd [("part", .str part)]) → E (.ref CB) (some d) H')
theorem err_same {H H1 : Hp} {a d C : Addr} {f : Str} {y : V} (s : Same H H1) (ha : H1 a = none) (hd : (upd H1 a (exo a C none)) d = none) (ne : d ≠ a) :
    Same H (upd (del (upd (upd (upd H1 a (exo a C none)) d (exd d [(f, y)])) a (exo a C (some d))) a) d (.xd [(f, y)])) := fun b o q => by
  have q1 := s b o q
  have n1 : b ≠ a := ne_of_none q1 ha
  have n2 : b ≠ d := fun z => by subst z; rw [upd_ne n1, q1] at hd; cases hd
  rw [upd_ne n2, del_ne n1, upd_ne n1, upd_ne n2, upd_ne n1]
  exact q1
theorem ok_Web___init (T : Tx K mg) : FnOk P w K mg base (L2.CX P w) 7 T.Web.f T.Web.fd ["self", "houses", "roads", "rooms", "times"] (spWeb T.Web.C T.x_BadWeb.C) := by
  refine T.Web.F.okX sc_Web___init (fun vs H Q E h => ?_) (fun cdv A outer s H vs Q E hr h => ?_)
  · obtain ⟨ha, p, dx, v1, v2, v3, v4, d1, d2, d3, d4, rfl, _⟩ := h
    rfl
  · obtain ⟨ha, p, dx, v1, v2, v3, v4, d1, d2, d3, d4, rfl, hp, r1, r2, r3, r4, kq, ke⟩ := h
    refine ⟨_, (pss_cons (ps_if (pt_not (pt_val (pe_call (ok_is_between T) (hr.mono (by decide)) rfl T.is_between.g T.is_between.F.kp T.is_between.b .nil pass0 (pa_cons pe_int (pa_cons (pe_glob (v := .int 12) rfl T.c_MOST_HOUSES.choose_spec ⟨_, rfl⟩) (pa_cons (pv 1) pa_nil))))))
      (pss_one (ps_raise rfl (takes_of rfl rfl rfl rfl) (pmk_oex T.x_BadWeb.T T.x_BadWeb.iC T.x_BadWeb.tI (ok_BadWeb___init T) (hr.mono (by decide)) T.x_BadWeb.b .nil passL rfl T.x_BadWeb.g (pa_cons pe_str pa_nil))))
      pss_nil)
      (pss_cons (ps_if (pt_not (pt_val (pe_call (ok_are_roads T) (hr.mono (by decide)) rfl T.are_roads.g T.are_roads.F.kp T.are_roads.b .nil pass0 (pa_cons (pv 1) (pa_cons (pv 2) pa_nil)))))
      (pss_one (ps_raise rfl (takes_of rfl rfl rfl rfl) (pmk_oex T.x_BadWeb.T T.x_BadWeb.iC T.x_BadWeb.tI (ok_BadWeb___init T) (hr.mono (by decide)) T.x_BadWeb.b .nil passL rfl T.x_BadWeb.g (pa_cons pe_str pa_nil))))
      pss_nil)
      (pss_cons (ps_if (pt_not (pt_val (pe_call (ok_are_between T) (hr.mono (by decide)) rfl T.are_between.g T.are_between.F.kp T.are_between.b .nil pass0 (pa_cons (pe_callB call_len_seq (by rfl) T.n_len (by decide +kernel) (pa_cons (pv 2) pa_nil)) (pa_cons pe_int (pa_cons (pe_glob (v := .int 3) rfl T.c_MOST_ROOMS.choose_spec ⟨_, rfl⟩) (pa_cons (pv 3) pa_nil)))))))
      (pss_one (ps_raise rfl (takes_of rfl rfl rfl rfl) (pmk_oex T.x_BadWeb.T T.x_BadWeb.iC T.x_BadWeb.tI (ok_BadWeb___init T) (hr.mono (by decide)) T.x_BadWeb.b .nil passL rfl T.x_BadWeb.g (pa_cons pe_str pa_nil))))
      pss_nil)
      (pss_cons (ps_if (pt_not (pt_val (pe_call (ok_are_between T) (hr.mono (by decide)) rfl T.are_between.g T.are_between.F.kp T.are_between.b .nil pass0 (pa_cons (pe_callB call_len_seq (by rfl) T.n_len (by decide +kernel) (pa_cons (pv 2) pa_nil)) (pa_cons pe_int (pa_cons (pe_glob (v := .int 3) rfl T.c_LONGEST_TIME.choose_spec ⟨_, rfl⟩) (pa_cons (pv 4) pa_nil)))))))
      (pss_one (ps_raise rfl (takes_of rfl rfl rfl rfl) (pmk_oex T.x_BadWeb.T T.x_BadWeb.iC T.x_BadWeb.tI (ok_BadWeb___init T) (hr.mono (by decide)) T.x_BadWeb.b .nil passL rfl T.x_BadWeb.g (pa_cons pe_str pa_nil))))
      pss_nil)
      (pss_cons (ps_fld (pv 0) (pv 1) rfl)
      (pss_cons (ps_fld (pv 0) (pv 2) rfl)
      (pss_cons (ps_fld (pv 0) (pv 3) rfl)
      (pss_one (ps_fld (pv 0) (pv 4) rfl))))))))), ?_⟩
    have raise : ∀ (part : Str) (H1 : Hp), Same H H1 → due d1 d2 d3 d4 = some part → ∀ a, H1 a = none →
        spInitE T.x_BadWeb.C "part" [.ref a, .str part] (upd H1 a (exo a T.x_BadWeb.C none)) (fun v H2 => v = .non ∧ ∃ (d : Addr) (fs : List (Str × V)), H2 a = some (exo a T.x_BadWeb.C (some d)) ∧ H2 d = some (exd d fs) ∧ H1 d = none ∧
          E (.ref T.x_BadWeb.C) (some d) (upd (del H2 a) d (.xd fs))) (fun _ _ _ => False) := by
      intro part H1 s1 hdue a hA
      refine ⟨a, _, rfl, upd_same, fun d hd nd => ⟨rfl, d, [("part", .str part)], upd_same, ?_, ?_, ?_⟩⟩
      · rw [upd_ne nd, upd_same]
      · rw [upd_ne nd] at hd; exact hd
      · exact ke part hdue _ d (err_same s1 hA hd nd) upd_same
    refine ⟨_, rfl, ha, _, _, _, _, rfl, r1, _, rfl, ?_⟩
    cases e1 : isBtw 2 12 d1 with
    | false =>
      refine iteT ⟨by show 1 ≤ 1000; decide, fun a hA => raise _ H (Same.refl _) (if_pos e1) a hA⟩
    | true =>
    refine iteF ?_
    have x1 : ¬ isBtw 2 12 d1 = false := by rw [e1]; decide
    obtain ⟨n, rfl⟩ := btw_shape e1
    cases r1
    refine ⟨_, rfl, _, rfl, ha, _, _, _, rfl, r2, fun H1 s1 => ⟨_, rfl, ?_⟩⟩
    cases e2 : areRoads n d2 with
    | false =>
      refine iteT ⟨by show 1 ≤ 1000; decide, fun a hA => raise _ H1 s1 ((if_neg x1).trans (if_pos e2)) a hA⟩
    | true =>
    refine iteF ?_
    have x2 : ¬ areRoads (num (.int n)) d2 = false := by show ¬ areRoads n d2 = false; rw [e2]; decide
    obtain ⟨ds, rfl⟩ := roads_shape e2
    obtain ⟨pa, xs, rfl, ea, za, ra⟩ := tup_inv r2
    refine ⟨_, rfl, _, _, rfl, .inr (SqT.of (s1 _ _ ea)), _, rfl, ha, _, _, _, _, _, rfl, r3.same s1, fun H2 s2 => ⟨_, rfl, ?_⟩⟩
    rw [ra.len]
    cases e3 : areBtw (ds.length : Int) 1 3 d3 with
    | false =>
      refine iteT ⟨by show 1 ≤ 1000; decide, fun a hA => raise _ H2 (s1.trans s2) ((if_neg x1).trans ((if_neg x2).trans (if_pos e3))) a hA⟩
    | true =>
    refine iteF ?_
    have x3 : ¬ areBtw (dlen (.tup ds)) 1 3 d3 = false := by show ¬ areBtw (ds.length : Int) 1 3 d3 = false; rw [e3]; decide
    refine ⟨_, rfl, _, _, rfl, .inr (SqT.of (s2 _ _ (s1 _ _ ea))), _, rfl, ha, _, _, _, _, _, rfl, (r4.same s1).same s2, fun H3 s3 => ⟨_, rfl, ?_⟩⟩
    rw [ra.len]
    cases e4 : areBtw (ds.length : Int) 1 3 d4 with
    | false =>
      refine iteT ⟨by show 1 ≤ 1000; decide, fun a hA => raise _ H3 ((s1.trans s2).trans s3) ((if_neg x1).trans ((if_neg x2).trans ((if_neg x3).trans (if_pos e4)))) a hA⟩
    | true =>
    refine iteF ?_
    have x4 : ¬ areBtw (dlen (.tup ds)) 1 3 d4 = false := by show ¬ areBtw (ds.length : Int) 1 3 d4 = false; rw [e4]; decide
    have sm := (s1.trans s2).trans s3
    have no : ∀ f ∈ (["houses", "roads", "rooms", "times"] : List Str), NoAttr K T.Web.C f := T.Web.no
    refine ⟨_, rfl, _, rfl, p, T.Web.C, dx, _, rfl, sm _ _ hp, T.Web.cl, no _ (by simp), (by decide), ?_⟩
    refine ⟨_, rfl, _, rfl, p, T.Web.C, dx, _, rfl, upd_same, T.Web.cl, no _ (by simp), (putF_lt (n := 999) (by decide)), ?_⟩
    refine ⟨_, rfl, _, rfl, p, T.Web.C, dx, _, rfl, upd_same, T.Web.cl, no _ (by simp), (putF_lt (n := 999) (putF_lt (n := 998) (by decide))), ?_⟩
    refine ⟨_, rfl, _, rfl, p, T.Web.C, dx, _, rfl, upd_same, T.Web.cl, no _ (by simp), (putF_lt (n := 999) (putF_lt (n := 998) (putF_lt (n := 997) (by decide)))), ?_⟩
    refine kq ((if_neg x1).trans ((if_neg x2).trans ((if_neg x3).trans (if_neg x4)))) _ (fun b o q n => ?_) upd_same
    rw [upd_ne n, upd_ne n, upd_ne n, upd_ne n]
    exact sm _ _ q
end
end Hc


set_option Elab.async false
set_option linter.all false
set_option maxRecDepth 100000
set_option maxHeartbeats 4000000
set_option autoImplicit false
namespace Hc
open PySem L2
/-- the hand: the script's cells at c, and four numbers -/
def HandAt (H : Hp) (h c : Addr) : Prop := ∃ (ns : List Int) (i d s t : Int), H h = some (.lst [.ref c, .int i, .int d, .int s, .int t]) ∧ H c = some (.lst (ns.map V.int)) ∧ 0 ≤ i ∧ c ≠ h
theorem HandAt.lst {H : Hp} {h c : Addr} (a : HandAt H h c) : IsLst H h := by
  obtain ⟨ns, i, d, s, t, e, _⟩ := a
  exact ⟨_, e⟩
theorem HandAt.ne {H : Hp} {h c : Addr} (a : HandAt H h c) {D : Addr} (hD : H D = none) : D ≠ h ∧ D ≠ c := by
  obtain ⟨ns, i, d, s, t, e, hc, _⟩ := a
  exact ⟨fun z => ne_of_none e hD z.symm, fun z => ne_of_none hc hD z.symm⟩
theorem HandAt.upd {H : Hp} {h c : Addr} (a : HandAt H h c) {D : Addr} {o : HO} (h1 : D ≠ h) (h2 : D ≠ c) : HandAt (upd H D o) h c := by
  obtain ⟨ns, i, d, s, t, e, hc, hi, hn⟩ := a
  exact ⟨ns, i, d, s, t, by rw [upd_ne (Ne.symm h1)]; exact e, by rw [upd_ne (Ne.symm h2)]; exact hc, hi, hn⟩
theorem HandAt.mono {H H' : Hp} {h c : Addr} (a : HandAt H h c) (k : Same H H') : HandAt H' h c := by
  obtain ⟨ns, i, d, s, t, e, hc, hi, hn⟩ := a
  exact ⟨ns, i, d, s, t, k _ _ e, k _ _ hc, hi, hn⟩
theorem But.upd {h D : Addr} {H H' : Hp} {o : HO} (k : But h H H') (hD : H D = none) : But h H (upd H' D o) := fun b u e n => by
  rw [upd_ne (ne_of_none e hD)]
  exact k _ _ e n
section
variable {P : Program} {w : World} {K : PySem.W.Frag} {mg : Str → Option Value} {base : Heap}
def spDraw : Sp := fun vs H Q _ => ∃ (h c : Addr) (m : Int), vs = [.ref h, .int m] ∧ HandAt H h c ∧ 0 < m ∧ m < 1000000 ∧
  ∀ n H', 0 ≤ n → n < m → HandAt H' h c → But h H H' → Q (.int n) H'
theorem mod_range (x : Int) {m : Int} (h : 0 < m) : 0 ≤ x.fmod m ∧ x.fmod m < m := by
  rw [Int.fmod_eq_emod_of_nonneg x (by omega)]
  exact ⟨Int.emod_nonneg x (by omega), Int.emod_lt_of_pos x h⟩
theorem ok__law_draw (T : Tx K mg) : FnOk P w K mg base CX0 1 T._law_draw.f T._law_draw.fd ["_law_hand_here", "_law_many"] spDraw := by
  refine T._law_draw.F.ok sc_law_draw (fun vs H Q E h => ?_) (fun cdv A outer s H vs Q E hr h => ?_)
  · obtain ⟨h, c, m, rfl, _⟩ := h
    rfl
  · obtain ⟨h, c, m, rfl, hA, m0, m1, k⟩ := h
    refine ⟨_, (C8.pss_cut (ps_if (PW.pt (pw_and (pt_cmpR op_eq (pe_ix ix_list (pv 0) pe_int (fun _ _ => rfl)) pe_int (nomark _)) (pw_and1 (pt_cmpR op_lt (pe_ix ix_list (pv 0) pe_int (fun _ _ => rfl)) (pe_callB call_len_seq (by rfl) T.n_len (by decide +kernel) (pa_cons (pe_ix ix_list (pv 0) pe_int (fun _ _ => rfl)) pa_nil)) (nomark _)))))
      (pss_cons (ps_set (i := 2) sc_law_draw.nd rfl (Or.inl rfl) (pe_ix ix_list (pe_ix ix_list (pv 0) pe_int (fun _ _ => rfl)) (pe_ix ix_list (pv 0) pe_int (fun _ _ => rfl)) (fun _ _ => rfl)))
      (pss_cons (ps_asg (pe_op op_add (pe_ix ix_list (pv 0) pe_int (fun _ _ => rfl)) pe_int) (pg_sub (pv 0) pe_int set_list))
      (pss_cons (ps_asg (pe_op op_modN (pe_callTy call_int1 (by rfl) T.n_int (by decide +kernel) (pa_cons (pe_op op_add (pe_op op_add (pe_op op_mul (pe_ix ix_list (pv 0) pe_int (fun _ _ => rfl)) pe_int) (pv 2)) pe_int) pa_nil)) pe_int) (pg_sub (pv 0) pe_int set_list))
      (pss_one (ps_if (pt_cmpR op_ge (pv 2) (pe_op op_pow pe_int pe_int) (nomark _))
      (pss_one (ps_asg (pv 2) (pg_sub (pv 0) pe_int set_list)))
      pss_nil)))))
      pss_nil)
      (pss_cons (ps_if (pt_cmpR op_gt (pe_ix ix_list (pv 0) pe_int (fun _ _ => rfl)) pe_int (nomark _))
      (pss_cons (ps_set (i := 3) sc_law_draw.nd rfl (Or.inl rfl) (pe_op op_modN (pe_callTy call_int1 (by rfl) T.n_int (by decide +kernel) (pa_cons (pe_ix ix_list (pv 0) pe_int (fun _ _ => rfl)) pa_nil)) (pv 1)))
      (pss_cons (ps_asg (pe_op op_fdivN (pe_ix ix_list (pv 0) pe_int (fun _ _ => rfl)) (pv 1)) (pg_sub (pv 0) pe_int set_list))
      (pss_one (ps_ret (pv 3)))))
      pss_nil)
      (pss_cons (ps_asg (pe_op op_add (pe_ix ix_list (pv 0) pe_int (fun _ _ => rfl)) pe_int) (pg_sub (pv 0) pe_int set_list))
      (pss_cons (ps_set (i := 4) sc_law_draw.nd rfl (Or.inl rfl) (pe_op op_modN (pe_callTy call_int1 (by rfl) T.n_int (by decide +kernel) (pa_cons (pe_op op_mul (pe_callTy call_int1 (by rfl) T.n_int (by decide +kernel) (pa_cons (pe_op op_add (pe_ix ix_list (pv 0) pe_int (fun _ _ => rfl)) (pe_op op_mul pe_int (pe_ix ix_list (pv 0) pe_int (fun _ _ => rfl)))) pa_nil)) pe_int) pa_nil)) pe_int))
      (pss_cons (ps_set (i := 4) sc_law_draw.nd rfl (Or.inl rfl) (pe_op op_modN (pe_callTy call_int1 (by rfl) T.n_int (by decide +kernel) (pa_cons (pe_op op_mul (pv 4) (pe_op op_add (pe_op op_fdivN (pv 4) pe_int) pe_int)) pa_nil)) pe_int))
      (pss_cons (ps_set (i := 4) sc_law_draw.nd rfl (Or.inl rfl) (pe_op op_modN (pe_callTy call_int1 (by rfl) T.n_int (by decide +kernel) (pa_cons (pe_op op_mul (pv 4) (pe_op op_add (pe_op op_fdivN (pv 4) pe_int) pe_int)) pa_nil)) pe_int))
      (pss_one (ps_ret (pe_op op_modN (pe_callTy call_int1 (by rfl) T.n_int (by decide +kernel) (pa_cons (pe_op op_fdivN (pv 4) pe_int) pa_nil)) (pv 1)))))))))), ?_⟩
    refine ⟨fun σ' H' => ∃ cv : Option V, σ' = [some (.ref h), some (.int m), cv, none, none] ∧ HandAt H' h c ∧ But h H H', ?_, ?_⟩
    · obtain ⟨ns, i, d, s, t, hh, hc, hi, hn⟩ := id hA
      refine ⟨_, rfl, h, _, _, _, rfl, rfl, SqL.of hh, atI_nat (j := 2) rfl, rfl, _, rfl, ?_⟩
      rw [int_eqd]
      by_cases h0 : d = 0
      · rw [decide_eq_true h0]
        refine iteT ?_
        refine ⟨_, rfl, h, _, _, _, rfl, rfl, SqL.of hh, atI_nat (j := 1) rfl, _, rfl, h, _, _, _, rfl, rfl, SqL.of hh, atI_nat (j := 0) rfl, c, _, rfl, .inl (SqL.of hc), _, _, rfl, rfl, _, rfl, ?_⟩
        rw [List.length_map]
        by_cases h1 : i < ns.length
        · rw [decide_eq_true h1]
          refine iteT ?_
          obtain ⟨j, rfl⟩ := Int.eq_ofNat_of_zero_le hi
          have hj : j < ns.length := by omega
          have hx : (ns.map V.int)[j]? = some (.int ns[j]) := by rw [List.getElem?_map, List.getElem?_eq_getElem hj]; rfl
          refine ⟨_, rfl, h, _, _, _, rfl, rfl, SqL.of hh, atI_nat (j := 0) rfl, _, rfl, h, _, _, _, rfl, rfl, SqL.of hh, atI_nat (j := 1) rfl, c, _, _, _, rfl, rfl, SqL.of hc, atI_nat hx, ?_⟩
          -- hand[1] = hand[1] + 1
          refine ⟨_, rfl, h, _, _, _, rfl, rfl, SqL.of hh, atI_nat (j := 1) rfl, _, _, rfl, rfl, _, rfl, h, _, 1, 1, rfl, rfl, hh, rfl, ?_⟩
          -- hand[3] = ..
          refine ⟨_, rfl, h, _, _, _, rfl, rfl, SqL.of upd_same, atI_nat (j := 3) rfl, _, _, rfl, rfl, .inr ⟨by decide, by decide⟩, _, rfl, _, _, rfl, rfl, _, _, rfl, rfl, .inl ⟨_, rfl, _, _, rfl, rfl, (show (2147483629 : Int) ≠ 0 by decide), _, rfl, h, _, 3, 3, rfl, rfl, upd_same, rfl, ?_⟩⟩
          refine ⟨_, rfl, _, _, rfl, rfl, ⟨by decide, by decide, by decide⟩, _, _, rfl, rfl, _, rfl, ?_⟩
          have bt : ∀ {H1 : Hp} {xs}, But h H H1 → But h H (upd H1 h xs) := fun b => b.trans but_upd
          refine ite2 (fun _ => ?_) (fun _ => ?_)
          · refine ⟨_, rfl, _, rfl, h, _, 2, 2, rfl, rfl, upd_same, rfl, ?_⟩
            exact ⟨_, rfl, ⟨ns, _, _, _, _, upd_same, (bt (bt (bt (But.refl h H)))) _ _ hc hn, by omega, hn⟩, bt (bt (bt (But.refl h H)))⟩
          · exact ⟨_, rfl, ⟨ns, _, _, _, _, upd_same, (bt (bt (But.refl h H))) _ _ hc hn, by omega, hn⟩, bt (bt (But.refl h H))⟩
        · rw [decide_eq_false h1]
          exact iteF ⟨_, rfl, hA, But.refl h H⟩
      · rw [decide_eq_false h0]
        exact iteF (iteF ⟨_, rfl, hA, But.refl h H⟩)
    · rintro σ' H1 ⟨cv, rfl, hA1, b1⟩
      obtain ⟨ns, i, d, s, t, hh, hc, hi, hn⟩ := id hA1
      have bt : ∀ {H2 : Hp} {xs}, But h H H2 → But h H (upd H2 h xs) := fun b => b.trans but_upd
      have bu : ∀ {H2 : Hp} {xs}, But h H1 H2 → But h H1 (upd H2 h xs) := fun b => b.trans but_upd
      refine ⟨_, rfl, h, _, _, _, rfl, rfl, SqL.of hh, atI_nat (j := 2) rfl, _, _, rfl, rfl, _, rfl, ?_⟩
      refine ite2 (fun _ => ?_) (fun _ => ?_)
      · refine ⟨_, rfl, h, _, _, _, rfl, rfl, SqL.of hh, atI_nat (j := 2) rfl, .inl ⟨_, rfl, _, rfl, _, _, rfl, rfl, by omega, ?_⟩⟩
        refine ⟨_, rfl, h, _, _, _, rfl, rfl, SqL.of hh, atI_nat (j := 2) rfl, _, rfl, _, _, rfl, rfl, ⟨by omega, by omega⟩, _, rfl, h, _, 2, 2, rfl, rfl, hh, rfl, ?_⟩
        obtain ⟨q1, q2⟩ := mod_range d m0
        exact ⟨_, rfl, k _ _ q1 q2 ⟨ns, _, _, _, _, upd_same, (bu (But.refl h H1)) _ _ hc hn, hi, hn⟩ (bt b1)⟩
      · refine ⟨_, rfl, h, _, _, _, rfl, rfl, SqL.of hh, atI_nat (j := 4) rfl, _, _, rfl, rfl, _, rfl, h, _, 4, 4, rfl, rfl, hh, rfl, ?_⟩
        refine ⟨_, rfl, h, _, _, _, rfl, rfl, SqL.of upd_same, atI_nat (j := 3) rfl, _, rfl, h, _, _, _, rfl, rfl, SqL.of upd_same, atI_nat (j := 4) rfl, _, _, rfl, rfl, .inl ⟨by decide, by decide⟩, _, _, rfl, rfl, .inl ⟨_, rfl, _, _, rfl, rfl, .inr ⟨by decide, by decide⟩, .inl ⟨_, rfl, _, _, rfl, rfl, (show (2147483647 : Int) ≠ 0 by decide), ?_⟩⟩⟩
        obtain ⟨u1, u2⟩ := mod_range ((s + 7919 * (t + 1)) * 48271) (m := 2147483647) (by decide)
        obtain ⟨x, hx⟩ : ∃ x, x = ((s + 7919 * (t + 1)) * 48271).fmod 2147483647 := ⟨_, rfl⟩
        rw [← hx] at u1 u2
        refine ⟨_, rfl, _, rfl, _, _, rfl, rfl, ⟨by decide, by decide⟩, _, _, rfl, rfl, _, _, rfl, rfl, .inl ⟨by rw [← hx]; omega, by rw [← hx]; omega⟩, .inl ⟨_, rfl, _, _, rfl, rfl, (show (2147483647 : Int) ≠ 0 by decide), ?_⟩⟩
        rw [← hx]
        obtain ⟨u1, u2⟩ := mod_range (x * (x.fdiv 1009 + 69621)) (m := 2147483647) (by decide)
        obtain ⟨y, hy⟩ : ∃ y, y = (x * (x.fdiv 1009 + 69621)).fmod 2147483647 := ⟨_, rfl⟩
        rw [← hy] at u1 u2
        refine ⟨_, rfl, _, rfl, _, _, rfl, rfl, ⟨by decide, by decide⟩, _, _, rfl, rfl, _, _, rfl, rfl, .inl ⟨by rw [← hy]; omega, by rw [← hy]; omega⟩, .inl ⟨_, rfl, _, _, rfl, rfl, (show (2147483399 : Int) ≠ 0 by decide), ?_⟩⟩
        rw [← hy]
        refine ⟨_, rfl, _, _, rfl, rfl, ⟨by decide, by decide⟩, .inl ⟨_, rfl, _, rfl, _, _, rfl, rfl, by omega, ?_⟩⟩
        obtain ⟨q1, q2⟩ := mod_range (((y * (y.fdiv 2003 + 40692)).fmod 2147483399).fdiv 16) m0
        exact k _ _ q1 q2 ⟨ns, _, _, _, _, upd_same, (bu (But.refl h H1)) _ _ hc hn, hi, hn⟩ (bt b1)
end
end Hc


set_option Elab.async false
set_option linter.all false
set_option maxRecDepth 100000
set_option maxHeartbeats 4000000
set_option autoImplicit false
namespace Hc
open PySem L2
theorem But.del {h p : Addr} {H H' : Hp} (k : But h H H') : But h (del H p) (del H' p) := fun b o e n => by
  by_cases z : b = p
  · subst z; rw [del_same] at e; cases e
  · rw [del_ne z] at e ⊢; exact k _ _ e n
theorem del_upd {H : Hp} {p : Addr} {o : HO} : del (upd H p o) p = del H p := by
  funext b
  by_cases z : b = p
  · subst z; rw [del_same, del_same]
  · rw [del_ne z, del_ne z, upd_ne z]
theorem del_sub {H : Hp} {p : Addr} : Same (del H p) H := fun b o e => by
  by_cases z : b = p
  · subst z; rw [del_same] at e; cases e
  · rw [del_ne z] at e; exact e
theorem del_new {H : Hp} {p q : Addr} {o : HO} (hq : H q = none) : Same (del H p) (del (upd H q o) p) := fun b u e => by
  by_cases z : b = p
  · subst z; rw [del_same] at e; cases e
  · rw [del_ne z] at e ⊢
    rw [upd_ne (ne_of_none e hq)]; exact e
theorem btw_of {lo hi i : Int} (a : lo ≤ i) (b : i ≤ hi) : isBtw lo hi (.int i) = true := by
  show (decide (lo ≤ i) && decide (i ≤ hi)) = true
  rw [decide_eq_true a, decide_eq_true b]; rfl
theorem RpA.ints {H : Hp} {h : Addr} : ∀ ns : List Int, RpA H h (ns.map V.int) (ns.map D.int)
  | [] => .nil
  | n :: r => .cons (.int n) (RpA.ints r)
theorem RpA.rep {H : Hp} {h : Addr} {v : V} {d : D} (r : Rp H h v d) : ∀ n : Nat, RpA H h (List.replicate n [v]).flatten (List.replicate n d)
  | 0 => .nil
  | n + 1 => by
    rw [List.replicate_succ, List.replicate_succ, List.flatten_cons]
    exact .cons r (RpA.rep r n)
theorem tyes {σ : St} {H : Hp} {A B : Hp → Prop} (h : A H) : tYes σ H (fun b H3 => if b = true then A H3 else B H3) := by
  unfold tYes
  show if true = true then A H else B H
  rw [if_pos rfl]
  exact h
theorem RpA.snoc_inv {H : Hp} {h : Addr} {d : D} : ∀ {ds : List D} {vs : List V}, RpA H h vs (ds ++ [d]) → ∃ vs' v, vs = vs' ++ [v] ∧ Rp H h v d
  | [], _, .cons r .nil => ⟨[], _, rfl, r⟩
  | e :: ds, _, .cons r q => by
    obtain ⟨vs', v, rfl, k⟩ := RpA.snoc_inv (ds := ds) q
    exact ⟨_ :: vs', v, rfl, k⟩
section
variable {P : Program} {w : World} {K : PySem.W.Frag} {mg : Str → Option Value} {base : Heap}
def spCounts : Sp := fun vs H Q _ => ∃ (h c : Addr) (m : Int), vs = [.ref h, .int m] ∧ HandAt H h c ∧ 0 < m ∧ m ≤ 1000 ∧
  ∀ v d H', HandAt H' h c → But h H H' → Rp H' h v d → areBtw m 1 3 d = true → Q v H'
/-- a drawn web -/
structure WebD (towns most : Int) (d : D) : Prop where
  ex : ∃ (n : Int) (ds : List D) (rm tm : D), d = .tup [.int n, .tup ds, rm, tm] ∧ 2 ≤ n ∧ n ≤ towns ∧ 1 ≤ ds.length ∧ (ds.length : Int) ≤ most ∧ ds.all (isBE n) = true ∧ areBtw ds.length 1 3 rm = true ∧ areBtw ds.length 1 3 tm = true
def spWebL : Sp := fun vs H Q _ => ∃ (h c : Addr) (towns most : Int), vs = [.ref h, .int towns, .int most] ∧ HandAt H h c ∧ 2 ≤ towns ∧ towns ≤ 1000 ∧ 1 ≤ most ∧ most ≤ 1000 ∧
  ∀ v d H', HandAt H' h c → But h H H' → Rp H' h v d → WebD towns most d → Q v H'
theorem be_of {n a b : Int} (a0 : 0 ≤ a) (a1 : a < n) (b0 : 0 ≤ b) (b1 : b < n) (ne : a ≠ b) : isBE n (.tup [.int a, .int b]) = true := by
  unfold isBE
  rw [areBtw_tup, List.all_cons, List.all_cons, List.all_nil, btw_of a0 (by omega), btw_of b0 (by omega)]
  show (decide (((2 : Nat) : Int) = 2) && (true && (true && true)) && !decide (a = b)) = true
  rw [decide_eq_false ne]; decide
theorem be_full {n : Int} {d : D} (e : isBE n d = true) : ∃ a b, d = .tup [.int a, .int b] ∧ 0 ≤ a ∧ a < n ∧ 0 ≤ b ∧ b < n ∧ a ≠ b := by
  have e1 := (Bool.and_eq_true_iff.mp e).1
  obtain ⟨a, b, rfl, e2⟩ := be_true e1
  rw [e] at e2
  have ne : a ≠ b := fun z => by rw [decide_eq_true z] at e2; cases e2
  rw [areBtw_tup, List.all_cons, List.all_cons, List.all_nil, Bool.and_true] at e1
  obtain ⟨_, e3⟩ := Bool.and_eq_true_iff.mp e1
  obtain ⟨h4, h5⟩ := Bool.and_eq_true_iff.mp e3
  obtain ⟨p1, p2⟩ := Bool.and_eq_true_iff.mp (show (decide (0 ≤ a) && decide (a ≤ n - 1)) = true from h4)
  obtain ⟨p3, p4⟩ := Bool.and_eq_true_iff.mp (show (decide (0 ≤ b) && decide (b ≤ n - 1)) = true from h5)
  have q1 := of_decide_eq_true p1
  have q2 := of_decide_eq_true p2
  have q3 := of_decide_eq_true p3
  have q4 := of_decide_eq_true p4
  exact ⟨a, b, rfl, q1, by omega, q3, by omega, ne⟩
theorem ring_ne {b x n : Int} (b0 : 0 ≤ b) (b1 : b < n) (x0 : 0 ≤ x) (x1 : x < n - 1) : b ≠ (b + 1 + x).fmod n := by
  rw [Int.fmod_eq_emod_of_nonneg _ (by omega)]
  by_cases h : b + 1 + x < n
  · rw [Int.emod_eq_of_lt (by omega) h]; omega
  · have e : (b + 1 + x) % n = b + 1 + x - n := by
      rw [← Int.sub_emod_right, Int.emod_eq_of_lt (by omega) (by omega)]
    rw [e]; omega
end
end Hc


set_option Elab.async false
set_option linter.all false
set_option maxRecDepth 100000
set_option maxHeartbeats 4000000
set_option autoImplicit false
namespace Hc
open PySem L2
section
variable {P : Program} {w : World} {K : PySem.W.Frag} {mg : Str → Option Value} {base : Heap}
def spHand (K : PySem.W.Frag) : Sp := fun vs H Q _ => ∃ (a : Addr) (ns : List Int), vs = [.ref a] ∧ SqL K H a (ns.map V.int) ∧ ns.length ≤ 63 ∧
  ∀ h c H', Same H H' → HandAt H' h c → Q (.ref h) H'
theorem cutV_ints (ns : List Int) (lo hi : Option Int) : ∃ ms : List Int, cutV (ns.map V.int) lo hi = ms.map V.int ∧ ms.length ≤ ns.length := by
  refine ⟨(ns.drop (HT.sIx ns.length 0 lo)).take (HT.sIx ns.length ns.length hi - HT.sIx ns.length 0 lo), ?_, ?_⟩
  · unfold cutV
    rw [List.length_map, List.map_take, List.map_drop]
  · rw [List.length_take, List.length_drop]; omega
theorem ok__law_hand (T : Tx K mg) : FnOk P w K mg base CX0 1 T._law_hand.f T._law_hand.fd ["_law_script"] (spHand K) := by
  refine T._law_hand.F.ok sc_law_hand (fun vs H Q E h => ?_) (fun cdv A outer s H vs Q E hr h => ?_)
  · obtain ⟨a, ns, rfl, _⟩ := h
    rfl
  · obtain ⟨a, ns, rfl, hS, hl, k⟩ := h
    refine ⟨_, (pss_cons (ps_setLc (i := 1) (own := [("_law_cell", 2)]) (g := (gName 2)) (tt := tYes) rfl sc_law_hand.nd rfl rfl (sw_true rfl rfl rfl (by decide +kernel)) (pi_list (pe_slice sl_list (pv 0) po_none (po_some pe_int))) (blkOk_by (own := [("_law_cell", 2)]) (N := ["_law_script", "_law_cells", "_law_cell"]) (sc := defScope s_law_hand) (by decide +kernel)) (fun _ _ _ _ _ => (pg_name (i := 2) sc_law_hand.nd rfl (Or.inl rfl))) (fun _ _ _ _ _ => pts_nil) (fun _ _ _ _ _ => (by exact (pe_callB call_abs (by rfl) T.n_abs (by decide +kernel) (pa_cons (pe_callTy call_int1 (by rfl) T.n_int (by decide +kernel) (pa_cons (pv 2) pa_nil)) pa_nil)))))
      (pss_one (ps_ret (pe_lst (pa_cons (pv 1) (pa_cons pe_int (pa_cons pe_int (pa_cons (pe_op op_add pe_int (pe_callB call_len_seq (by rfl) T.n_len (by decide +kernel) (pa_cons (pv 1) pa_nil))) (pa_cons pe_int pa_nil))))))))), ?_⟩
    obtain ⟨ms, em, lm⟩ := cutV_ints ns none (some 63)
    refine ⟨_, rfl, _, rfl, a, _, rfl, hS, fun p hp => ?_⟩
    rw [em]
    refine ⟨p, rfl, ⟨_, SqL.of upd_same⟩, fun D hD => ?_⟩
    have s1 : Same H (upd H p (.lst (ms.map V.int))) := same_upd hp
    have npD : p ≠ D := ne_of_none upd_same hD
    refine lc_list (K := K) (a := p) (xs := ms.map V.int) (fun i H' => ∃ ys : List Int, H' D = some (.lst (ys.map V.int)) ∧ ys.length = i ∧ H' p = some (.lst (ms.map V.int)) ∧ ∀ b o, H b = some o → H' b = some o)
      ⟨[], upd_same, rfl, by rw [upd_ne npD]; exact upd_same, fun b o q => by rw [upd_ne (ne_of_none (s1 _ _ q) hD)]; exact s1 _ _ q⟩ (fun i H' _ ⟨_, _, _, q, _⟩ => SqL.of q) ?_ ?_
    · rintro i x H' hx ⟨ys, hd, hy, hp', sm⟩
      have hi : i < (ms.map V.int).length := (List.getElem?_eq_some_iff.mp hx).1
      rw [List.length_map] at hi
      obtain ⟨z, rfl⟩ : ∃ z, x = V.int z := by
        rw [List.getElem?_map] at hx
        cases e : ms[i]? with
        | none => rw [e] at hx; cases hx
        | some z => rw [e] at hx; exact ⟨z, (Option.some.inj hx).symm⟩
      refine ⟨rfl, tyes ⟨_, rfl, .inl ⟨_, rfl, _, rfl, _, hd, ?_, ys ++ [if z < 0 then -z else z], ?_, ?_, ?_, ?_⟩⟩⟩
      · rw [List.length_map]; exact line_lt (by omega)
      · rw [upd_same, List.map_append]; rfl
      · rw [List.length_append, hy]; rfl
      · rw [upd_ne npD]; exact hp'
      · intro b o q
        have := s1 _ _ q
        rw [upd_ne (ne_of_none this hD)]
        exact sm _ _ q
    · rintro H' ⟨ys, hd, hy, hp', sm⟩
      refine ⟨_, rfl, _, rfl, _, _, rfl, .inl (SqL.of hd), _, _, rfl, rfl, by show 5 ≤ sizeLine; decide, fun hh nh => ?_⟩
      have nD : D ≠ hh := ne_of_none hd nh
      exact k hh D _ (fun b o q => by rw [upd_ne (ne_of_none (sm _ _ q) nh)]; exact sm _ _ q) ⟨ys, 0, 0, _, 0, upd_same, by rw [upd_ne nD]; exact hd, by decide, nD⟩
end
end Hc


set_option Elab.async false
set_option linter.all false
set_option maxRecDepth 100000
set_option maxHeartbeats 4000000
set_option autoImplicit false
namespace Hc
open PySem L2
theorem new_facts {H H2 : Hp} {h c p : Addr} {o : HO} (hA : HandAt H h c) (hp : H p = none) (e : upd H p o = H2) : Same H H2 ∧ H2 p = some o ∧ p ≠ h ∧ p ≠ c ∧ HandAt H2 h c := by
  subst e
  obtain ⟨n1, n2⟩ := hA.ne hp
  exact ⟨same_upd hp, upd_same, n1, n2, hA.upd n1 n2⟩
theorem RpA.of {H : Hp} {h : Addr} {xs : List V} {ds : List D} (r : RpA H h xs ds) {n : Int} (n0 : 0 ≤ n) (n1 : n < (xs.length : Int)) : ∃ v d, atI xs n = some v ∧ d ∈ ds ∧ Rp H h v d := by
  obtain ⟨j, rfl⟩ := Int.eq_ofNat_of_zero_le n0
  have hj : j < xs.length := by omega
  obtain ⟨d, h1, h2⟩ := r.get (List.getElem?_eq_getElem hj)
  exact ⟨_, d, atI_nat (List.getElem?_eq_getElem hj), List.mem_of_getElem? h1, h2⟩
theorem RpA.cut {H : Hp} {h : Addr} {xs : List V} {ds : List D} (r : RpA H h xs ds) (lo hi : Option Int) : ∃ es : List D, RpA H h (cutV xs lo hi) es ∧ es.length ≤ ds.length :=
  ⟨_, RpA.take _ (RpA.drop _ r), by rw [List.length_take, List.length_drop]; omega⟩
theorem slA_rp {K : PySem.W.Frag} {H : Hp} {h c : Addr} {x : V} {lo hi : Option Int} {Q : VK} {ds : List D} (hA : HandAt H h c) (r : Rp H h x (.tup ds))
    (k : ∀ v ds' H', Same H H' → HandAt H' h c → Rp H' h v (.tup ds') → ds'.length ≤ ds.length → Q v H') : rSlA K x lo hi H Q := by
  obtain ⟨a, xs, rfl, e, z, ra⟩ := tup_inv r
  refine ⟨a, xs, rfl, SqT.of e, fun _ => k _ ds _ (Same.refl _) hA r (Nat.le_refl _), fun _ p hp => ?_⟩
  obtain ⟨s2, e2, n2, n3, hA2⟩ := new_facts (o := .tup (cutV xs lo hi)) hA hp rfl
  obtain ⟨es, re, ze⟩ := ra.cut lo hi
  exact k _ es _ s2 hA2 (.tup e2 (Nat.le_trans (cutV_length _ _ _) z) (re.same s2)) ze
theorem catA_rp {K : PySem.W.Frag} {H : Hp} {h c : Addr} {x y : V} {Q : VK} {ds es : List D} (hA : HandAt H h c) (r1 : Rp H h x (.tup ds)) (r2 : Rp H h y (.tup es)) (z : ds.length + es.length ≤ 50000)
    (k : ∀ v H', Same H H' → HandAt H' h c → Rp H' h v (.tup (ds ++ es)) → Q v H') : rCatA K x y H Q := by
  obtain ⟨a, xs, rfl, e1, z1, ra⟩ := tup_inv r1
  obtain ⟨b, ys, rfl, e2, z2, rb⟩ := tup_inv r2
  have l1 := ra.len
  have l2 := rb.len
  refine ⟨a, b, xs, ys, rfl, rfl, SqT.of e1, SqT.of e2, line_le (by omega), fun ex => ?_, fun _ ey => ?_, fun _ _ p hp => ?_⟩
  · subst ex
    cases ra
    exact k _ _ (Same.refl _) hA r2
  · subst ey
    cases rb
    refine k _ _ (Same.refl _) hA ?_
    rw [List.append_nil]
    exact r1
  · obtain ⟨s3, e3, n2, n3, hA3⟩ := new_facts (o := .tup (xs ++ ys)) hA hp rfl
    exact k _ _ s3 hA3 (.tup e3 (by rw [List.length_append]; omega) ((ra.app rb).same s3))
theorem repA_rp {K : PySem.W.Frag} {H : Hp} {h c : Addr} {x : V} {n : Int} {Q : VK} {ds : List D} (hA : HandAt H h c) (r : Rp H h x (.tup ds)) (n0 : 1 ≤ n) (n1 : n ≤ 100) (d0 : ds ≠ []) (d1 : ds.length ≤ 1000)
    (k : ∀ v es H', Same H H' → HandAt H' h c → Rp H' h v (.tup es) → Q v H') : rRepA K x (.int n) H Q := by
  obtain ⟨a, xs, rfl, e1, z1, ra⟩ := tup_inv r
  have l1 := ra.len
  have rep : ∀ m : Nat, ∃ es, RpA H h (List.replicate m xs).flatten es := fun m => by
    induction m with
    | zero => exact ⟨_, .nil⟩
    | succ m ih =>
      obtain ⟨es, ih⟩ := ih
      rw [List.replicate_succ, List.flatten_cons]
      exact ⟨_, ra.app ih⟩
  refine ⟨a, n, xs, rfl, rfl, SqT.of e1, fun z => d0 (List.eq_nil_of_length_eq_zero (by rw [← l1, z]; rfl)), n0, by omega, by omega, fun _ => k _ _ _ (Same.refl _) hA r, fun _ p hp => ?_⟩
  obtain ⟨s3, e3, n2, n3, hA3⟩ := new_facts (o := .tup (List.replicate n.toNat xs).flatten) hA hp rfl
  obtain ⟨es, re⟩ := rep n.toNat
  refine k _ es _ s3 hA3 (.tup e3 ?_ (re.same s3))
  rw [PyProof.Rows.lm_len_rep_flat]
  have a1 : n.toNat * xs.length ≤ 100 * 1000 := Nat.mul_le_mul (by omega) (by omega)
  omega
structure BW (h : Addr) (H H' : Hp) : Prop where
  b : But h H H'
/-- no longer than what a sort of the law's takes -/
def short : D → Prop | .tup ds => ds.length ≤ 60 | _ => True
/-- some short thing -/
def RpX (H : Hp) (h : Addr) (v : V) : Prop := ∃ d, Rp H h v d ∧ short d
def RpXA (H : Hp) (h : Addr) (vs : List V) : Prop := ∃ ds, RpA H h vs ds ∧ ∀ d ∈ ds, short d
section
variable {H H' : Hp} {h : Addr}
theorem RpX.non : RpX H h .non := ⟨_, .non, trivial⟩
theorem RpX.bl (b : Bool) : RpX H h (.bl b) := ⟨_, .bl b, trivial⟩
theorem RpX.int (i : Int) : RpX H h (.int i) := ⟨_, .int i, trivial⟩
theorem RpX.str (s : Str) : RpX H h (.str s) := ⟨_, .str s, trivial⟩
theorem RpX.tup {a : Addr} {xs : List V} (e : H a = some (.tup xs)) (z : xs.length ≤ 60) (r : RpXA H h xs) : RpX H h (.ref a) := by
  obtain ⟨ds, r, _⟩ := r
  refine ⟨_, .tup e (by omega) r, ?_⟩
  show ds.length ≤ 60
  rw [← r.len]; exact z
theorem RpX.lst {a : Addr} {xs : List V} (e : H a = some (.lst xs)) (n : a ≠ h) : RpX H h (.ref a) := ⟨_, .lst e n, trivial⟩
theorem RpX.dct {a : Addr} {kvs : List (Key × V)} (e : H a = some (.dK kvs)) : RpX H h (.ref a) := ⟨_, .dct e, trivial⟩
theorem RpX.same {v : V} (s : Same H H') (r : RpX H h v) : RpX H' h v := by
  obtain ⟨d, r, q⟩ := r
  exact ⟨d, r.same s, q⟩
theorem RpX.monoB {c : Addr} {v : V} (s : But h H H') (l : HandAt H h c) (r : RpX H h v) : RpX H' h v := by
  obtain ⟨d, r, q⟩ := r
  exact ⟨d, r.mono l.lst s, q⟩
theorem Rp.monoB {c : Addr} {v : V} {d : D} (s : But h H H') (l : HandAt H h c) (r : Rp H h v d) : Rp H' h v d := r.mono l.lst s
theorem RpXA.nil : RpXA H h [] := ⟨_, .nil, fun _ z => nomatch z⟩
theorem RpXA.cons {v : V} {vs : List V} (r : RpX H h v) (q : RpXA H h vs) : RpXA H h (v :: vs) := by
  obtain ⟨d, r, s⟩ := r
  obtain ⟨ds, q, t⟩ := q
  exact ⟨_, .cons r q, fun e he => by
    rcases List.mem_cons.mp he with rfl | he
    · exact s
    · exact t e he⟩
theorem RpXA.app {vs ws : List V} (r : RpXA H h vs) (q : RpXA H h ws) : RpXA H h (vs ++ ws) := by
  obtain ⟨ds, r, s⟩ := r
  obtain ⟨es, q, t⟩ := q
  exact ⟨_, r.app q, fun e he => by
    rcases List.mem_append.mp he with he | he
    · exact s e he
    · exact t e he⟩
theorem RpXA.same {vs : List V} (s : Same H H') (r : RpXA H h vs) : RpXA H' h vs := by
  obtain ⟨d, r, q⟩ := r
  exact ⟨d, r.same s, q⟩
theorem RpXA.monoB {c : Addr} {vs : List V} (s : But h H H') (l : HandAt H h c) (r : RpXA H h vs) : RpXA H' h vs := by
  obtain ⟨d, r, q⟩ := r
  exact ⟨d, r.mono l.lst s, q⟩
theorem RpXA.at {xs : List V} (r : RpXA H h xs) {i : Nat} {x : V} (e : xs[i]? = some x) : RpX H h x := by
  obtain ⟨ds, r, t⟩ := r
  obtain ⟨d, h1, h2⟩ := r.get e
  exact ⟨d, h2, t d (List.mem_of_getElem? h1)⟩
theorem RpXA.get {xs : List V} (r : RpXA H h xs) {n : Int} (n0 : 0 ≤ n) (n1 : n < (xs.length : Int)) : ∃ v, atI xs n = some v ∧ RpX H h v := by
  obtain ⟨ds, r, t⟩ := r
  obtain ⟨v, d, h1, h3, h2⟩ := r.of n0 n1
  exact ⟨v, h1, d, h2, t d h3⟩
end
end Hc


set_option Elab.async false
set_option linter.all false
set_option maxRecDepth 100000
set_option maxHeartbeats 1000000
set_option autoImplicit false
namespace Hc
open PySem L2
def bg : D → Int | .tup (.int a :: _) => a | _ => 0
def en : D → Int | .tup (_ :: .int b :: _) => b | _ => 0
def dAt (ds : List D) (i : Int) : D := ds.getD i.toNat .non
/-- neighbours -/
def adj (R : Int → Int → Bool) (ns : List Int) : Bool := (List.range (ns.length - 1)).all fun j => R (ns.getD j 0) (ns.getD (j + 1) 0)
def nums : D → List Int | .tup ds => ds.map num | _ => []
def isRoad (rds : List D) (d : D) : Bool := isBtw 0 ((rds.length : Int) - 1) d
def isWay (rds : List D) : D → Bool
  | .tup ds => decide (1 ≤ ds.length) && decide (ds.length ≤ 8) && ds.all (isRoad rds) && adj (fun a b => decide (en (dAt rds a) = bg (dAt rds b))) (ds.map num)
  | _ => false
def isLot (rds : List D) : D → Bool
  | .tup ds => ds.all (isRoad rds) && adj (fun a b => decide (a < b)) (ds.map num)
  | _ => false
def nextL (rds : List D) (r : Int) : List Nat := (List.range rds.length).filter fun j => decide (bg (rds.getD j .non) = en (dAt rds r))
/-- a web's object at p -/
structure WebO (C : Addr) (H : Hp) (h p : Addr) (n : Int) (rds : List D) : Prop where
  ex : ∃ (dx : Addr) (v1 v2 v3 v4 : V), H p = some (.ins C dx (webF v1 v2 v3 v4)) ∧ Rp H h v2 (.tup rds)
  all : rds.all (isBE n) = true
  l1 : 1 ≤ rds.length
  l2 : rds.length ≤ 24
theorem WebO.same {C : Addr} {H H' : Hp} {h p : Addr} {n : Int} {rds : List D} (w : WebO C H h p n rds) (s : Same H H') : WebO C H' h p n rds := by
  obtain ⟨⟨dx, v1, v2, v3, v4, e, r⟩, a, b, c⟩ := w
  exact ⟨⟨dx, v1, v2, v3, v4, s _ _ e, r.same s⟩, a, b, c⟩
theorem WebO.but {C : Addr} {H H' : Hp} {h c p : Addr} {n : Int} {rds : List D} (w : WebO C H h p n rds) (k : But h H H') (hA : HandAt H h c) : WebO C H' h p n rds := by
  obtain ⟨⟨dx, v1, v2, v3, v4, e, r⟩, a, b, c⟩ := w
  refine ⟨⟨dx, v1, v2, v3, v4, k _ _ e ?_, r.monoB k hA⟩, a, b, c⟩
  obtain ⟨zs, q⟩ := hA.lst
  exact ne_of e q (by intro z; cases z)
theorem webN {a b : Str} (h : ¬ a = b) : ¬ a = b := h
theorem wF_r (v1 v2 v3 v4 : V) : (webF v1 v2 v3 v4).lookup ("roads" : Str) = some v2 := by
  have h1 : ¬ (("roads" : Str) = "rooms") := by decide +kernel
  have h2 : ¬ (("roads" : Str) = "times") := by decide +kernel
  unfold webF
  rw [lookup_putF, if_neg h2, lookup_putF, if_neg h1, lookup_putF, if_pos rfl]
/-- the road i of a web's roads -/
theorem RpA.road {H : Hp} {h : Addr} {xs : List V} {rds : List D} {n : Int} (r : RpA H h xs rds) (hall : rds.all (isBE n) = true) {j : Nat} (hj : j < rds.length) :
    ∃ q a b, xs[j]? = some (.ref q) ∧ H q = some (.tup [.int a, .int b]) ∧ bg (rds.getD j .non) = a ∧ en (rds.getD j .non) = b := by
  have hx : j < xs.length := by rw [r.len]; exact hj
  obtain ⟨d, h1, h2⟩ := r.get (List.getElem?_eq_getElem hx)
  rw [List.all_eq_true] at hall
  obtain ⟨a, b, rfl, _⟩ := be_full (hall d (List.mem_of_getElem? h1))
  obtain ⟨q, ys, e1, e2, _, ra⟩ := tup_inv h2
  have eg : rds.getD j .non = .tup [.int a, .int b] := by rw [List.getD_eq_getElem?_getD, h1]; rfl
  cases ra with
  | cons r1 ra =>
    cases ra with
    | cons r2 ra =>
      cases ra
      cases r1
      cases r2
      exact ⟨q, a, b, by rw [List.getElem?_eq_getElem hx, e1], e2, by rw [eg]; rfl, by rw [eg]; rfl⟩
theorem road_in {rds : List D} {d : D} (e : isRoad rds d = true) : ∃ j : Nat, d = .int j ∧ j < rds.length := by
  cases d with
  | int i =>
    have e1 : (decide (0 ≤ i) && decide (i ≤ (rds.length : Int) - 1)) = true := e
    rw [Bool.and_eq_true] at e1
    have h1 := of_decide_eq_true e1.1
    have h2 := of_decide_eq_true e1.2
    exact ⟨i.toNat, by rw [Int.toNat_of_nonneg h1], by omega⟩
  | _ => exact Bool.noConfusion e
/-- a tuple of numbers of roads -/
theorem roads_in {H : Hp} {h : Addr} {rds : List D} : ∀ {xs : List V} {ds : List D}, RpA H h xs ds → ds.all (isRoad rds) = true → ∃ ns : List Nat, ds = ns.map (fun j => .int (j : Nat)) ∧ xs = ns.map (fun j => V.int (j : Nat)) ∧ ∀ j ∈ ns, j < rds.length
  | _, _, .nil, _ => ⟨[], rfl, rfl, fun _ z => nomatch z⟩
  | _, _, .cons r q, e => by
    rw [List.all_cons, Bool.and_eq_true] at e
    obtain ⟨j, rfl, hj⟩ := road_in e.1
    obtain ⟨ns, rfl, rfl, hn⟩ := roads_in q e.2
    cases r
    exact ⟨j :: ns, rfl, rfl, fun k hk => by
      rcases List.mem_cons.mp hk with rfl | hk
      · exact hj
      · exact hn k hk⟩
theorem sl1 {K : PySem.W.Frag} {H : Hp} {a : Addr} {xs : List V} {Q : VK} (e : H a = some (.tup xs)) (k : ∀ b H', Same H H' → H' b = some (.tup (xs.drop 1)) → Q (.ref b) H') : rSlA K (.ref a) (some 1) none H Q := by
  have s1 : HT.sIx xs.length 0 (some 1) = min 1 xs.length := by
    show (if (1 : Int) < 0 then ((1 : Int) + (xs.length : Int)).toNat else min (1 : Int).toNat xs.length) = _
    rw [if_neg (by decide)]; rfl
  have s2 : HT.sIx xs.length xs.length none = xs.length := rfl
  have cut : cutV xs (some 1) none = xs.drop 1 := by
    unfold cutV
    rw [s1, s2]
    by_cases h : xs.length = 0
    · have : xs = [] := List.eq_nil_of_length_eq_zero h
      subst this; rfl
    · have m : min 1 xs.length = 1 := by omega
      rw [m]
      exact List.take_of_length_le (by rw [List.length_drop]; exact Nat.le_refl _)
  refine ⟨a, xs, rfl, SqT.of e, fun hw => ?_, fun _ p hp => ?_⟩
  · have h0 : xs.length = 0 := by
      rw [s1] at hw; omega
    have : xs = [] := List.eq_nil_of_length_eq_zero h0
    subst this
    exact k a H (Same.refl H) e
  · exact k p _ (same_upd hp) (by rw [upd_same, cut])
/-- [.. for i, x in enumerate(t) ..] -/
theorem lc_enumT {K : PySem.W.Frag} {a : Addr} {xs : List V} {g : TG} {tt : TT} {te : TE} {vs : List Nat} {σ : St} {H1 : Hp} {D : Addr} {Qd : Hp → Prop} (Pv : Nat → Hp → Prop) (h0 : Pv 0 (upd H1 D (.lst [])))
    (hl : ∀ i H, Pv i H → SqT K H a xs)
    (hs : ∀ (i : Nat) (x : V) (T : Addr) (H : Hp), xs[i]? = some x → H T = none → Pv i H → g (.ref T) (wipe σ vs) (upd H T (.tup [.int (i : Nat), x])) fun σ2 H2 => wipe σ2 vs = wipe σ vs ∧ tt σ2 H2 fun b H3 =>
      if b = true then te σ2 H3 fun y H4 => ∃ acc, H4 D = some (.lst acc) ∧ acc.length < sizeLine ∧ Pv (i + 1) (upd H4 D (.lst (acc ++ [y]))) else Pv (i + 1) H3) (hd : ∀ H, Pv xs.length H → Qd H) :
    ∃ W : Nat → Nat → Hp → Prop, (∃ m, W 0 m (upd H1 D (.lst []))) ∧ ∀ i m H, W i m H →
      ((IteT K a).stop i H ∧ Qd H) ∨ ((IteT K a).go i H ∧ ∃ Nx : Hp → Prop, (∀ H', Nx H' → ∃ m', m' < m ∧ W (i + 1) m' H') ∧ ∀ x H', (IteT K a).yld i H x H' → g x (wipe σ vs) H' fun σ2 H2 => wipe σ2 vs = wipe σ vs ∧ tt σ2 H2 fun b H3 =>
        if b = true then te σ2 H3 fun y H4 => ∃ acc, H4 D = some (.lst acc) ∧ acc.length < sizeLine ∧ Nx (upd H4 D (.lst (acc ++ [y]))) else Nx H3) := by
  refine ⟨fun i m H => m = xs.length - i ∧ i ≤ xs.length ∧ Pv i H, ⟨_, rfl, Nat.zero_le _, h0⟩, ?_⟩
  rintro i m H ⟨rfl, hi, p⟩
  have q := hl i H p
  by_cases hlt : i < xs.length
  · refine .inr ⟨⟨xs, _, q, List.getElem?_eq_getElem hlt⟩, Pv (i + 1), fun H' p' => ⟨xs.length - (i + 1), by omega, rfl, hlt, p'⟩, fun v H' y => ?_⟩
    obtain ⟨T, x', rfl, hT, rfl, f1⟩ := y
    exact hs i x' T H (f1 xs q) hT p
  · have e : i = xs.length := by omega
    subst e
    exact .inl ⟨⟨xs, q, Nat.le_refl _⟩, hd H p⟩
section
variable {P : Program} {w : World} {K : PySem.W.Frag} {mg : Str → Option Value} {base : Heap}
def spIsRoad (C : Addr) : Sp := fun vs H Q _ => ∃ (h p : Addr) (n : Int) (rds : List D) (v : V) (d : D), vs = [.ref p, v] ∧ WebO C H h p n rds ∧ Rp H h v d ∧ Q (.bl (isRoad rds d)) H
theorem ok_is_road (T : Tx K mg) : FnOk P w K mg base CX0 3 T.is_road.f T.is_road.fd ["web", "thing"] (spIsRoad T.Web.C) := by
  refine T.is_road.F.ok sc_is_road (fun vs H Q E h => ?_) (fun cdv A outer s H vs Q E hr h => ?_)
  · obtain ⟨_, p, n, rds, v, d, rfl, _⟩ := h
    rfl
  · obtain ⟨h, p, n, rds, v, d, rfl, W, r, k⟩ := h
    obtain ⟨dx, v1, v2, v3, v4, hp, r2⟩ := W.ex
    obtain ⟨pa, xs, rfl, ea, za, ra⟩ := tup_inv r2
    refine ⟨_, (pss_one (ps_ret (pe_call (ok_is_between T) (hr.mono (by decide)) rfl T.is_between.g T.is_between.F.kp T.is_between.b .nil pass0 (pa_cons pe_int (pa_cons (pe_op op_sub (pe_callB call_len_seq (by rfl) T.n_len (by decide +kernel) (pa_cons (pe_fld (pv 0) rfl) pa_nil)) pe_int) (pa_cons (pv 1) pa_nil)))))), ?_⟩
    refine ⟨_, rfl, p, T.Web.C, dx, _, _, rfl, hp, T.Web.cl, T.Web.no _ (by simp), wF_r _ _ _ _, pa, xs, rfl, .inr (SqT.of ea), _, _, rfl, rfl, _, rfl, h, 0, _, v, d, rfl, r, ?_⟩
    rw [ra.len]
    exact k
theorem isWay_tup (rds : List D) (ds : List D) : isWay rds (.tup ds) = (decide (1 ≤ ds.length) && decide (ds.length ≤ 8) && ds.all (isRoad rds) && adj (fun a b => decide (en (dAt rds a) = bg (dAt rds b))) (ds.map num)) := rfl
theorem isLot_tup (rds : List D) (ds : List D) : isLot rds (.tup ds) = (ds.all (isRoad rds) && adj (fun a b => decide (a < b)) (ds.map num)) := rfl
theorem map_range_all (n : Nat) (f : Nat → Bool) : ((List.range n).map f).all id = (List.range n).all f := by rw [List.all_map]; rfl
theorem nums_map (ns : List Nat) : (ns.map fun j => D.int (j : Nat)).map num = ns.map fun (j : Nat) => (j : Int) := by rw [List.map_map]; rfl
theorem getD_map (ns : List Nat) {i : Nat} (h : i < ns.length) : (ns.map fun (j : Nat) => (j : Int)).getD i 0 = (ns[i] : Nat) := by
  rw [List.getD_eq_getElem?_getD, List.getElem?_map, List.getElem?_eq_getElem h]; rfl
def spJudge (C : Addr) (g : List D → D → Bool) : Sp := fun vs H Q _ => ∃ (h p : Addr) (n : Int) (rds : List D) (v : V) (d : D), vs = [.ref p, v] ∧ WebO C H h p n rds ∧ Rp H h v d ∧ ∀ H', Same H H' → Q (.bl (g rds d)) H'
/-- [r(a, b) for a, b in zip(t, t[1:])] over a tuple of numbers -/
theorem lc_next {K : PySem.W.Frag} {H H0 : Hp} {a b A : Addr} {ns : List Nat} {i1 i2 : Nat} {te : TE} {vs : List Nat} {σ : St} {Qd : Hp → Prop} (R : Int → Int → Bool) (s0 : Same H0 H) (hA : H A = none)
    (e1 : H a = some (.tup (ns.map fun j => V.int (j : Nat)))) (e2 : H b = some (.tup ((ns.map fun j => V.int (j : Nat)).drop 1))) (hz : ns.length ≤ 100000)
    (hw : ∀ x y, wipe (((wipe σ vs).set i1 (some x)).set i2 (some y)) vs = wipe σ vs)
    (hs : ∀ (i : Nat) (hi : i + 1 < ns.length) H' (Q : VK), Same H H' → (∀ H4, Same H' H4 → Q (.bl (R (ns[i]'(by omega) : Nat) (ns[i + 1] : Nat))) H4) → te (((wipe σ vs).set i1 (some (.int (ns[i]'(by omega) : Nat)))).set i2 (some (.int (ns[i + 1] : Nat)))) H' Q)
    (hd : ∀ H', Same H0 H' → SqL K H' A (((List.range (ns.length - 1)).map fun j => R ((ns.map fun (j : Nat) => (j : Int)).getD j 0) ((ns.map fun (j : Nat) => (j : Int)).getD (j + 1) 0)).map V.bl) → Qd H') :
    ∃ W : Nat → Nat → Hp → Prop, (∃ m, W 0 m (upd H A (.lst []))) ∧ ∀ i m H, W i m H →
      ((RZ.ItzT K a b).stop i H ∧ Qd H) ∨ ((RZ.ItzT K a b).go i H ∧ ∃ Nx : Hp → Prop, (∀ H', Nx H' → ∃ m', m' < m ∧ W (i + 1) m' H') ∧ ∀ x H', (RZ.ItzT K a b).yld i H x H' → (gTup K 2 (gCons (gName i1) (gCons (gName i2) gNil))) x (wipe σ vs) H' fun σ2 H2 => wipe σ2 vs = wipe σ vs ∧ tYes σ2 H2 fun b H3 =>
        if b = true then te σ2 H3 fun y H4 => ∃ acc, H4 A = some (.lst acc) ∧ acc.length < sizeLine ∧ Nx (upd H4 A (.lst (acc ++ [y]))) else Nx H3) := by
  refine lc_zipT (xs := ns.map fun j => V.int (j : Nat)) (ys := (ns.map fun j => V.int (j : Nat)).drop 1) (fun i H' => Same H (fun b => if b = A then none else H' b) ∧ H' A = some (.lst (((List.range i).map fun j => R ((ns.map fun (j : Nat) => (j : Int)).getD j 0) ((ns.map fun (j : Nat) => (j : Int)).getD (j + 1) 0)).map V.bl)))
    ⟨fun b o q => ?_, upd_same⟩ (fun i H' ⟨s, _⟩ => ?_) ?_ ?_
  · have n := ne_of_none q hA
    show (if b = A then none else upd H A _ b) = _
    rw [if_neg n, upd_ne n]; exact q
  · have q1 := s _ _ e1
    have q2 := s _ _ e2
    simp only [if_neg (ne_of_none e1 hA)] at q1
    simp only [if_neg (ne_of_none e2 hA)] at q2
    exact ⟨SqT.of q1, SqT.of q2⟩
  · intro i x y TT H' hx hy ⟨s, hacc⟩ hT
    have sm : Same H H' := fun b o q => by
      have r := s b o q
      simp only [if_neg (ne_of_none q hA)] at r
      exact r
    have hi : i + 1 < ns.length := by
      have := (List.getElem?_eq_some_iff.mp hy).1
      rw [List.length_drop, List.length_map] at this
      omega
    have ex : x = .int (ns[i]'(by omega) : Nat) := by
      rw [List.getElem?_map, List.getElem?_eq_getElem (by omega)] at hx
      exact (Option.some.inj hx).symm
    have ey : y = .int (ns[i + 1] : Nat) := by
      rw [List.getElem?_drop, List.getElem?_map, show 1 + i = i + 1 by omega, List.getElem?_eq_getElem hi] at hy
      exact (Option.some.inj hy).symm
    subst ex ey
    have sT : Same H' (upd H' TT (.tup [.int (ns[i]'(by omega) : Nat), .int (ns[i + 1] : Nat)])) := same_upd hT
    refine ⟨TT, _, rfl, SqT.of upd_same, rfl, _, _, rfl, _, _, rfl, rfl, hw _ _, tyes (hs i hi _ _ (sm.trans sT) fun H4 s4 => ⟨_, s4 _ _ (sT _ _ hacc), ?_, fun b o q => ?_, ?_⟩)⟩
    · rw [List.length_map, List.length_map, List.length_range]; exact line_lt (by omega)
    · have n := ne_of_none q hA
      show (if b = A then none else upd H4 A _ b) = _
      rw [if_neg n, upd_ne n]
      exact s4 _ _ (sT _ _ (sm _ _ q))
    · rw [upd_same, List.range_succ, List.map_append, List.map_append, List.map_cons, List.map_nil, List.map_cons, List.map_nil, getD_map ns (by omega), getD_map ns hi]
  · intro H' ⟨s, hacc⟩
    have sm : Same H H' := fun b o q => by
      have r := s b o q
      simp only [if_neg (ne_of_none q hA)] at r
      exact r
    have m : min (ns.map fun j => V.int (j : Nat)).length ((ns.map fun j => V.int (j : Nat)).drop 1).length = ns.length - 1 := by
      rw [List.length_drop, List.length_map]; omega
    rw [m] at hacc
    exact hd H' (s0.trans sm) (SqL.of hacc)
theorem ok_is_way (T : Tx K mg) : FnOk P w K mg base CX0 4 T.is_way.f T.is_way.fd ["web", "thing"] (spJudge T.Web.C isWay) := by
  refine T.is_way.F.ok sc_is_way (fun vs H Q E h => ?_) (fun cdv A outer s H vs Q E hr h => ?_)
  · obtain ⟨_, p, n, rds, v, d, rfl, _⟩ := h
    rfl
  · obtain ⟨h, p, n, rds, v, d, rfl, W, r, k⟩ := h
    refine ⟨_, (pss_one (ps_ret (pe_and (pe_callB call_isi (by rfl) T.n_isinstance (by decide +kernel) (pa_cons (pv 1) (pa_cons (pe_bltn (v := .ty "tuple") (by rfl) T.n_tuple (by decide +kernel) rfl) pa_nil))) (pe_and (pe_chain op_le op_le pe_int (pe_callB call_len_seq (by rfl) T.n_len (by decide +kernel) (pa_cons (pv 1) pa_nil)) (pe_glob (v := .int 8) rfl T.c_LONGEST_WAY.choose_spec ⟨_, rfl⟩)) (pe_and (pe_callB (cr_all rfl) (by rfl) T.n_all (by decide +kernel) (pa_cons (pe_lc (own := [("road", 2)]) (g := (gName 2)) (tt := tYes) rfl sc_is_way.nd (pi_tup (pv 1)) (blkOk_by (own := [("road", 2)]) (N := ["web", "thing", "road", "after"]) (sc := defScope s_is_way) (by decide +kernel)) (fun _ _ _ _ _ => (pg_name (i := 2) sc_is_way.nd rfl (Or.inl rfl))) (fun _ _ _ _ _ => pts_nil) (fun _ _ _ _ _ => (by exact (pe_call (ok_is_road T) (hr.mono (by decide)) rfl T.is_road.g T.is_road.F.kp T.is_road.b .nil pass0 (pa_cons (pv 0) (pa_cons (pv 2) pa_nil)))))) pa_nil)) (pe_one (pe_callB (cr_all rfl) (by rfl) T.n_all (by decide +kernel) (pa_cons (pe_lc (own := [("road", 2), ("after", 3)]) (g := (gTup K 2 (gCons (gName 2) (gCons (gName 3) gNil)))) (tt := tYes) (te := (tOp rEq (tOp (rIxT K) (tOp (rIxT K) (tFld K (tVar 0) "roads") (tVar 2)) (tC (.int 1))) (tOp (rIxT K) (tOp (rIxT K) (tFld K (tVar 0) "roads") (tVar 3)) (tC (.int 0))))) rfl sc_is_way.nd (RZ.pi_zipA (by rfl) T.n_zip (pa_cons (pv 1) (pa_cons (pe_slice sl_tupA (pv 1) (po_some pe_int) po_none) pa_nil))) (blkOk_by (own := [("road", 2), ("after", 3)]) (N := ["web", "thing", "road", "after"]) (sc := defScope s_is_way) (by decide +kernel)) (fun _ _ _ _ _ => (pg_tup (by rfl) (pgs_cons (pg_name (i := 2) sc_is_way.nd rfl (Or.inl rfl)) (pgs_cons (pg_name (i := 3) sc_is_way.nd rfl (Or.inl rfl)) pgs_nil)))) (fun _ _ _ _ _ => pts_nil) (fun _ _ _ _ _ => (by exact (pe_cmpR op_eq (pe_ix ix_tup (pe_ix ix_tup (pe_fld (pv 0) rfl) (pv 2) (fun _ _ => rfl)) pe_int (fun _ _ => rfl)) (pe_ix ix_tup (pe_ix ix_tup (pe_fld (pv 0) rfl) (pv 3) (fun _ _ => rfl)) pe_int (fun _ _ => rfl)) (nomark _))))) pa_nil)))))))), ?_⟩
    refine ⟨_, rfl, _, _, _, _, _, rfl, .ty "tuple", r.ty, kit_ty (kitT d), _, rfl, ?_⟩
    cases r with
    | @tup pa xs ds e z ra =>
      refine iteT ?_
      refine ⟨_, rfl, _, _, rfl, .inr (SqT.of e), _, _, rfl, rfl, _, rfl, ?_⟩
      rw [ra.len]
      by_cases h1 : 1 ≤ ds.length
      · rw [decide_eq_true (show (1 : Int) ≤ (ds.length : Int) by omega)]
        refine iteT ?_
        refine ⟨_, _, rfl, rfl, _, rfl, ?_⟩
        by_cases h2 : ds.length ≤ 8
        · rw [decide_eq_true (show (ds.length : Int) ≤ 8 by omega)]
          refine iteT ?_
          refine ⟨_, rfl, _, rfl, ⟨_, SqT.of e⟩, fun A hA => all_tup e z ra (isRoad rds) hA (fun x => rfl) (fun x d H' Q' _ s1 rp q => ?_) (fun H' sm sl => ?_)⟩
          · exact ⟨_, rfl, _, rfl, h, p, n, rds, _, _, rfl, W.same s1, rp, q _ (Same.refl _)⟩
          · refine ⟨_, _, rfl, sl, _, rfl, ?_⟩
            rw [map_all]
            cases e1 : ds.all (isRoad rds) with
            | false =>
              refine iteF ?_
              have := k H' sm
              rw [isWay_tup, e1, decide_eq_true h1, decide_eq_true h2] at this
              exact this
            | true =>
              refine iteT ?_
              obtain ⟨ns, rfl, rfl, hn⟩ := roads_in ra e1
              rw [List.length_map] at z
              refine ⟨_, rfl, _, rfl, _, rfl, ?_⟩
              delta tNoPart
              refine sl1 (sm _ _ e) fun b H1 s1 eb => ?_
              refine ⟨_, _, _, _, rfl, .inr ⟨SqT.of (s1 _ _ (sm _ _ e)), SqT.of eb, fun A2 hA2 => lc_next (fun a b => decide (en (dAt rds a) = bg (dAt rds b))) (sm.trans s1) hA2 (s1 _ _ (sm _ _ e)) eb z (fun x y => rfl) (fun i hi H2 Q' s2 q => ?_) (fun H2 s2 sl2 => ?_)⟩⟩
              · obtain ⟨dx, v1, v2, v3, v4, hp, r2⟩ := (W.same (sm.trans (s1.trans s2))).ex
                obtain ⟨pw, xw, rfl, ew, zw, rw_⟩ := tup_inv r2
                obtain ⟨q1, a1, b1, y1, y2, y3, y4⟩ := rw_.road W.all (hn _ (List.getElem_mem (show i < ns.length by omega)))
                obtain ⟨q2, a2, b2, w1, w2, w3, w4⟩ := rw_.road W.all (hn _ (List.getElem_mem hi))
                refine ⟨_, rfl, p, T.Web.C, dx, _, _, rfl, hp, T.Web.cl, T.Web.no _ (by simp), wF_r _ _ _ _, _, rfl, pw, xw, _, _, rfl, rfl, SqT.of ew, atI_nat y1, q1, _, 1, _, rfl, rfl, SqT.of y2, atI_nat (j := 1) rfl, ?_⟩
                refine ⟨_, rfl, p, T.Web.C, dx, _, _, rfl, hp, T.Web.cl, T.Web.no _ (by simp), wF_r _ _ _ _, _, rfl, pw, xw, _, _, rfl, rfl, SqT.of ew, atI_nat w1, q2, _, 0, _, rfl, rfl, SqT.of w2, atI_nat (j := 0) rfl, rfl, ?_⟩
                rw [int_eqd, ← y4, ← w3]
                exact q _ (Same.refl _)
              · refine ⟨_, _, rfl, sl2, ?_⟩
                rw [map_range_all]
                have := k H2 s2
                rw [isWay_tup, e1, decide_eq_true h1, decide_eq_true h2, Bool.true_and, Bool.true_and, Bool.true_and, nums_map] at this
                unfold adj at this
                rw [List.length_map] at this
                exact this
        · rw [decide_eq_false (show ¬ (ds.length : Int) ≤ 8 by omega)]
          refine iteF ?_
          have := k H (Same.refl _)
          rw [isWay_tup, decide_eq_true h1, decide_eq_false h2] at this
          exact this
      · rw [decide_eq_false (show ¬ (1 : Int) ≤ (ds.length : Int) by omega)]
        refine iteF ⟨_, rfl, iteF ?_⟩
        have := k H (Same.refl _)
        rw [isWay_tup, decide_eq_false h1] at this
        exact this
    | _ => exact iteF (k H (Same.refl _))
end
end Hc


set_option Elab.async false
set_option linter.all false
set_option maxRecDepth 100000
set_option maxHeartbeats 1000000
set_option autoImplicit false
namespace Hc
open PySem L2
/-- a drawn web as the law holds it -/
structure WebL (H : Hp) (h : Addr) (v : V) (n : Int) (rds : List D) : Prop where
  ex : ∃ rm tm, Rp H h v (.tup [.int n, .tup rds, rm, tm])
  all : rds.all (isBE n) = true
  l1 : 1 ≤ rds.length
  l2 : rds.length ≤ 24
theorem WebL.same {H H' : Hp} {h : Addr} {v : V} {n : Int} {rds : List D} (w : WebL H h v n rds) (s : Same H H') : WebL H' h v n rds := by
  obtain ⟨⟨rm, tm, r⟩, a, b, c⟩ := w
  exact ⟨⟨rm, tm, r.same s⟩, a, b, c⟩
theorem WebL.but {H H' : Hp} {h c : Addr} {v : V} {n : Int} {rds : List D} (w : WebL H h v n rds) (k : But h H H') (hA : HandAt H h c) : WebL H' h v n rds := by
  obtain ⟨⟨rm, tm, r⟩, a, b, d⟩ := w
  exact ⟨⟨rm, tm, r.monoB k hA⟩, a, b, d⟩
theorem WebL.inv {H : Hp} {h : Addr} {v : V} {n : Int} {rds : List D} (w : WebL H h v n rds) : ∃ p q x3 x4 xs, v = .ref p ∧ H p = some (.tup [.int n, .ref q, x3, x4]) ∧ H q = some (.tup xs) ∧ RpA H h xs rds := by
  obtain ⟨⟨rm, tm, r⟩, _⟩ := w
  obtain ⟨p, ys, rfl, e, _, ra⟩ := tup_inv r
  cases ra with
  | cons r1 ra =>
  cases ra with
  | cons r2 ra =>
  cases ra with
  | cons r3 ra =>
  cases ra with
  | cons r4 ra =>
  cases ra
  cases r1
  obtain ⟨q, xs, rfl, e2, _, r2'⟩ := tup_inv r2
  exact ⟨p, q, _, _, xs, rfl, e, e2, r2'⟩
/-- a tuple of natural numbers -/
def nD (ns : List Nat) : D := .tup (ns.map fun j => .int (j : Nat))
theorem nD_inv {H : Hp} {h : Addr} {v : V} {ns : List Nat} (r : Rp H h v (nD ns)) : ∃ a, v = .ref a ∧ H a = some (.tup (ns.map fun j => V.int (j : Nat))) ∧ ns.length ≤ 100000 := by
  obtain ⟨a, xs, rfl, e, z, ra⟩ := tup_inv r
  have key : ∀ {xs : List V} {ns : List Nat}, RpA H h xs (ns.map fun j => D.int (j : Nat)) → xs = ns.map fun j => V.int (j : Nat) := by
    intro xs ns
    induction ns generalizing xs with
    | nil => intro r; cases r; rfl
    | cons n ns ih =>
      intro r
      cases r with
      | cons r1 r2 => cases r1; rw [ih r2]; rfl
  have := key ra
  subst this
  rw [List.length_map] at z
  exact ⟨a, rfl, e, z⟩
theorem nD_mk {H : Hp} {h : Addr} {a : Addr} {ns : List Nat} (e : H a = some (.tup (ns.map fun j => V.int (j : Nat)))) (z : ns.length ≤ 100000) : Rp H h (.ref a) (nD ns) := by
  refine .tup e (by rw [List.length_map]; exact z) ?_
  clear e z
  induction ns with
  | nil => exact .nil
  | cons n ns ih => exact .cons (.int _) ih
section
variable {P : Program} {w : World} {K : PySem.W.Frag} {mg : Str → Option Value} {base : Heap}
def spNextL : Sp := fun vs H Q _ => ∃ (h : Addr) (v : V) (n : Int) (rds : List D) (j : Nat), vs = [v, .int j] ∧ WebL H h v n rds ∧ j < rds.length ∧
  ∀ a H', Same H H' → H a = none → H' a = some (.lst ((nextL rds j).map fun j => V.int (j : Nat))) → Q (.ref a) H'
end
end Hc


set_option Elab.async false
set_option linter.all false
set_option maxRecDepth 100000
set_option maxHeartbeats 1000000
set_option autoImplicit false
local macro_rules | `(tactic| walk_at "gen") => `(tactic| (generalize hE : L2.upd _ _ _ = H2; have q := Hc.new_facts (by assumption) (by assumption) hE; clear hE; obtain ⟨s2, e2, n2, n3, hA2⟩ := q))
namespace Hc
open PySem L2
/-- each road begins where the one ahead ends -/
def wayOk (rds : List D) (ns : List Nat) : Prop := ∀ i, i + 1 < ns.length → en (dAt rds ((ns.getD i 0 : Nat) : Int)) = bg (dAt rds ((ns.getD (i + 1) 0 : Nat) : Int))
theorem wayOk_one (rds : List D) (m : Nat) : wayOk rds [m] := fun i hi => by simp at hi
theorem wayOk_app {rds : List D} {ns : List Nat} {j x : Nat} (h : wayOk rds (ns ++ [j])) (e : en (dAt rds (j : Nat)) = bg (dAt rds (x : Nat))) : wayOk rds (ns ++ [j] ++ [x]) := fun i hi => by
  rw [List.length_append, List.length_append] at hi
  simp only [List.length_singleton] at hi
  by_cases q : i + 1 < (ns ++ [j]).length
  · have := h i q
    rw [List.getD_eq_getElem?_getD, List.getD_eq_getElem?_getD, List.getElem?_append_left (by omega), List.getElem?_append_left q]
    rw [List.getD_eq_getElem?_getD, List.getD_eq_getElem?_getD] at this
    exact this
  · rw [List.length_append, List.length_singleton] at q
    have ei : i = ns.length := by omega
    subst ei
    have e1 : (ns ++ [j] ++ [x]).getD ns.length 0 = j := by
      rw [List.getD_eq_getElem?_getD, List.append_assoc, List.getElem?_append_right (Nat.le_refl _), Nat.sub_self]; rfl
    have e2 : (ns ++ [j] ++ [x]).getD (ns.length + 1) 0 = x := by
      rw [List.getD_eq_getElem?_getD, List.getElem?_append_right (by simp), List.length_append, List.length_singleton, Nat.sub_self]; rfl
    rw [e1, e2]
    exact e
theorem way_ok {rds : List D} {ns : List Nat} (h0 : 1 ≤ ns.length) (h8 : ns.length ≤ 8) (h1 : ∀ j ∈ ns, j < rds.length) (h2 : wayOk rds ns) : isWay rds (nD ns) = true := by
  show isWay rds (.tup (ns.map fun j => .int (j : Nat))) = true
  rw [isWay_tup, List.length_map, decide_eq_true h0, decide_eq_true h8, Bool.true_and, Bool.true_and, Bool.and_eq_true]
  constructor
  · rw [List.all_eq_true]
    intro d hd
    obtain ⟨j, hj, rfl⟩ := List.mem_map.mp hd
    have := h1 j hj
    exact btw_of (by omega) (by omega)
  · rw [nums_map]
    unfold adj
    rw [List.all_eq_true, List.length_map]
    intro j hj
    have hj := List.mem_range.mp hj
    have a1 : j < ns.length := by omega
    have a2 : j + 1 < ns.length := by omega
    rw [getD_map ns a1, getD_map ns a2]
    have := h2 j a2
    rw [List.getD_eq_getElem?_getD, List.getElem?_eq_getElem a1, List.getD_eq_getElem?_getD, List.getElem?_eq_getElem a2] at this
    exact decide_eq_true this
section
variable {P : Program} {w : World} {K : PySem.W.Frag} {mg : Str → Option Value} {base : Heap}
def spWayL : Sp := fun vs H Q _ => ∃ (h c : Addr) (v : V) (n : Int) (rds : List D) (mo : Int), vs = [.ref h, v, .int mo] ∧ HandAt H h c ∧ WebL H h v n rds ∧ 1 ≤ mo ∧ mo ≤ 1000 ∧
  ∀ v' ns H', HandAt H' h c → But h H H' → Rp H' h v' (nD ns) → 1 ≤ ns.length → (ns.length : Int) ≤ mo → (∀ j ∈ ns, j < rds.length) → wayOk rds ns → Q v' H'
end
end Hc


set_option Elab.async false
set_option linter.all false
set_option maxRecDepth 100000
set_option maxHeartbeats 1000000
set_option autoImplicit false
namespace Hc
open PySem L2
/-- what is no list stays -/
def NL (H H' : Hp) : Prop := ∀ b o, H b = some o → (∀ xs, o ≠ .lst xs) → H' b = some o
theorem NL.refl (H : Hp) : NL H H := fun _ _ e _ => e
theorem NL.trans {H H1 H2 : Hp} (a : NL H H1) (b : NL H1 H2) : NL H H2 := fun c o e n => b c o (a c o e n) n
theorem NL.of {H H' : Hp} (s : Same H H') : NL H H' := fun b o e _ => s b o e
theorem NL.upd {H : Hp} {p : Addr} {o : HO} {xs : List V} (e : H p = some (.lst xs)) : NL H (upd H p o) := fun b u q n => by
  rw [upd_ne (fun z => by subst z; rw [e] at q; exact n xs (Option.some.inj q).symm)]
  exact q
theorem NL.tup {H H' : Hp} (k : NL H H') {b : Addr} {xs : List V} (e : H b = some (.tup xs)) : H' b = some (.tup xs) := k _ _ e (fun _ z => by cases z)
mutual
def noL : D → Bool
  | .lst => false
  | .tup ds => noLs ds
  | _ => true
def noLs : List D → Bool
  | [] => true
  | d :: ds => noL d && noLs ds
end
section
variable {H H' : Hp} {h : Addr}
mutual
theorem Rp.nl (k : NL H H') : ∀ {v : V} {d : D}, Rp H h v d → noL d = true → Rp H' h v d
  | _, _, .non, _ => .non
  | _, _, .bl b, _ => .bl b
  | _, _, .int i, _ => .int i
  | _, _, .str x, _ => .str x
  | _, _, .tup e z r, n => .tup (k.tup e) z (RpA.nl k r n)
  | _, _, .lst _ _, n => by cases n
  | _, _, .dct e, _ => .dct (k _ _ e (fun _ z => by cases z))
theorem RpA.nl (k : NL H H') : ∀ {vs : List V} {ds : List D}, RpA H h vs ds → noLs ds = true → RpA H' h vs ds
  | _, _, .nil, _ => .nil
  | _, _, .cons a r, n => by
    have n : (noL _ && noLs _) = true := n
    rw [Bool.and_eq_true] at n
    exact .cons (Rp.nl k a n.1) (RpA.nl k r n.2)
end
end
theorem noL_be {n : Int} : ∀ {rds : List D}, rds.all (isBE n) = true → noLs rds = true
  | [], _ => rfl
  | d :: ds, e => by
    rw [List.all_cons, Bool.and_eq_true] at e
    obtain ⟨a, b, rfl, _⟩ := be_full e.1
    show (noL _ && noLs ds) = true
    rw [noL_be e.2]; rfl
theorem noL_nat : ∀ ns : List Nat, noLs (ns.map fun j => D.int (j : Nat)) = true
  | [] => rfl
  | n :: ns => by
    show (noL _ && noLs _) = true
    rw [noL_nat ns]; rfl
theorem noL_nD (ns : List Nat) : noL (nD ns) = true := noL_nat ns
theorem noL_int : ∀ ns : List Int, noLs (ns.map D.int) = true
  | [] => rfl
  | n :: ns => by
    show (noL _ && noLs _) = true
    rw [noL_int ns]; rfl
theorem But.nl {h : Addr} {H H' : Hp} (k : But h H H') (l : IsLst H h) : NL H H' := fun b o e n => k b o e (fun z => by
  subst z
  obtain ⟨xs, q⟩ := l
  rw [e] at q
  exact n xs (Option.some.inj q))
theorem btw_inv {m lo hi : Int} {d : D} (e : areBtw m lo hi d = true) : ∃ ns : List Int, d = .tup (ns.map D.int) ∧ (ns.length : Int) = m ∧ ∀ x ∈ ns, lo ≤ x ∧ x ≤ hi := by
  cases d with
  | tup ds =>
    rw [areBtw_tup, Bool.and_eq_true] at e
    obtain ⟨h1, h2⟩ := e
    have h1 := of_decide_eq_true h1
    have key : ∀ ds : List D, ds.all (isBtw lo hi) = true → ∃ ns : List Int, ds = ns.map D.int ∧ ∀ x ∈ ns, lo ≤ x ∧ x ≤ hi := by
      intro ds
      induction ds with
      | nil => exact fun _ => ⟨[], rfl, fun _ z => nomatch z⟩
      | cons d ds ih =>
        intro h
        rw [List.all_cons, Bool.and_eq_true] at h
        obtain ⟨n, rfl⟩ := btw_shape h.1
        obtain ⟨ns, rfl, hn⟩ := ih h.2
        have e1 : (decide (lo ≤ n) && decide (n ≤ hi)) = true := h.1
        rw [Bool.and_eq_true] at e1
        refine ⟨n :: ns, rfl, fun x hx => ?_⟩
        rcases List.mem_cons.mp hx with rfl | hx
        · exact ⟨of_decide_eq_true e1.1, of_decide_eq_true e1.2⟩
        · exact hn x hx
    obtain ⟨ns, rfl, hn⟩ := key ds h2
    exact ⟨ns, rfl, by rw [List.length_map] at h1; exact h1, hn⟩
  | _ => exact Bool.noConfusion e
/-- a drawn web, whole -/
structure WebF (H : Hp) (h : Addr) (v : V) (n : Int) (rds : List D) (rm tm : List Int) : Prop where
  r : Rp H h v (.tup [.int n, .tup rds, .tup (rm.map D.int), .tup (tm.map D.int)])
  n0 : 2 ≤ n
  n1 : n ≤ 12
  all : rds.all (isBE n) = true
  l1 : 1 ≤ rds.length
  l2 : rds.length ≤ 24
  lr : rm.length = rds.length
  lt : tm.length = rds.length
  br : ∀ x ∈ rm, 1 ≤ x ∧ x ≤ 3
  bt : ∀ x ∈ tm, 1 ≤ x ∧ x ≤ 3
theorem WebF.nl {H H' : Hp} {h : Addr} {v : V} {n : Int} {rds : List D} {rm tm : List Int} (x : WebF H h v n rds rm tm) (k : NL H H') : WebF H' h v n rds rm tm :=
  ⟨x.r.nl k (by simp only [noL, noLs, noL_be x.all, noL_int, Bool.and_true]), x.n0, x.n1, x.all, x.l1, x.l2, x.lr, x.lt, x.br, x.bt⟩
theorem WebF.w {H : Hp} {h : Addr} {v : V} {n : Int} {rds : List D} {rm tm : List Int} (x : WebF H h v n rds rm tm) : WebL H h v n rds := ⟨⟨_, _, x.r⟩, x.all, x.l1, x.l2⟩
theorem webF_of {H : Hp} {h : Addr} {v : V} {d : D} {towns most : Int} (r : Rp H h v d) (w : WebD towns most d) (ht : towns ≤ 12) (hm : most ≤ 24) : ∃ n rds rm tm, WebF H h v n rds rm tm ∧ (rds.length : Int) ≤ most := by
  obtain ⟨n, ds, rm, tm, rfl, h1, h2, h3, h4, h5, h6, h7⟩ := w.ex
  obtain ⟨rs, rfl, r1, r2⟩ := btw_inv h6
  obtain ⟨ts, rfl, t1, t2⟩ := btw_inv h7
  exact ⟨n, ds, rs, ts, ⟨r, h1, by omega, h5, h3, by omega, by omega, by omega, r2, t2⟩, h4⟩
/-! ### letters and their hours -/
abbrev Lt := List Nat × Int
/-- the tick from which on the next place may be passed -/
def nextAt (tm : List Int) (l : Lt) (r : List Int) : Int := if r.length = 0 then l.2 else r.getD (r.length - 1) 0 + tm.getD (l.1.getD (r.length - 1) 0) 0
/-- no hour is earlier than may be -/
def EarlyOk (tm : List Int) (l : Lt) (r : List Int) : Prop := ∀ j, j < r.length → nextAt tm l (r.take j) ≤ r.getD j 0
/-- what is passed: roads and hours -/
def es : List Lt → List (List Int) → List (Nat × Int)
  | l :: ls, r :: rs => l.1.zip r ++ es ls rs
  | _, _ => []
def tot (rows : List (List Int)) : Nat := (rows.map List.length).sum
theorem es_cons (l : Lt) (ls : List Lt) (r : List Int) (rs : List (List Int)) : es (l :: ls) (r :: rs) = l.1.zip r ++ es ls rs := rfl
theorem zip_snoc : ∀ {w : List Nat} {r : List Int} {t : Int} (h : r.length < w.length), w.zip (r ++ [t]) = w.zip r ++ [(w.getD r.length 0, t)]
  | [], _, _, h => by simp at h
  | x :: w, [], t, _ => by simp
  | x :: w, y :: r, t, h => by
    have := zip_snoc (w := w) (r := r) (t := t) (by simp at h; omega)
    show (x, y) :: w.zip (r ++ [t]) = _
    rw [this]
    show _ = (x, y) :: w.zip r ++ [((x :: w).getD (r.length + 1) 0, t)]
    rw [List.getD_cons_succ]; rfl
theorem count_set {x : Nat × Int} {t : Int} : ∀ {ls : List Lt} {rows : List (List Int)} {k : Nat} {l : Lt} {r : List Int}, ls[k]? = some l → rows[k]? = some r → r.length < l.1.length →
    (es ls (rows.set k (r ++ [t]))).count x = (es ls rows).count x + if (l.1.getD r.length 0, t) = x then 1 else 0
  | [], _, _, _, _, e, _, _ => by simp at e
  | _ :: _, [], _, _, _, _, e, _ => by simp at e
  | a :: ls, b :: rows, 0, l, r, e1, e2, h => by
    have e1 : a = l := by simpa using e1
    have e2 : b = r := by simpa using e2
    subst e1 e2
    rw [List.set_cons_zero, es_cons, es_cons, zip_snoc h, List.count_append, List.count_append, List.count_append, List.count_singleton]
    by_cases q : (a.1.getD b.length 0, t) = x
    · rw [if_pos q, if_pos (by simpa using q)]; omega
    · rw [if_neg q, if_neg (by simpa using q)]; omega
  | a :: ls, b :: rows, k + 1, l, r, e1, e2, h => by
    have := count_set (x := x) (t := t) (ls := ls) (rows := rows) (k := k) (l := l) (r := r) (by simpa using e1) (by simpa using e2) h
    rw [List.set_cons_succ, es_cons, es_cons, List.count_append, List.count_append, this]; omega
theorem tot_set {t : Int} : ∀ {rows : List (List Int)} {k : Nat} {r : List Int}, rows[k]? = some r → tot (rows.set k (r ++ [t])) = tot rows + 1
  | [], _, _, e => by simp at e
  | b :: rows, 0, r, e => by
    have e : b = r := by simpa using e
    subst e
    rw [List.set_cons_zero]
    show ((b ++ [t]).length + (rows.map List.length).sum) = (b.length + (rows.map List.length).sum) + 1
    rw [List.length_append, List.length_singleton]; omega
  | b :: rows, k + 1, r, e => by
    have := tot_set (t := t) (rows := rows) (k := k) (r := r) (by simpa using e)
    rw [List.set_cons_succ]
    unfold tot at this ⊢
    rw [List.map_cons, List.map_cons, List.sum_cons, List.sum_cons, this]; omega
/-- rows so far -/
structure RowsOk (tm : List Int) (ls : List Lt) (rows : List (List Int)) : Prop where
  len : rows.length = ls.length
  one : ∀ (k : Nat) (l : Lt) (r : List Int), ls[k]? = some l → rows[k]? = some r → r.length ≤ l.1.length ∧ EarlyOk tm l r
def wTot (ls : List Lt) : Nat := (ls.map fun l => l.1.length).sum
theorem tot_le : ∀ {ls : List Lt} {rows : List (List Int)}, rows.length = ls.length → (∀ (k : Nat) (l : Lt) (r : List Int), ls[k]? = some l → rows[k]? = some r → r.length ≤ l.1.length) → tot rows ≤ wTot ls
  | [], [], _, _ => Nat.le_refl _
  | [], _ :: _, h, _ => by simp at h
  | _ :: _, [], h, _ => by simp at h
  | l :: ls, r :: rows, h, q => by
    have h1 := q 0 l r rfl rfl
    have h2 := tot_le (ls := ls) (rows := rows) (by simpa using h) fun k l' r' e1 e2 => q (k + 1) l' r' (by simpa using e1) (by simpa using e2)
    unfold tot wTot at h2 ⊢
    rw [List.map_cons, List.map_cons, List.sum_cons, List.sum_cons]; omega
theorem early_snoc {tm : List Int} {l : Lt} {r : List Int} {t : Int} (h : EarlyOk tm l r) (e : nextAt tm l r ≤ t) : EarlyOk tm l (r ++ [t]) := fun j hj => by
  rw [List.length_append, List.length_singleton] at hj
  by_cases q : j < r.length
  · have := h j q
    rw [List.take_append_of_le_length (by omega), List.getD_eq_getElem?_getD, List.getElem?_append_left q, ← List.getD_eq_getElem?_getD]
    exact this
  · have ej : j = r.length := by omega
    subst ej
    rw [List.take_append_of_le_length (Nat.le_refl _), List.take_length, List.getD_eq_getElem?_getD, List.getElem?_append_right (Nat.le_refl _), Nat.sub_self]
    exact e
theorem RowsOk.put {tm : List Int} {ls : List Lt} {rows : List (List Int)} (R : RowsOk tm ls rows) {k : Nat} {l : Lt} {r : List Int} {t : Int} (e1 : ls[k]? = some l) (e2 : rows[k]? = some r) (h : r.length < l.1.length) (e : nextAt tm l r ≤ t) :
    RowsOk tm ls (rows.set k (r ++ [t])) := by
  refine ⟨by rw [List.length_set]; exact R.len, fun k' l' r' f1 f2 => ?_⟩
  by_cases q : k = k'
  · subst q
    rw [e1] at f1
    cases f1
    rw [List.getElem?_set_self (List.getElem?_eq_some_iff.mp e2).1] at f2
    cases f2
    exact ⟨by rw [List.length_append, List.length_singleton]; omega, early_snoc (R.one k l r e1 e2).2 e⟩
  · rw [List.getElem?_set_ne q] at f2
    exact R.one k' l' r' f1 f2
/-- no entry is later than x -/
def MaxAt (rows : List (List Int)) (x : Int) : Prop := ∀ r ∈ rows, ∀ y ∈ r, y ≤ x
theorem MaxAt.mono {rows : List (List Int)} {x y : Int} (h : MaxAt rows x) (e : x ≤ y) : MaxAt rows y := fun r hr z hz => Int.le_trans (h r hr z hz) e
theorem MaxAt.put {rows : List (List Int)} {x t : Int} (h : MaxAt rows x) (e : t ≤ x) {k : Nat} {r : List Int} (e2 : rows[k]? = some r) : MaxAt (rows.set k (r ++ [t])) x := fun r' hr y hy => by
  rcases List.mem_or_eq_of_mem_set hr with hr | rfl
  · exact h r' hr y hy
  · rcases List.mem_append.mp hy with hy | hy
    · exact h r (List.mem_of_getElem? e2) y hy
    · rw [List.mem_singleton] at hy; subst hy; exact e
theorem mem_es {x : Nat × Int} : ∀ {ls : List Lt} {rows : List (List Int)}, x ∈ es ls rows → ∃ r ∈ rows, x.2 ∈ r
  | [], _, h => by cases h
  | _ :: _, [], h => by cases h
  | l :: ls, r :: rows, h => by
    rw [es_cons] at h
    rcases List.mem_append.mp h with h | h
    · exact ⟨r, List.mem_cons_self, (List.of_mem_zip (a := x.1) (b := x.2) h).2⟩
    · obtain ⟨r', h1, h2⟩ := mem_es h
      exact ⟨r', List.mem_cons_of_mem _ h1, h2⟩
theorem count_zero {ls : List Lt} {rows : List (List Int)} {x : Int} (h : MaxAt rows x) {road : Nat} {t : Int} (e : x < t) : (es ls rows).count (road, t) = 0 := by
  rw [List.count_eq_zero]
  intro z
  obtain ⟨r, h1, h2⟩ := mem_es z
  have := h r h1 t h2
  omega
/-- where the roads stand -/
def NotFull (rm : List Int) (ls : List Lt) (rows : List (List Int)) : Prop := ∀ road t, road < rm.length → ((es ls rows).count (road, t) : Int) ≤ rm.getD road 0
/-- how far each letter has come -/
def Goes (ls : List Lt) (rows : List (List Int)) (m : Nat) (t : Int) : Prop := ∀ (k : Nat) (l : Lt) (r : List Int), ls[k]? = some l → rows[k]? = some r →
  (r.length < l.1.length → t ≤ 24 + (m : Int) + 3 * (r.length : Int)) ∧ (0 < r.length → r.getD (r.length - 1) 0 ≤ 21 + (tot rows : Int) + 3 * (r.length : Int))
/-- within a tick -/
structure Tick (tm rm : List Int) (ls : List Lt) (rows0 rows : List (List Int)) (idle t : Int) (fr : List Int) (od : List Nat) : Prop where
  R : RowsOk tm ls rows
  M : MaxAt rows t
  N : NotFull rm ls rows
  fl : fr.length = rm.length
  F : ∀ road, road < rm.length → fr.getD road 0 = rm.getD road 0 - ((es ls rows).count (road, t) : Int)
  od_ : ∀ k ∈ od, k < ls.length
  G : Goes ls rows (tot rows0) t
  P : (rows = rows0 ∧ (idle < t → ∀ (k : Nat) (l : Lt) (r : List Int), ls[k]? = some l → rows[k]? = some r → k ∉ od → r.length = l.1.length ∨ t < nextAt tm l r)) ∨ tot rows0 < tot rows
theorem tick_start {tm rm : List Int} {ls : List Lt} {rows : List (List Int)} {idle t : Int} {n : Nat} (R : RowsOk tm ls rows) (M : MaxAt rows (t - 1)) (N : NotFull rm ls rows) (G : Goes ls rows (tot rows) t) (hn : n = ls.length) : Tick tm rm ls rows rows idle t rm (List.range n) := by
  refine ⟨R, M.mono (by omega), N, rfl, fun road hr => ?_, fun k hk => by rw [← hn]; exact List.mem_range.mp hk, G, .inl ⟨rfl, fun _ k l r e1 _ nk => ?_⟩⟩
  · rw [count_zero M (by omega)]; show _ = _ - (0 : Int); omega
  · exact absurd (List.mem_range.mpr (by rw [hn]; exact (List.getElem?_eq_some_iff.mp e1).1)) nk
theorem mem_erase {od : List Nat} {i k k' : Nat} (h : od[i]? = some k) (h1 : k' ∈ od) (h2 : k' ∉ od.eraseIdx i) : k' = k := by
  obtain ⟨j, hj, e⟩ := List.mem_iff_getElem.mp h1
  by_cases q : j = i
  · subst q
    have := (List.getElem?_eq_some_iff.mp h).2
    exact e.symm.trans this
  · refine absurd ?_ h2
    rw [List.mem_eraseIdx_iff_getElem]
    exact ⟨j, hj, q, e⟩
/-- one that is not passed -/
theorem Tick.stay {tm rm : List Int} {ls : List Lt} {rows0 rows : List (List Int)} {idle t : Int} {fr : List Int} {od : List Nat} (T : Tick tm rm ls rows0 rows idle t fr od) {i k : Nat} (h : od[i]? = some k)
    (hs : rows = rows0 → idle < t → ∀ (l : Lt) (r : List Int), ls[k]? = some l → rows[k]? = some r → r.length = l.1.length ∨ t < nextAt tm l r) : Tick tm rm ls rows0 rows idle t fr (od.eraseIdx i) := by
  refine ⟨T.R, T.M, T.N, T.fl, T.F, fun k hk => T.od_ k (List.mem_of_mem_eraseIdx hk), T.G, ?_⟩
  rcases T.P with ⟨e, p⟩ | p
  · refine .inl ⟨e, fun hi k' l r e1 e2 nk => ?_⟩
    by_cases q : k' ∈ od
    · obtain rfl := mem_erase h q nk
      exact hs e hi l r e1 e2
    · exact p hi k' l r e1 e2 q
  · exact .inr p
/-- one that is passed -/
theorem Tick.pass {tm rm : List Int} {ls : List Lt} {rows0 rows : List (List Int)} {idle t : Int} {fr : List Int} {od : List Nat} (T : Tick tm rm ls rows0 rows idle t fr od) {i k : Nat}
    {l : Lt} {r : List Int} (e1 : ls[k]? = some l) (e2 : rows[k]? = some r) (h1 : r.length < l.1.length) (h2 : nextAt tm l r ≤ t) (h3 : l.1.getD r.length 0 < rm.length) (h4 : 0 < fr.getD (l.1.getD r.length 0) 0) :
    Tick tm rm ls rows0 (rows.set k (r ++ [t])) idle t (fr.set (l.1.getD r.length 0) (fr.getD (l.1.getD r.length 0) 0 - 1)) (od.eraseIdx i) := by
  refine ⟨T.R.put e1 e2 h1 h2, T.M.put (Int.le_refl _) e2, fun road x hr => ?_, by rw [List.length_set]; exact T.fl, fun road hr => ?_, fun k hk => T.od_ k (List.mem_of_mem_eraseIdx hk), fun k' l' r' f1 f2 => ?_, ?_⟩
  · rw [count_set e1 e2 h1]
    have := T.N road x hr
    by_cases q : (l.1.getD r.length 0, t) = (road, x)
    · rw [if_pos q]
      have q1 : l.1.getD r.length 0 = road := congrArg Prod.fst q
      have q2 : t = x := congrArg Prod.snd q
      subst q2
      have := T.F road hr
      rw [q1] at h4
      omega
    · rw [if_neg q]; omega
  · rw [count_set e1 e2 h1]
    have f := T.F road hr
    by_cases q : l.1.getD r.length 0 = road
    · rw [if_pos (by rw [q])]
      rw [q, List.getD_eq_getElem?_getD, List.getElem?_set_self (by rw [T.fl]; exact hr)]
      show fr.getD road 0 - 1 = _
      omega
    · rw [if_neg (fun z => q (congrArg Prod.fst z))]
      rw [List.getD_eq_getElem?_getD, List.getElem?_set_ne q, ← List.getD_eq_getElem?_getD]
      omega
  · have tm0 : tot rows0 ≤ tot rows := by
      rcases T.P with ⟨e, _⟩ | p
      · rw [e]; exact Nat.le_refl _
      · omega
    rw [tot_set e2]
    by_cases q : k = k'
    · subst q
      rw [e1] at f1
      cases f1
      rw [List.getElem?_set_self (List.getElem?_eq_some_iff.mp e2).1] at f2
      cases f2
      have g := (T.G k l r e1 e2).1 h1
      have lr : (r ++ [t]).length = r.length + 1 := by rw [List.length_append]; rfl
      have la : (r ++ [t]).getD ((r ++ [t]).length - 1) 0 = t := by
        rw [lr, Nat.add_sub_cancel, List.getD_eq_getElem?_getD, List.getElem?_append_right (Nat.le_refl _), Nat.sub_self]; rfl
      rw [la, lr]
      exact ⟨fun _ => by omega, fun _ => by omega⟩
    · rw [List.getElem?_set_ne q] at f2
      have g := T.G k' l' r' f1 f2
      exact ⟨g.1, fun z => by have := g.2 z; omega⟩
  · refine .inr ?_
    rw [tot_set e2]
    rcases T.P with ⟨e, _⟩ | p
    · rw [e]; omega
    · omega
theorem next_le {tm : List Int} {l : Lt} {r : List Int} {x : Int} (ht : ∀ y ∈ tm, y ≤ 3) (hx : ∀ y ∈ r, y ≤ x) (hc : l.2 ≤ x + 3) : nextAt tm l r ≤ x + 3 := by
  unfold nextAt
  by_cases q : r.length = 0
  · rw [if_pos q]; exact hc
  · rw [if_neg q]
    have h1 : r.getD (r.length - 1) 0 ≤ x := by
      have hl : r.length - 1 < r.length := by omega
      rw [List.getD_eq_getElem?_getD, List.getElem?_eq_getElem hl]
      exact hx _ (List.getElem_mem hl)
    have h2 : tm.getD (l.1.getD (r.length - 1) 0) 0 ≤ 3 := by
      rw [List.getD_eq_getElem?_getD]
      cases e : tm[l.1.getD (r.length - 1) 0]? with
      | none => exact (by decide : (0 : Int) ≤ 3)
      | some y => exact ht y (List.mem_of_getElem? e)
    omega
/-- behind a tick -/
theorem Tick.ends {tm rm : List Int} {ls : List Lt} {rows0 rows : List (List Int)} {idle t : Int} {fr : List Int} (T : Tick tm rm ls rows0 rows idle t fr []) (hi : idle ≤ 23) (ht : ∀ y ∈ tm, y ≤ 3) (hc : ∀ l ∈ ls, l.2 ≤ 20) : Goes ls rows (tot rows) (t + 1) := by
  intro k l r e1 e2
  have g := T.G k l r e1 e2
  refine ⟨fun hu => ?_, g.2⟩
  have g1 := g.1 hu
  rcases T.P with ⟨e, p⟩ | p
  · subst e
    by_cases q : idle < t
    · rcases p q k l r e1 e2 (by simp) with z | z
      · omega
      · by_cases z0 : 0 < r.length
        · have g2 := g.2 z0
          have tz : tm.getD (l.1.getD (r.length - 1) 0) 0 ≤ 3 := by
            rw [List.getD_eq_getElem?_getD]
            cases e : tm[l.1.getD (r.length - 1) 0]? with
            | none => exact (by decide : (0 : Int) ≤ 3)
            | some y => exact ht y (List.mem_of_getElem? e)
          unfold nextAt at z
          rw [if_neg (by omega)] at z
          omega
        · have := hc l (List.mem_of_getElem? e1)
          unfold nextAt at z
          rw [if_pos (by omega)] at z
          omega
    · omega
  · omega
theorem goes_start (ls : List Lt) (rows : List (List Int)) (h : ∀ r ∈ rows, r = []) : Goes ls rows (tot rows) 1 := fun k l r e1 e2 => by
  have := h r (List.mem_of_getElem? e2)
  subst this
  exact ⟨fun _ => by omega, fun z => absurd z (by simp)⟩
theorem goes_end {tm : List Int} {ls : List Lt} {rows : List (List Int)} (G : Goes ls rows (tot rows) 400) (R : RowsOk tm ls rows) (h : wTot ls ≤ 300) (h8 : ∀ l ∈ ls, l.1.length ≤ 8) {k : Nat} {l : Lt} {r : List Int} (e1 : ls[k]? = some l) (e2 : rows[k]? = some r) : r.length = l.1.length := by
  have := tot_le R.len fun k l r e1 e2 => (R.one k l r e1 e2).1
  have h1 := (R.one k l r e1 e2).1
  have h2 := h8 l (List.mem_of_getElem? e1)
  by_cases q : r.length < l.1.length
  · have := (G k l r e1 e2).1 q
    omega
  · omega
/-! ### letters -/
def ltD (l : Lt) : D := .tup [nD l.1, .int l.2]
def ltsD (ls : List Lt) : D := .tup (ls.map ltD)
theorem noL_lts : ∀ ls : List Lt, noLs (ls.map ltD) = true
  | [] => rfl
  | l :: ls => by
    show ((noL (nD l.1) && (true && true)) && noLs (ls.map ltD)) = true
    rw [noL_lts ls, noL_nD]; rfl
structure LsOk (rds : List D) (ls : List Lt) : Prop where
  h : ∀ l ∈ ls, 1 ≤ l.1.length ∧ l.1.length ≤ 8 ∧ (∀ j ∈ l.1, j < rds.length) ∧ wayOk rds l.1 ∧ 1 ≤ l.2 ∧ l.2 ≤ 1000000
section
variable {P : Program} {w : World} {K : PySem.W.Frag} {mg : Str → Option Value} {base : Heap}
def spLetters : Sp := fun vs H Q _ => ∃ (h c : Addr) (v : V) (n : Int) (rds : List D) (m : Nat) (sp : Int), vs = [.ref h, v, .int (m : Nat), .int sp] ∧ HandAt H h c ∧ WebL H h v n rds ∧ m ≤ 60 ∧ 1 ≤ sp ∧ sp ≤ 1000 ∧
  ∀ v' ls H', HandAt H' h c → But h H H' → Rp H' h v' (ltsD ls) → ls.length = m → LsOk rds ls → (∀ l ∈ ls, l.1.length ≤ 5 ∧ l.2 ≤ sp) → Q v' H'
end
end Hc


set_option Elab.async false
set_option linter.all false
set_option maxRecDepth 100000
set_option maxHeartbeats 1000000
set_option autoImplicit false
namespace Hc
open PySem L2
/-- [x for x in l if p(x)], l numbers -/
theorem lc_fl {K : PySem.W.Frag} {H0 : Hp} {b D : Addr} {ns : List Nat} {j : Nat} {te : TE} {tt : TT} {σ : St} {vs : List Nat} {Qd : Hp → Prop} (p : Nat → Bool)
    (eb : H0 b = some (.lst (ns.map fun j => V.int (j : Nat)))) (hz : ns.length ≤ 1000) (hD : H0 D = none)
    (hw : ∀ x, wipe ((wipe σ vs).set j (some x)) vs = wipe σ vs)
    (ht : ∀ r ∈ ns, ∀ H' (Q : Bool → Hp → Prop), Same H0 H' → Q (p r) H' → tt ((wipe σ vs).set j (some (.int (r : Nat)))) H' Q)
    (he : ∀ r ∈ ns, ∀ H' (Q : VK), Q (.int (r : Nat)) H' → te ((wipe σ vs).set j (some (.int (r : Nat)))) H' Q)
    (hd : ∀ H', Same H0 H' → H' D = some (.lst ((ns.filter p).map fun j => V.int (j : Nat))) → Qd H') :
    ∃ W : Nat → Nat → Hp → Prop, (∃ m, W 0 m (upd H0 D (.lst []))) ∧ ∀ i m H, W i m H →
      ((Itl K b).stop i H ∧ Qd H) ∨ ((Itl K b).go i H ∧ ∃ Nx : Hp → Prop, (∀ H', Nx H' → ∃ m', m' < m ∧ W (i + 1) m' H') ∧ ∀ x H', (Itl K b).yld i H x H' → (gName j) x (wipe σ vs) H' fun σ2 H2 => wipe σ2 vs = wipe σ vs ∧ tt σ2 H2 fun b H3 =>
        if b = true then te σ2 H3 fun y H4 => ∃ acc, H4 D = some (.lst acc) ∧ acc.length < sizeLine ∧ Nx (upd H4 D (.lst (acc ++ [y]))) else Nx H3) := by
  refine lc_list (K := K) (xs := ns.map fun j => V.int (j : Nat)) (fun i H' => Same H0 H' ∧ H' D = some (.lst (((ns.take i).filter p).map fun j => V.int (j : Nat))))
    ⟨same_upd hD, upd_same⟩ (fun i H' hi ⟨s, _⟩ => SqL.of (s _ _ eb)) ?_ ?_
  · intro i x H' hx ⟨s, hH⟩
    have hi : i < ns.length := by
      have := (List.getElem?_eq_some_iff.mp hx).1
      rwa [List.length_map] at this
    have ex : x = .int (ns[i] : Nat) := by
      rw [List.getElem?_map, List.getElem?_eq_getElem hi] at hx
      exact (Option.some.inj hx).symm
    subst ex
    have hm : ns[i] ∈ ns := List.getElem_mem hi
    have tk : ns.take (i + 1) = ns.take i ++ [ns[i]] := take_more (List.getElem?_eq_getElem hi)
    have hl2 : ((ns.take i).filter p).length ≤ 1000 := by
      refine Nat.le_trans (List.length_filter_le _ _) ?_
      rw [List.length_take]; omega
    refine ⟨hw _, ht _ hm H' _ s ?_⟩
    cases hp : p ns[i] with
    | true =>
      refine iteT (he _ hm H' _ ⟨_, hH, by rw [List.length_map]; exact line_lt (by omega), fun b o q => ?_, ?_⟩)
      · rw [upd_ne (ne_of_none q hD)]
        exact s _ _ q
      · have e1 : [ns[i]].filter p = [ns[i]] := by rw [List.filter_cons, if_pos hp]; rfl
        rw [upd_same, tk, List.filter_append, List.map_append, e1]; rfl
    | false =>
      have e1 : [ns[i]].filter p = [] := by rw [List.filter_cons, if_neg (by rw [hp]; decide)]; rfl
      refine iteF ⟨s, ?_⟩
      rw [tk, List.filter_append, e1, List.append_nil]
      exact hH
  · intro H' ⟨s, hH⟩
    rw [List.length_map, List.take_length] at hH
    exact hd H' s hH
/-- [x for x in range(n) if p(x)] -/
theorem lc_fr {H0 : Hp} {D : Addr} {n : Nat} {j : Nat} {te : TE} {tt : TT} {σ : St} {vs : List Nat} {Qd : Hp → Prop} (p : Nat → Bool) (hz : n ≤ 1000) (hD : H0 D = none)
    (hw : ∀ x, wipe ((wipe σ vs).set j (some x)) vs = wipe σ vs)
    (ht : ∀ r, r < n → ∀ H' (Q : Bool → Hp → Prop), Same H0 H' → Q (p r) H' → tt ((wipe σ vs).set j (some (.int (0 + (r : Int))))) H' Q)
    (he : ∀ r, r < n → ∀ H' (Q : VK), Q (.int (0 + (r : Int))) H' → te ((wipe σ vs).set j (some (.int (0 + (r : Int))))) H' Q)
    (hd : ∀ H', Same H0 H' → H' D = some (.lst (((List.range n).filter p).map fun j => V.int (j : Nat))) → Qd H') :
    ∃ W : Nat → Nat → Hp → Prop, (∃ m, W 0 m (upd H0 D (.lst []))) ∧ ∀ i m H, W i m H →
      ((Itr 0 n).stop i H ∧ Qd H) ∨ ((Itr 0 n).go i H ∧ ∃ Nx : Hp → Prop, (∀ H', Nx H' → ∃ m', m' < m ∧ W (i + 1) m' H') ∧ ∀ x H', (Itr 0 n).yld i H x H' → (gName j) x (wipe σ vs) H' fun σ2 H2 => wipe σ2 vs = wipe σ vs ∧ tt σ2 H2 fun b H3 =>
        if b = true then te σ2 H3 fun y H4 => ∃ acc, H4 D = some (.lst acc) ∧ acc.length < sizeLine ∧ Nx (upd H4 D (.lst (acc ++ [y]))) else Nx H3) := by
  refine lc_range (lo := 0) (n := n) (fun i H' => Same H0 H' ∧ H' D = some (.lst (((List.range i).filter p).map fun j => V.int (j : Nat))))
    ⟨same_upd hD, upd_same⟩ ?_ ?_
  · intro i H' hi ⟨s, hH⟩
    have hl2 : ((List.range i).filter p).length ≤ 1000 := by
      refine Nat.le_trans (List.length_filter_le _ _) ?_
      rw [List.length_range]; omega
    refine ⟨hw _, ht _ hi H' _ s ?_⟩
    cases hp : p i with
    | true =>
      refine iteT (he _ hi H' _ ⟨_, hH, by rw [List.length_map]; exact line_lt (by omega), fun b o q => ?_, ?_⟩)
      · rw [upd_ne (ne_of_none q hD)]
        exact s _ _ q
      · have e1 : [i].filter p = [i] := by rw [List.filter_cons, if_pos hp]; rfl
        rw [upd_same, List.range_succ, List.filter_append, List.map_append, e1, List.map_cons, List.map_nil, Int.zero_add]
    | false =>
      have e1 : [i].filter p = [] := by rw [List.filter_cons, if_neg (by rw [hp]; decide)]; rfl
      refine iteF ⟨s, ?_⟩
      rw [List.range_succ, List.filter_append, e1, List.append_nil]
      exact hH
  · intro H' ⟨s, hH⟩
    exact hd H' s hH
abbrev rLtS : R2 := rI0 fun i j => .bl (decide (i < j))
abbrev rLenS (K : PySem.W.Frag) : List V → Hp → VK → Prop := fun xs H Q => ∃ p ys, xs = [V.ref p] ∧ (SqL K H p ys ∨ SqT K H p ys) ∧ Q (.int ys.length) H
abbrev rTupOf (K : PySem.W.Frag) : List V → Hp → VK → Prop := fun xs H Q => ∃ p ys, xs = [V.ref p] ∧ ((SqL K H p ys ∧ ∀ l, H l = none → Q (.ref l) (upd H l (.tup ys))) ∨ (SqT K H p ys ∧ Q (.ref p) H))
theorem RpA.ints_inv {H : Hp} {h : Addr} : ∀ {ns : List Int} {xs : List V}, RpA H h xs (ns.map D.int) → xs = ns.map V.int
  | [], _, .nil => rfl
  | n :: ns, _, .cons r q => by
    cases r
    rw [RpA.ints_inv q]; rfl
theorem WebF.inv {H : Hp} {h : Addr} {v : V} {n : Int} {rds : List D} {rm tm : List Int} (x : WebF H h v n rds rm tm) : ∃ p q x3 x4, v = .ref p ∧ H p = some (.tup [.int n, .ref q, .ref x3, .ref x4]) ∧ H x3 = some (.tup (rm.map V.int)) ∧ H x4 = some (.tup (tm.map V.int)) := by
  obtain ⟨p, ys, rfl, e, _, ra⟩ := tup_inv x.r
  cases ra with
  | cons r1 ra =>
  cases ra with
  | cons r2 ra =>
  cases ra with
  | cons r3 ra =>
  cases ra with
  | cons r4 ra =>
  cases ra
  cases r1
  obtain ⟨q, _, rfl, _, _, _⟩ := tup_inv r2
  obtain ⟨a, xs, rfl, e3, _, r3'⟩ := tup_inv r3
  obtain ⟨b, ys, rfl, e4, _, r4'⟩ := tup_inv r4
  rw [r3'.ints_inv] at e3
  rw [r4'.ints_inv] at e4
  exact ⟨p, q, a, b, rfl, e, e3, e4⟩
theorem lt_inv {H : Hp} {h : Addr} {v : V} {l : Lt} (r : Rp H h v (ltD l)) : ∃ q a, v = .ref q ∧ H q = some (.tup [.ref a, .int l.2]) ∧ H a = some (.tup (l.1.map fun j => V.int (j : Nat))) := by
  obtain ⟨q, ys, rfl, e, _, ra⟩ := tup_inv r
  cases ra with
  | cons r1 ra =>
  cases ra with
  | cons r2 ra =>
  cases ra
  cases r2
  obtain ⟨a, rfl, ea, _⟩ := nD_inv r1
  exact ⟨q, a, rfl, e, ea⟩
theorem lts_at {H : Hp} {h : Addr} {v : V} {ls : List Lt} (r : Rp H h v (ltsD ls)) : ∃ q xs, v = .ref q ∧ H q = some (.tup xs) ∧ xs.length = ls.length ∧ ∀ (k : Nat) (l : Lt), ls[k]? = some l → ∃ x, xs[k]? = some x ∧ Rp H h x (ltD l) := by
  obtain ⟨q, xs, rfl, e, _, ra⟩ := tup_inv r
  have hl := ra.len
  rw [List.length_map] at hl
  refine ⟨q, xs, rfl, e, hl, fun k l hk => ?_⟩
  have hk' : k < xs.length := by rw [hl]; exact (List.getElem?_eq_some_iff.mp hk).1
  obtain ⟨d, h1, h2⟩ := ra.get (List.getElem?_eq_getElem hk')
  rw [List.getElem?_map, hk] at h1
  cases h1
  exact ⟨_, List.getElem?_eq_getElem hk', h2⟩
theorem int_at (ns : List Int) {j : Nat} (h : j < ns.length) : (ns.map V.int)[j]? = some (.int (ns.getD j 0)) := by
  rw [List.getElem?_map, List.getElem?_eq_getElem h, List.getD_eq_getElem?_getD, List.getElem?_eq_getElem h]; rfl
theorem nat_at (ns : List Nat) {j : Nat} (h : j < ns.length) : (ns.map fun j => V.int (j : Nat))[j]? = some (.int (ns.getD j 0 : Nat)) := by
  rw [List.getElem?_map, List.getElem?_eq_getElem h, List.getD_eq_getElem?_getD, List.getElem?_eq_getElem h]; rfl
theorem nat_mem (ns : List Nat) {j : Nat} (h : j < ns.length) : ns.getD j 0 ∈ ns := by
  rw [List.getD_eq_getElem?_getD, List.getElem?_eq_getElem h]
  exact List.getElem_mem h
theorem last_at (ns : List Int) (h : ns.length ≠ 0) : atI (ns.map V.int) (-1) = some (.int (ns.getD (ns.length - 1) 0)) := by
  rcases List.eq_nil_or_concat ns with e | ⟨ms, y, e⟩
  · subst e; exact absurd rfl h
  · rw [List.concat_eq_append] at e
    subst e
    rw [List.map_append]
    have e2 : (ms ++ [y]).getD ((ms ++ [y]).length - 1) 0 = y := by
      rw [List.getD_eq_getElem?_getD, List.length_append, List.length_singleton, Nat.add_sub_cancel, List.getElem?_append_right (Nat.le_refl _), Nat.sub_self]; rfl
    rw [e2]
    exact atI_last _ _
section
variable {P : Program} {w : World} {K : PySem.W.Frag} {mg : Str → Option Value} {base : Heap}
def rdy (tm : List Int) (l : Lt) (r : List Int) : V := if r.length = l.1.length then .non else .int (nextAt tm l r)
def spReady : Sp := fun vs H Q _ => ∃ (h : Addr) (v vl : V) (n : Int) (rds : List D) (rm tm : List Int) (l : Lt) (b : Addr) (r : List Int), vs = [v, vl, .ref b] ∧ WebF H h v n rds rm tm ∧ Rp H h vl (ltD l) ∧ H b = some (.lst (r.map V.int)) ∧ r.length ≤ l.1.length ∧ (∀ j ∈ l.1, j < rds.length) ∧
  Q (rdy tm l r) H
/-- the rows so far, lists in the list at RW -/
structure HS (H0 H : Hp) (h c RW : Addr) (bs : List Addr) (rows : List (List Int)) : Prop where
  hand : HandAt H h c
  but : But h H0 H
  rw : H RW = some (.lst (bs.map V.ref))
  row : ∀ (k : Nat) (b : Addr) (r : List Int), bs[k]? = some b → rows[k]? = some r → H b = some (.lst (r.map V.int))
  len : bs.length = rows.length
  nd : bs.Nodup
  f0 : H0 RW = none
  f1 : ∀ b ∈ bs, H0 b = none ∧ b ≠ RW
theorem HS.setA {H0 H : Hp} {h c RW : Addr} {bs : List Addr} {rows : List (List Int)} (x : HS H0 H h c RW bs rows) (hA : HandAt H0 h c) {D : Addr} {o : HO} (h0 : H0 D = none) (h1 : D ≠ RW) (h2 : D ∉ bs) : HS H0 (upd H D o) h c RW bs rows := by
  obtain ⟨d1, d2⟩ := hA.ne h0
  refine ⟨x.hand.upd d1 d2, x.but.upd h0, by rw [upd_ne (Ne.symm h1)]; exact x.rw, fun k b r e1 e2 => ?_, x.len, x.nd, x.f0, x.f1⟩
  have ne : b ≠ D := fun z => by subst z; exact h2 (List.mem_of_getElem? e1)
  rw [upd_ne ne]
  exact x.row k b r e1 e2
theorem HS.draw {H0 H H' : Hp} {h c RW : Addr} {bs : List Addr} {rows : List (List Int)} (x : HS H0 H h c RW bs rows) (hA0 : HandAt H0 h c) (hA : HandAt H' h c) (b : But h H H') : HS H0 H' h c RW bs rows := by
  refine ⟨hA, x.but.trans b, b _ _ x.rw (hA0.ne x.f0).1, fun k q r e1 e2 => ?_, x.len, x.nd, x.f0, x.f1⟩
  exact b _ _ (x.row k q r e1 e2) (hA0.ne (x.f1 q (List.mem_of_getElem? e1)).1).1
theorem HS.put {H0 H : Hp} {h c RW : Addr} {bs : List Addr} {rows : List (List Int)} (x : HS H0 H h c RW bs rows) (hA : HandAt H0 h c) {k : Nat} {b : Addr} {r' : List Int} (e1 : bs[k]? = some b) : HS H0 (upd H b (.lst (r'.map V.int))) h c RW bs (rows.set k r') := by
  obtain ⟨f1, f2⟩ := x.f1 b (List.mem_of_getElem? e1)
  obtain ⟨d1, d2⟩ := hA.ne f1
  refine ⟨x.hand.upd d1 d2, x.but.upd f1, by rw [upd_ne (Ne.symm f2)]; exact x.rw, fun k' q r e3 e4 => ?_, by rw [List.length_set]; exact x.len, x.nd, x.f0, x.f1⟩
  by_cases g : k = k'
  · subst g
    rw [e1] at e3
    cases e3
    have hk : k < rows.length := by rw [← x.len]; exact (List.getElem?_eq_some_iff.mp e1).1
    rw [List.getElem?_set_self hk] at e4
    cases e4
    rw [upd_same]
  · rw [List.getElem?_set_ne g] at e4
    have : q ≠ b := fun z => by
      subst z
      exact g (nd_ix x.nd e1 e3)
    rw [upd_ne this]
    exact x.row k' q r e3 e4
theorem HS.nl {H0 H : Hp} {h c RW : Addr} {bs : List Addr} {rows : List (List Int)} (x : HS H0 H h c RW bs rows) (hA : HandAt H0 h c) : NL H0 H := x.but.nl hA.lst
end
end Hc


set_option Elab.async false
set_option linter.all false
set_option maxRecDepth 100000
set_option maxHeartbeats 2000000
set_option autoImplicit false
namespace Hc
open PySem L2
theorem ixN_nat {n j : Nat} (h : j < n) : ixN n (j : Int) = some j := by
  unfold ixN
  rw [if_pos (by omega), if_pos (by omega)]; rfl
theorem seq_nat {n : Nat} {x : Int} (h0 : 0 ≤ x) (h : x < n) : seqIndex? x n = some x.toNat := by
  have q : ixN n x = some x.toNat := by
    unfold ixN
    rw [if_pos h0, if_pos h]
  exact (ixN_seq q).1
theorem map_erase (od : List Nat) (i : Nat) : (od.map fun j => V.int (j : Nat)).eraseIdx i = (od.eraseIdx i).map fun j => V.int (j : Nat) := by
  rw [List.eraseIdx_eq_take_drop_succ, List.eraseIdx_eq_take_drop_succ, List.map_append, List.map_take, List.map_drop]
/-- the hours of a day -/
structure HrOk (rm tm : List Int) (ls : List Lt) (rows : List (List Int)) : Prop where
  len : rows.length = ls.length
  one : ∀ (k : Nat) (l : Lt) (r : List Int), ls[k]? = some l → rows[k]? = some r → r.length = l.1.length ∧ EarlyOk tm l r
  full : NotFull rm ls rows
  mx : MaxAt rows 399
def rowD (r : List Int) : D := .tup (r.map D.int)
def rowsD (rows : List (List Int)) : D := .tup (rows.map rowD)
theorem noL_rows : ∀ rows : List (List Int), noLs (rows.map rowD) = true
  | [] => rfl
  | r :: rows => by
    show (noLs (r.map D.int) && noLs (rows.map rowD)) = true
    rw [noL_rows rows, noL_int]; rfl
section
variable {P : Program} {w : World} {K : PySem.W.Frag} {mg : Str → Option Value} {base : Heap}
def spHours : Sp := fun vs H Q _ => ∃ (h c : Addr) (v vl : V) (n : Int) (rds : List D) (rm tm : List Int) (ls : List Lt), vs = [.ref h, v, vl] ∧ HandAt H h c ∧ WebF H h v n rds rm tm ∧ Rp H h vl (ltsD ls) ∧ LsOk rds ls ∧ wTot ls ≤ 300 ∧ (∀ l ∈ ls, l.2 ≤ 20) ∧ ls.length ≤ 60 ∧
  ∀ vh rows H', HandAt H' h c → But h H H' → Rp H' h vh (rowsD rows) → HrOk rm tm ls rows → Q vh H'
end
end Hc


set_option Elab.async false
set_option linter.all false
set_option maxRecDepth 100000
set_option maxHeartbeats 1000000
set_option autoImplicit false
namespace Hc
open PySem L2
abbrev rGtS : R2 := rI0 fun i j => .bl (decide (j < i))
theorem units1 {k : Nat} {A : Around} (r : Room (k + 1) A) : A.units + 1 < cLine := by have := r.un; omega
/-- a web's object at p, with its rooms and times -/
structure WebR (C : Addr) (H : Hp) (h p : Addr) (n : Int) (rds : List D) (rm tm : List Int) : Prop where
  ex : ∃ (dx : Addr) (v1 v2 v3 v4 : V), H p = some (.ins C dx (webF v1 v2 v3 v4)) ∧ Rp H h v2 (.tup rds) ∧ Rp H h v3 (.tup (rm.map D.int)) ∧ Rp H h v4 (.tup (tm.map D.int))
  all : rds.all (isBE n) = true
  l1 : 1 ≤ rds.length
  l2 : rds.length ≤ 24
  lr : rm.length = rds.length
  lt : tm.length = rds.length
  br : ∀ x ∈ rm, 1 ≤ x ∧ x ≤ 3
  bt : ∀ x ∈ tm, 1 ≤ x ∧ x ≤ 3
theorem WebR.nl {C : Addr} {H H' : Hp} {h p : Addr} {n : Int} {rds : List D} {rm tm : List Int} (w : WebR C H h p n rds rm tm) (k : NL H H') : WebR C H' h p n rds rm tm := by
  obtain ⟨⟨dx, v1, v2, v3, v4, e, r2, r3, r4⟩, a1, a2, a3, a4, a5, a6, a7⟩ := w
  exact ⟨⟨dx, v1, v2, v3, v4, k _ _ e (fun _ z => by cases z), r2.nl k (noL_be a1), r3.nl k (noL_int _), r4.nl k (noL_int _)⟩, a1, a2, a3, a4, a5, a6, a7⟩
theorem WebR.same {C : Addr} {H H' : Hp} {h p : Addr} {n : Int} {rds : List D} {rm tm : List Int} (w : WebR C H h p n rds rm tm) (s : Same H H') : WebR C H' h p n rds rm tm := w.nl (NL.of s)
theorem WebR.o {C : Addr} {H : Hp} {h p : Addr} {n : Int} {rds : List D} {rm tm : List Int} (w : WebR C H h p n rds rm tm) : WebO C H h p n rds := by
  obtain ⟨⟨dx, v1, v2, v3, v4, e, r2, r3, r4⟩, a1, a2, a3, _⟩ := w
  exact ⟨⟨dx, v1, v2, v3, v4, e, r2⟩, a1, a2, a3⟩
theorem wF_m (v1 v2 v3 v4 : V) : (webF v1 v2 v3 v4).lookup ("rooms" : Str) = some v3 := by
  have h2 : ¬ (("rooms" : Str) = "times") := by decide +kernel
  unfold webF
  rw [lookup_putF, if_neg h2, lookup_putF, if_pos rfl]
theorem wF_t (v1 v2 v3 v4 : V) : (webF v1 v2 v3 v4).lookup ("times" : Str) = some v4 := by
  unfold webF
  rw [lookup_putF, if_pos rfl]
def isLetter (rds : List D) : D → Bool
  | .tup [w, c] => isWay rds w && isBtw 1 1000000 c
  | _ => false
def areLetters (rds : List D) : D → Bool
  | .tup ds => decide (ds.length ≤ 60) && ds.all (isLetter rds)
  | _ => false
def areHours (ls : List Lt) : D → Bool
  | .tup ds => decide (ds.length = ls.length) && (ls.zip ds).all fun p => areInts (p.1.1.length : Nat) p.2
  | _ => false
theorem areLetters_tup (rds ds : List D) : areLetters rds (.tup ds) = (decide (ds.length ≤ 60) && ds.all (isLetter rds)) := rfl
theorem areHours_tup (ls : List Lt) (ds : List D) : areHours ls (.tup ds) = (decide (ds.length = ls.length) && (ls.zip ds).all fun p => areInts (p.1.1.length : Nat) p.2) := rfl
theorem two_of {d : D} (e : isTupN 2 d = true) : ∃ a b, d = .tup [a, b] := by
  cases d with
  | tup ds =>
    have h := of_decide_eq_true (show decide ((ds.length : Int) = 2) = true from e)
    match ds, h with
    | [a, b], _ => exact ⟨a, b, rfl⟩
    | [], h => simp at h
    | [_], h => simp at h
    | _ :: _ :: _ :: _, h => simp at h; omega
  | _ => exact Bool.noConfusion e
theorem not_two {rds : List D} {d : D} (e : isTupN 2 d = false) : isLetter rds d = false := by
  cases d with
  | tup ds =>
    have h := of_decide_eq_false (show decide ((ds.length : Int) = 2) = false from e)
    match ds, h with
    | [a, b], h => exact absurd rfl h
    | [], _ => rfl
    | [_], _ => rfl
    | _ :: _ :: _ :: _, _ => rfl
  | _ => rfl
section
variable {P : Program} {w : World} {K : PySem.W.Frag} {mg : Str → Option Value} {base : Heap}
def spAreHours : Sp := fun vs H Q _ => ∃ (h : Addr) (vl v : V) (ls : List Lt) (d : D), vs = [vl, v] ∧ Rp H h vl (ltsD ls) ∧ Rp H h v d ∧ ls.length ≤ 1000 ∧ ∀ H', Same H H' → Q (.bl (areHours ls d)) H'
end
end Hc


set_option Elab.async false
set_option linter.all false
set_option maxRecDepth 100000
set_option maxHeartbeats 1000000
set_option autoImplicit false
namespace Hc
open PySem L2
theorem cut_last {xs : List V} : cutV xs none (some (-1)) = xs.take (xs.length - 1) := by
  have s1 : HT.sIx xs.length 0 none = 0 := rfl
  have s2 : HT.sIx xs.length xs.length (some (-1)) = xs.length - 1 := by
    show (if (-1 : Int) < 0 then ((-1 : Int) + (xs.length : Int)).toNat else min (-1 : Int).toNat xs.length) = _
    rw [if_pos (by decide)]; omega
  unfold cutV
  rw [s1, s2, List.drop_zero, Nat.sub_zero]
theorem slLast {K : PySem.W.Frag} {H : Hp} {a : Addr} {xs : List V} {Q : VK} (e : H a = some (.tup xs)) (k : ∀ b H', Same H H' → H' b = some (.tup (xs.take (xs.length - 1))) → Q (.ref b) H') : rSlA K (.ref a) none (some (-1)) H Q := by
  have s1 : HT.sIx xs.length 0 none = 0 := rfl
  have s2 : HT.sIx xs.length xs.length (some (-1)) = xs.length - 1 := by
    show (if (-1 : Int) < 0 then ((-1 : Int) + (xs.length : Int)).toNat else min (-1 : Int).toNat xs.length) = _
    rw [if_pos (by decide)]; omega
  refine ⟨a, xs, rfl, SqT.of e, fun hw => ?_, fun _ p hp => ?_⟩
  · have h0 : xs.length = 0 := by
      rw [s2] at hw; omega
    have : xs = [] := List.eq_nil_of_length_eq_zero h0
    subst this
    exact k a H (Same.refl H) e
  · exact k p _ (same_upd hp) (by rw [upd_same, cut_last])
/-- [f(a, b) for a, b in zip(t, l)], a tuple and a list -/
theorem lc_zipM {K : PySem.W.Frag} {a b : Addr} {xs ys : List V} {g : TG} {tt : TT} {te : TE} {vs : List Nat} {σ : St} {H1 : Hp} {D : Addr} {Qd : Hp → Prop} (Pv : Nat → Hp → Prop) (h0 : Pv 0 (upd H1 D (.lst [])))
    (hl : ∀ i H, Pv i H → SqT K H a xs ∧ SqL K H b ys)
    (hs : ∀ (i : Nat) (x y : V) (T : Addr) (H : Hp), xs[i]? = some x → ys[i]? = some y → Pv i H → H T = none → g (.ref T) (wipe σ vs) (upd H T (.tup [x, y])) fun σ2 H2 => wipe σ2 vs = wipe σ vs ∧ tt σ2 H2 fun b H3 =>
      if b = true then te σ2 H3 fun y H4 => ∃ acc, H4 D = some (.lst acc) ∧ acc.length < sizeLine ∧ Pv (i + 1) (upd H4 D (.lst (acc ++ [y]))) else Pv (i + 1) H3) (hd : ∀ H, Pv (min xs.length ys.length) H → Qd H) :
    ∃ W : Nat → Nat → Hp → Prop, (∃ m, W 0 m (upd H1 D (.lst []))) ∧ ∀ i m H, W i m H →
      ((ItzM K a b).stop i H ∧ Qd H) ∨ ((ItzM K a b).go i H ∧ ∃ Nx : Hp → Prop, (∀ H', Nx H' → ∃ m', m' < m ∧ W (i + 1) m' H') ∧ ∀ x H', (ItzM K a b).yld i H x H' → g x (wipe σ vs) H' fun σ2 H2 => wipe σ2 vs = wipe σ vs ∧ tt σ2 H2 fun b H3 =>
        if b = true then te σ2 H3 fun y H4 => ∃ acc, H4 D = some (.lst acc) ∧ acc.length < sizeLine ∧ Nx (upd H4 D (.lst (acc ++ [y]))) else Nx H3) := by
  refine ⟨fun i m H => m = min xs.length ys.length - i ∧ i ≤ min xs.length ys.length ∧ Pv i H, ⟨_, rfl, Nat.zero_le _, h0⟩, ?_⟩
  rintro i m H ⟨rfl, hi, p⟩
  obtain ⟨qx, qy⟩ := hl i H p
  by_cases hlt : i < min xs.length ys.length
  · have h1 : i < xs.length := by omega
    have h2 : i < ys.length := by omega
    refine .inr ⟨⟨xs, ys, _, _, qx, qy, List.getElem?_eq_getElem h1, List.getElem?_eq_getElem h2⟩, Pv (i + 1), fun H' p' => ⟨min xs.length ys.length - (i + 1), by omega, rfl, hlt, p'⟩, fun v H' y => ?_⟩
    obtain ⟨T, x', y', rfl, hT, rfl, f1, f2⟩ := y
    exact hs i x' y' T H (f1 xs qx) (f2 ys qy) p hT
  · have e : i = min xs.length ys.length := by omega
    subst e
    exact .inl ⟨⟨xs, ys, qx, qy, by omega, by omega, by omega⟩, hd H p⟩
/-- the first ticks of a letter -/
def firstL (tm : List Int) (l : Lt) (r : List Int) : List Int := l.2 :: (l.1.zip (r.take (r.length - 1))).map fun p => p.2 + tm.getD p.1 0
def earlyB (tm : List Int) (ls : List Lt) (rows : List (List Int)) : Bool := (ls.zip rows).any fun p => (p.2.zip (firstL tm p.1 p.2)).any fun q => decide (q.1 < q.2)
theorem mask {H H' : Hp} {D : Addr} (hD : H D = none) (s : Same H (fun b => if b = D then none else H' b)) : Same H H' := fun b o q => by
  have r := s b o q
  simp only [if_neg (ne_of_none q hD)] at r
  exact r
theorem mask_upd {H H4 : Hp} {D : Addr} {o : HO} (hD : H D = none) (s : Same H H4) : Same H (fun b => if b = D then none else upd H4 D o b) := fun b u z => by
  have nb := ne_of_none z hD
  show (if b = D then none else upd H4 D o b) = _
  rw [if_neg nb, upd_ne nb]
  exact s _ _ z
section
variable {P : Program} {w : World} {K : PySem.W.Frag} {mg : Str → Option Value} {base : Heap}
def spFirst (C : Addr) : Sp := fun vs H Q _ => ∃ (h p b : Addr) (vl : V) (n : Int) (rds : List D) (rm tm : List Int) (l : Lt) (r : List Int), vs = [.ref p, vl, .ref b] ∧ WebR C H h p n rds rm tm ∧ Rp H h vl (ltD l) ∧ H b = some (.tup (r.map V.int)) ∧ (∀ j ∈ l.1, j < rds.length) ∧ l.1.length ≤ 1000 ∧
  ∀ F H', Same H H' → H F = none → H' F = some (.lst ((firstL tm l r).map V.int)) → Q (.ref F) H'
def spEarly (C : Addr) : Sp := fun vs H Q _ => ∃ (h p b : Addr) (vl : V) (n : Int) (rds : List D) (rm tm : List Int) (ls : List Lt) (rows : List (List Int)), vs = [.ref p, vl, .ref b] ∧ WebR C H h p n rds rm tm ∧ Rp H h vl (ltsD ls) ∧ Rp H h (.ref b) (rowsD rows) ∧ LsOk rds ls ∧ rows.length = ls.length ∧
  (∀ r ∈ rows, r.length ≤ 1000) ∧ ∀ H', Same H H' → Q (.bl (earlyB tm ls rows)) H'
theorem rows_at {H : Hp} {h : Addr} {v : V} {rows : List (List Int)} (r : Rp H h v (rowsD rows)) : ∃ q xs, v = .ref q ∧ H q = some (.tup xs) ∧ xs.length = rows.length ∧ ∀ (k : Nat) (r : List Int), rows[k]? = some r → ∃ b, xs[k]? = some (.ref b) ∧ H b = some (.tup (r.map V.int)) := by
  obtain ⟨q, xs, rfl, e, _, ra⟩ := tup_inv r
  have hl := ra.len
  rw [List.length_map] at hl
  refine ⟨q, xs, rfl, e, hl, fun k r hk => ?_⟩
  have hk' : k < xs.length := by rw [hl]; exact (List.getElem?_eq_some_iff.mp hk).1
  obtain ⟨d, h1, h2⟩ := ra.get (List.getElem?_eq_getElem hk')
  rw [List.getElem?_map, hk] at h1
  cases h1
  obtain ⟨b, ys, eb, e2, _, rb⟩ := tup_inv h2
  rw [rb.ints_inv] at e2
  exact ⟨b, by rw [List.getElem?_eq_getElem hk', eb], e2⟩
theorem any_take {α : Type} {l : List α} {i : Nat} {x : α} (f : α → Bool) (h : l[i]? = some x) : (l.take (i + 1)).any f = ((l.take i).any f || f x) := by
  rw [take_more h, List.any_append, List.any_cons, List.any_nil, Bool.or_false]
end
end Hc


set_option Elab.async false
set_option linter.all false
set_option maxRecDepth 100000
set_option maxHeartbeats 1000000
set_option autoImplicit false
namespace Hc
open PySem L2
theorem flat_len {α β : Type} {f : α → List β} {c : Nat} : ∀ (l : List α), (∀ x ∈ l, (f x).length ≤ c) → (l.flatMap f).length ≤ c * l.length
  | [], _ => Nat.zero_le _
  | x :: l, h => by
    rw [List.flatMap_cons, List.length_append, List.length_cons, Nat.mul_succ]
    have h1 := h x List.mem_cons_self
    have h2 := flat_len l fun y hy => h y (List.mem_cons_of_mem _ hy)
    omega
theorem es_flat : ∀ (ls : List Lt) (rows : List (List Int)), es ls rows = (ls.zip rows).flatMap fun p => p.1.1.zip p.2
  | [], _ => rfl
  | _ :: _, [] => rfl
  | l :: ls, r :: rows => by
    rw [es_cons, es_flat ls rows, List.zip_cons_cons, List.flatMap_cons]
/-- a place as a key -/
def keyOf (e : Nat × Int) : List L2.Key := [.inl (e.1 : Int), .inl e.2]
theorem keyOf_inj {a b : Nat × Int} (h : keyOf a = keyOf b) : a = b := by
  obtain ⟨a1, a2⟩ := a
  obtain ⟨b1, b2⟩ := b
  unfold keyOf at h
  obtain ⟨h1, h2⟩ := List.cons.inj h
  obtain ⟨h2, _⟩ := List.cons.inj h2
  have h1 : (a1 : Int) = (b1 : Int) := Sum.inl.inj h1
  have h2 : a2 = b2 := Sum.inl.inj h2
  have : a1 = b1 := by omega
  rw [this, h2]
/-- the dict counts what has come -/
structure Cnt (kvs : List (List L2.Key × V)) (pf : List (Nat × Int)) : Prop where
  get : ∀ e, valV kvs (keyOf e) = if pf.count e = 0 then none else some (.int (pf.count e : Nat))
  all : ∀ p ∈ kvs, ∃ e, p.1 = keyOf e ∧ p.2 = .int (pf.count e : Nat) ∧ e ∈ pf
  len : kvs.length ≤ pf.length
theorem Cnt.nil : Cnt [] [] := ⟨fun e => by rw [List.count_nil, if_pos rfl]; rfl, (fun p hp => (nomatch hp)), Nat.le_refl _⟩
theorem Cnt.getD {kvs : List (List L2.Key × V)} {pf : List (Nat × Int)} (c : Cnt kvs pf) (e : Nat × Int) : (valV kvs (keyOf e)).getD (.int 0) = .int (pf.count e : Nat) := by
  rw [c.get]
  by_cases h : pf.count e = 0
  · rw [if_pos h, h]; rfl
  · rw [if_neg h]; rfl
theorem count_one (pf : List (Nat × Int)) (e x : Nat × Int) : (pf ++ [e]).count x = pf.count x + if e = x then 1 else 0 := by
  rw [List.count_append, List.count_singleton]
  by_cases q : e = x
  · rw [if_pos q, if_pos (by simpa using q)]
  · rw [if_neg q, if_neg (by simpa using q)]
theorem Cnt.put {kvs : List (List L2.Key × V)} {pf : List (Nat × Int)} (c : Cnt kvs pf) (e : Nat × Int) : Cnt (putK kvs (keyOf e) (.int ((pf.count e : Nat) + 1 : Int))) (pf ++ [e]) := by
  refine ⟨fun x => ?_, fun p hp => ?_, ?_⟩
  · rw [valV_put, count_one]
    by_cases q : e = x
    · subst q
      rw [if_pos rfl, if_pos rfl, if_neg (by omega)]
      congr 2
    · rw [if_neg (fun z => q (keyOf_inj z).symm), if_neg q, Nat.add_zero]
      exact c.get x
  · unfold putK at hp
    by_cases g : (kvs.any fun kv => decide (kv.1 = keyOf e)) = true
    · rw [if_pos g] at hp
      obtain ⟨p0, h0, h1⟩ := List.mem_map.mp hp
      by_cases z : p0.1 = keyOf e
      · rw [if_pos z] at h1
        subst h1
        refine ⟨e, z, ?_, List.mem_append_right _ (List.mem_singleton_self _)⟩
        rw [count_one, if_pos rfl]; rfl
      · rw [if_neg z] at h1
        subst h1
        obtain ⟨x, hx1, hx2, hx3⟩ := c.all p0 h0
        refine ⟨x, hx1, ?_, List.mem_append_left _ hx3⟩
        rw [count_one, if_neg (fun q => z (by rw [hx1, q])), Nat.add_zero]
        exact hx2
    · rw [if_neg g] at hp
      rcases List.mem_append.mp hp with hp | hp
      · obtain ⟨x, hx1, hx2, hx3⟩ := c.all p hp
        refine ⟨x, hx1, ?_, List.mem_append_left _ hx3⟩
        have : ¬ e = x := fun q => g (by
          rw [List.any_eq_true]
          exact ⟨p, hp, decide_eq_true (by rw [hx1, q])⟩)
        rw [count_one, if_neg this, Nat.add_zero]
        exact hx2
      · rw [List.mem_singleton] at hp
        subst hp
        refine ⟨e, rfl, ?_, List.mem_append_right _ (List.mem_singleton_self _)⟩
        rw [count_one, if_pos rfl]; rfl
  · rw [List.length_append, List.length_singleton]
    have := c.len
    unfold putK
    split
    · rw [List.length_map]; omega
    · rw [List.length_append, List.length_singleton]; omega
/-- whether a road is too full -/
def fullB (rm : List Int) (ls : List Lt) (rows : List (List Int)) : Bool := (es ls rows).any fun e => decide (rm.getD e.1 0 < ((es ls rows).count e : Int))
def ovr (rm : List Int) (p : List L2.Key × V) : Bool := match p with
  | (.inl i :: _, .int c) => decide (rm.getD i.toNat 0 < c)
  | _ => false
theorem ovr_key (rm : List Int) (e : Nat × Int) (c : Int) : ovr rm (keyOf e, .int c) = decide (rm.getD e.1 0 < c) := by
  show decide (rm.getD ((e.1 : Int)).toNat 0 < c) = _
  rw [Int.toNat_natCast]
theorem valV_mem {kvs : List (List L2.Key × V)} {k : List L2.Key} {v : V} (h : valV kvs k = some v) : (k, v) ∈ kvs := by
  unfold valV at h
  obtain ⟨p, h1, h2⟩ := Option.map_eq_some_iff.mp h
  have h3 := List.find?_some h1
  have h4 := List.mem_of_find?_eq_some h1
  have h3 : p.1 = k := of_decide_eq_true h3
  obtain ⟨a, b⟩ := p
  cases h3
  cases h2
  exact h4
theorem full_eq {rm : List Int} (hr : ∀ x ∈ rm, 0 ≤ x) {ls : List Lt} {rows : List (List Int)} {kvs : List (List L2.Key × V)} (c : Cnt kvs (es ls rows)) : kvs.any (ovr rm) = fullB rm ls rows := by
  have h0 : ∀ i, 0 ≤ rm.getD i 0 := fun i => by
    rw [List.getD_eq_getElem?_getD]
    cases e : rm[i]? with
    | none => exact Int.le_refl 0
    | some x => exact hr x (List.mem_of_getElem? e)
  rw [Bool.eq_iff_iff, List.any_eq_true]
  unfold fullB
  rw [List.any_eq_true]
  constructor
  · rintro ⟨p, hp, h⟩
    obtain ⟨e, e1, e2, _⟩ := c.all p hp
    obtain ⟨a, b⟩ := p
    cases e1
    cases e2
    have h : decide (rm.getD e.1 0 < ((es ls rows).count e : Int)) = true := (ovr_key rm e _).symm.trans h
    have h1 := of_decide_eq_true h
    have := h0 e.1
    refine ⟨e, ?_, h⟩
    exact List.count_pos_iff.mp (by omega)
  · rintro ⟨e, he, h⟩
    have hc : ¬ (es ls rows).count e = 0 := by
      have := List.count_pos_iff.mpr he
      omega
    have := c.get e
    rw [if_neg hc] at this
    refine ⟨_, valV_mem this, ?_⟩
    rw [ovr_key]
    exact h
theorem es_way {x : Nat × Int} : ∀ {ls : List Lt} {rows : List (List Int)}, x ∈ es ls rows → ∃ l ∈ ls, x.1 ∈ l.1
  | [], _, h => by cases h
  | _ :: _, [], h => by cases h
  | l :: ls, r :: rows, h => by
    rw [es_cons] at h
    rcases List.mem_append.mp h with h | h
    · exact ⟨l, List.mem_cons_self, (List.of_mem_zip (a := x.1) (b := x.2) h).1⟩
    · obtain ⟨l', h1, h2⟩ := es_way h
      exact ⟨l', List.mem_cons_of_mem _ h1, h2⟩
/-- [f(k, v) for k, v in d.items()], tuple keys -/
theorem lc_itemsT {d : Addr} {od : Obj} {kvs : List (List L2.Key × V)} {g : TG} {tt : TT} {te : TE} {vs : List Nat} {σ : St} {H1 : Hp} {D : Addr} {Qd : Hp → Prop} (Pv : Nat → Hp → Prop) (h0 : Pv 0 (upd H1 D (.lst [])))
    (hl : ∀ i H, Pv i H → H d = some (.frz od (.dT kvs)))
    (hs : ∀ (i : Nat) (k : List L2.Key) (v : V) (T q : Addr) (H : Hp), kvs[i]? = some (k, v) → H q = some (.tup (k.map kV)) → Pv i H → H T = none → g (.ref T) (wipe σ vs) (upd H T (.tup [.ref q, v])) fun σ2 H2 => wipe σ2 vs = wipe σ vs ∧ tt σ2 H2 fun b H3 =>
      if b = true then te σ2 H3 fun y H4 => ∃ acc, H4 D = some (.lst acc) ∧ acc.length < sizeLine ∧ Pv (i + 1) (upd H4 D (.lst (acc ++ [y]))) else Pv (i + 1) H3) (hd : ∀ H, Pv kvs.length H → Qd H) :
    ∃ W : Nat → Nat → Hp → Prop, (∃ m, W 0 m (upd H1 D (.lst []))) ∧ ∀ i m H, W i m H →
      ((Itit d od kvs).stop i H ∧ Qd H) ∨ ((Itit d od kvs).go i H ∧ ∃ Nx : Hp → Prop, (∀ H', Nx H' → ∃ m', m' < m ∧ W (i + 1) m' H') ∧ ∀ x H', (Itit d od kvs).yld i H x H' → g x (wipe σ vs) H' fun σ2 H2 => wipe σ2 vs = wipe σ vs ∧ tt σ2 H2 fun b H3 =>
        if b = true then te σ2 H3 fun y H4 => ∃ acc, H4 D = some (.lst acc) ∧ acc.length < sizeLine ∧ Nx (upd H4 D (.lst (acc ++ [y]))) else Nx H3) := by
  refine ⟨fun i m H => m = kvs.length - i ∧ i ≤ kvs.length ∧ Pv i H, ⟨_, rfl, Nat.zero_le _, h0⟩, ?_⟩
  rintro i m H ⟨rfl, hi, p⟩
  have q := hl i H p
  by_cases hlt : i < kvs.length
  · refine .inr ⟨⟨q, hlt⟩, Pv (i + 1), fun H' p' => ⟨kvs.length - (i + 1), by omega, rfl, hlt, p'⟩, fun v H' y => ?_⟩
    obtain ⟨T, k, v', qq, e1, rfl, hT, e2, rfl⟩ := y
    exact hs i k v' T qq H e1 e2 p hT
  · have e : i = kvs.length := by omega
    subst e
    exact .inl ⟨⟨q, Nat.le_refl _⟩, hd H p⟩
section
variable {P : Program} {w : World} {K : PySem.W.Frag} {mg : Str → Option Value} {base : Heap}
def spFull (C : Addr) : Sp := fun vs H Q _ => ∃ (h p b : Addr) (vl : V) (n : Int) (rds : List D) (rm tm : List Int) (ls : List Lt) (rows : List (List Int)), vs = [.ref p, vl, .ref b] ∧ WebR C H h p n rds rm tm ∧ Rp H h vl (ltsD ls) ∧ Rp H h (.ref b) (rowsD rows) ∧ LsOk rds ls ∧ ls.length ≤ 60 ∧ rows.length = ls.length ∧
  (∀ (k : Nat) (l : Lt) (r : List Int), ls[k]? = some l → rows[k]? = some r → r.length = l.1.length) ∧ ∀ H', Same H H' → Q (.bl (fullB rm ls rows)) H'
end
end Hc


set_option Elab.async false
set_option linter.all false
set_option maxRecDepth 100000
set_option maxHeartbeats 1000000
set_option autoImplicit false
namespace Hc
open PySem L2
theorem way_inv {rds : List D} {d : D} (e : isWay rds d = true) : ∃ ns, d = nD ns ∧ 1 ≤ ns.length ∧ ns.length ≤ 8 ∧ (∀ j ∈ ns, j < rds.length) ∧ wayOk rds ns := by
  cases d with
  | tup ds =>
    rw [isWay_tup] at e
    rw [Bool.and_eq_true, Bool.and_eq_true, Bool.and_eq_true] at e
    obtain ⟨⟨⟨h1, h2⟩, h3⟩, h4⟩ := e
    have h1 := of_decide_eq_true h1
    have h2 := of_decide_eq_true h2
    have key : ∀ ds : List D, ds.all (isRoad rds) = true → ∃ ns : List Nat, ds = ns.map (fun j => D.int (j : Nat)) ∧ ∀ j ∈ ns, j < rds.length := by
      intro ds
      induction ds with
      | nil => exact fun _ => ⟨[], rfl, fun _ z => nomatch z⟩
      | cons d ds ih =>
        intro h
        rw [List.all_cons, Bool.and_eq_true] at h
        obtain ⟨j, rfl, hj⟩ := road_in h.1
        obtain ⟨ns, rfl, hn⟩ := ih h.2
        refine ⟨j :: ns, rfl, fun x hx => ?_⟩
        rcases List.mem_cons.mp hx with rfl | hx
        · exact hj
        · exact hn x hx
    obtain ⟨ns, rfl, hn⟩ := key ds h3
    rw [List.length_map] at h1 h2
    refine ⟨ns, rfl, h1, h2, hn, fun i hi => ?_⟩
    rw [nums_map] at h4
    unfold adj at h4
    rw [List.all_eq_true, List.length_map] at h4
    have := of_decide_eq_true (h4 i (List.mem_range.mpr (by omega)))
    have a1 : i < ns.length := by omega
    rw [getD_map ns a1, getD_map ns hi] at this
    rw [List.getD_eq_getElem?_getD, List.getElem?_eq_getElem a1, List.getD_eq_getElem?_getD, List.getElem?_eq_getElem hi]
    exact this
  | _ => exact Bool.noConfusion e
theorem letters_inv {rds : List D} {d : D} (e : areLetters rds d = true) : ∃ ls, d = ltsD ls ∧ LsOk rds ls ∧ ls.length ≤ 60 := by
  cases d with
  | tup ds =>
    rw [areLetters_tup, Bool.and_eq_true] at e
    obtain ⟨h1, h2⟩ := e
    have h1 := of_decide_eq_true h1
    have key : ∀ ds : List D, ds.all (isLetter rds) = true → ∃ ls : List Lt, ds = ls.map ltD ∧ LsOk rds ls := by
      intro ds
      induction ds with
      | nil => exact fun _ => ⟨[], rfl, ⟨fun _ z => nomatch z⟩⟩
      | cons d ds ih =>
        intro h
        rw [List.all_cons, Bool.and_eq_true] at h
        obtain ⟨ls, rfl, o⟩ := ih h.2
        have h0 := h.1
        have t2 : isTupN 2 d = true := by
          cases q : isTupN 2 d with
          | true => rfl
          | false => rw [not_two q] at h0; cases h0
        obtain ⟨a, b, rfl⟩ := two_of t2
        have h0 : (isWay rds a && isBtw 1 1000000 b) = true := h0
        rw [Bool.and_eq_true] at h0
        obtain ⟨ns, rfl, n1, n2, n3, n4⟩ := way_inv h0.1
        obtain ⟨c, rfl⟩ := btw_shape h0.2
        have hc : (decide (1 ≤ c) && decide (c ≤ 1000000)) = true := h0.2
        rw [Bool.and_eq_true] at hc
        refine ⟨(ns, c) :: ls, rfl, ⟨fun l hl => ?_⟩⟩
        rcases List.mem_cons.mp hl with rfl | hl
        · exact ⟨n1, n2, n3, n4, of_decide_eq_true hc.1, of_decide_eq_true hc.2⟩
        · exact o.h l hl
    obtain ⟨ls, rfl, o⟩ := key ds h2
    exact ⟨ls, rfl, o, by rw [List.length_map] at h1; exact h1⟩
  | _ => exact Bool.noConfusion e
theorem letters_ok {rds : List D} {ls : List Lt} (o : LsOk rds ls) (h : ls.length ≤ 60) : areLetters rds (ltsD ls) = true := by
  show areLetters rds (.tup (ls.map ltD)) = true
  rw [areLetters_tup, List.length_map, decide_eq_true h, Bool.true_and, List.all_eq_true]
  intro d hd
  obtain ⟨l, hl, rfl⟩ := List.mem_map.mp hd
  obtain ⟨a1, a2, a3, a4, a5, a6⟩ := o.h l hl
  show (isWay rds (nD l.1) && isBtw 1 1000000 (.int l.2)) = true
  rw [way_ok a1 a2 a3 a4, btw_of a5 a6]; rfl
theorem ints_inv2 {n : Nat} {d : D} (e : areInts (n : Nat) d = true) : ∃ r : List Int, d = rowD r ∧ r.length = n := by
  cases d with
  | tup ds =>
    rw [areInts_tup, Bool.and_eq_true] at e
    have h1 := of_decide_eq_true e.1
    have key : ∀ ds : List D, ds.all isInt = true → ∃ ns : List Int, ds = ns.map D.int := by
      intro ds
      induction ds with
      | nil => exact fun _ => ⟨[], rfl⟩
      | cons d ds ih =>
        intro h
        rw [List.all_cons, Bool.and_eq_true] at h
        obtain ⟨ns, rfl⟩ := ih h.2
        cases d with
        | int i => exact ⟨i :: ns, rfl⟩
        | _ => exact Bool.noConfusion h.1
    obtain ⟨r, rfl⟩ := key ds e.2
    refine ⟨r, rfl, ?_⟩
    rw [List.length_map] at h1
    omega
  | _ => exact Bool.noConfusion e
/-- rows of the right lengths -/
def LenOk (ls : List Lt) (rows : List (List Int)) : Prop := rows.length = ls.length ∧ ∀ (k : Nat) (l : Lt) (r : List Int), ls[k]? = some l → rows[k]? = some r → r.length = l.1.length
theorem hours_inv {ls : List Lt} {d : D} (e : areHours ls d = true) : ∃ rows, d = rowsD rows ∧ LenOk ls rows := by
  cases d with
  | tup ds =>
    rw [areHours_tup, Bool.and_eq_true] at e
    have h1 := of_decide_eq_true e.1
    have key : ∀ (ls : List Lt) (ds : List D), ds.length = ls.length → ((ls.zip ds).all fun p => areInts (p.1.1.length : Nat) p.2) = true → ∃ rows : List (List Int), ds = rows.map rowD ∧ LenOk ls rows := by
      intro ls
      induction ls with
      | nil =>
        intro ds h _
        have : ds = [] := List.eq_nil_of_length_eq_zero h
        subst this
        exact ⟨[], rfl, rfl, fun k l r e => by simp at e⟩
      | cons l ls ih =>
        intro ds h g
        cases ds with
        | nil => simp at h
        | cons d ds =>
          rw [List.zip_cons_cons, List.all_cons, Bool.and_eq_true] at g
          obtain ⟨rows, rfl, q1, q2⟩ := ih ds (by simpa using h) g.2
          obtain ⟨r, rfl, hr⟩ := ints_inv2 g.1
          refine ⟨r :: rows, rfl, by simpa using q1, fun k l' r' e1 e2 => ?_⟩
          cases k with
          | zero =>
            have e1 : l = l' := by simpa using e1
            have e2 : r = r' := by simpa using e2
            subst e1 e2
            exact hr
          | succ k => exact q2 k l' r' (by simpa using e1) (by simpa using e2)
    obtain ⟨rows, rfl, o⟩ := key ls ds h1 e.2
    exact ⟨rows, rfl, o⟩
  | _ => exact Bool.noConfusion e
theorem hours_ok {ls : List Lt} {rows : List (List Int)} (o : LenOk ls rows) : areHours ls (rowsD rows) = true := by
  show areHours ls (.tup (rows.map rowD)) = true
  rw [areHours_tup, List.length_map, decide_eq_true o.1, Bool.true_and, List.all_eq_true]
  rintro ⟨l, d⟩ hp
  obtain ⟨k, hk, e⟩ := List.mem_iff_getElem.mp hp
  have e2 : (ls.zip (rows.map rowD))[k]? = some (l, d) := by rw [List.getElem?_eq_getElem hk, e]
  rw [List.getElem?_zip_eq_some, List.getElem?_map] at e2
  obtain ⟨e3, e4⟩ := e2
  cases er : rows[k]? with
  | none => rw [er] at e4; cases e4
  | some r =>
    rw [er] at e4
    cases e4
    have := o.2 k l r e3 er
    show areInts (l.1.length : Nat) (.tup (r.map D.int)) = true
    rw [areInts_tup, List.length_map, this, decide_eq_true rfl, Bool.true_and, List.all_eq_true]
    intro x hx
    obtain ⟨i, _, rfl⟩ := List.mem_map.mp hx
    rfl
/-- no hour is early -/
theorem early_ok {tm : List Int} {ls : List Lt} {rows : List (List Int)} (o : LenOk ls rows) (h : ∀ (k : Nat) (l : Lt) (r : List Int), ls[k]? = some l → rows[k]? = some r → EarlyOk tm l r) : earlyB tm ls rows = false := by
  unfold earlyB
  rw [List.any_eq_false]
  rintro ⟨l, r⟩ hp
  obtain ⟨k, hk, e⟩ := List.mem_iff_getElem.mp hp
  have e2 : (ls.zip rows)[k]? = some (l, r) := by rw [List.getElem?_eq_getElem hk, e]
  rw [List.getElem?_zip_eq_some] at e2
  obtain ⟨e3, e4⟩ := e2
  have he := h k l r e3 e4
  have hl := o.2 k l r e3 e4
  rw [Bool.not_eq_true, List.any_eq_false]
  rintro ⟨x, f⟩ hq
  obtain ⟨j, hj, ej⟩ := List.mem_iff_getElem.mp hq
  have e5 : (r.zip (firstL tm l r))[j]? = some (x, f) := by rw [List.getElem?_eq_getElem hj, ej]
  rw [List.getElem?_zip_eq_some] at e5
  obtain ⟨e6, e7⟩ := e5
  have hjr : j < r.length := (List.getElem?_eq_some_iff.mp e6).1
  have hx : r.getD j 0 = x := by rw [List.getD_eq_getElem?_getD, e6]; rfl
  have := he j hjr
  rw [hx] at this
  have hf : f = nextAt tm l (r.take j) := by
    unfold nextAt
    cases j with
    | zero =>
      have e7 : some l.2 = some f := e7
      cases e7
      rw [if_pos (by simp)]
    | succ j =>
      have e7 : ((l.1.zip (r.take (r.length - 1))).map fun p => p.2 + tm.getD p.1 0)[j]? = some f := e7
      have h1 : j < l.1.length := by omega
      have h2 : j < (r.take (r.length - 1)).length := by rw [List.length_take]; omega
      have ez : (l.1.zip (r.take (r.length - 1)))[j]? = some (l.1[j], (r.take (r.length - 1))[j]) := by rw [List.getElem?_zip_eq_some]; exact ⟨List.getElem?_eq_getElem h1, List.getElem?_eq_getElem h2⟩
      rw [List.getElem?_map, ez] at e7
      have e7 : some ((r.take (r.length - 1))[j] + tm.getD l.1[j] 0) = some f := e7
      cases e7
      have hlen : (r.take (j + 1)).length = j + 1 := by rw [List.length_take]; omega
      rw [if_neg (by omega), hlen, Nat.add_sub_cancel]
      have g1 : (r.take (j + 1)).getD j 0 = r[j] := by
        rw [List.getD_eq_getElem?_getD, List.getElem?_take_of_lt (Nat.lt_succ_self j), List.getElem?_eq_getElem (by omega)]; rfl
      have g2 : l.1.getD j 0 = l.1[j] := by rw [List.getD_eq_getElem?_getD, List.getElem?_eq_getElem h1]; rfl
      rw [g1, g2, List.getElem_take]
  rw [← hf] at this
  exact fun z => by
    have := of_decide_eq_true z
    omega
theorem full_ok {rm : List Int} {ls : List Lt} {rows : List (List Int)} (hr : ∀ l ∈ ls, ∀ j ∈ l.1, j < rm.length) (h : NotFull rm ls rows) : fullB rm ls rows = false := by
  unfold fullB
  rw [List.any_eq_false]
  rintro ⟨road, t⟩ he
  obtain ⟨l, h1, h2⟩ := es_way he
  have := h road t (hr l h1 _ h2)
  exact fun z => by
    have g : rm.getD road 0 < ((es ls rows).count (road, t) : Int) := of_decide_eq_true z
    omega
/-- the part of a day that is not as told -/
inductive DueD (rds : List D) (rm tm : List Int) : D → D → Str → Prop
  | letters {d2 d3 : D} : areLetters rds d2 = false → DueD rds rm tm d2 d3 "letters"
  | hours {ls : List Lt} {d3 : D} : LsOk rds ls → ls.length ≤ 60 → areHours ls d3 = false → DueD rds rm tm (ltsD ls) d3 "hours"
  | early {ls : List Lt} {rows : List (List Int)} : LsOk rds ls → ls.length ≤ 60 → LenOk ls rows → earlyB tm ls rows = true → DueD rds rm tm (ltsD ls) (rowsD rows) "early"
  | full {ls : List Lt} {rows : List (List Int)} : LsOk rds ls → ls.length ≤ 60 → LenOk ls rows → earlyB tm ls rows = false → fullB rm ls rows = true → DueD rds rm tm (ltsD ls) (rowsD rows) "full"
/-- a right day's parts -/
structure DayOk (rds : List D) (rm tm : List Int) (ls : List Lt) (rows : List (List Int)) : Prop where
  o : LsOk rds ls
  l : ls.length ≤ 60
  n : LenOk ls rows
  e : earlyB tm ls rows = false
  f : fullB rm ls rows = false
theorem nat_map_inj : ∀ {a b : List Nat}, (a.map fun j => D.int (j : Nat)) = (b.map fun j => D.int (j : Nat)) → a = b
  | [], [], _ => rfl
  | [], _ :: _, e => by cases e
  | _ :: _, [], e => by cases e
  | x :: a, y :: b, e => by
    rw [List.map_cons, List.map_cons] at e
    obtain ⟨e1, e2⟩ := List.cons.inj e
    have e1 := D.int.inj e1
    rw [nat_map_inj e2, show x = y by omega]
theorem lts_inj : ∀ {a b : List Lt}, a.map ltD = b.map ltD → a = b
  | [], [], _ => rfl
  | [], _ :: _, e => by cases e
  | _ :: _, [], e => by cases e
  | x :: a, y :: b, e => by
    rw [List.map_cons, List.map_cons] at e
    obtain ⟨e1, e2⟩ := List.cons.inj e
    have e1 := D.tup.inj e1
    obtain ⟨e3, e4⟩ := List.cons.inj e1
    obtain ⟨e4, _⟩ := List.cons.inj e4
    have e4 := D.int.inj e4
    have e3 := nat_map_inj (D.tup.inj e3)
    rw [lts_inj e2, Prod.ext e3 e4]
theorem int_map_inj : ∀ {a b : List Int}, a.map D.int = b.map D.int → a = b
  | [], [], _ => rfl
  | [], _ :: _, e => by cases e
  | _ :: _, [], e => by cases e
  | x :: a, y :: b, e => by
    rw [List.map_cons, List.map_cons] at e
    obtain ⟨e1, e2⟩ := List.cons.inj e
    rw [int_map_inj e2, D.int.inj e1]
theorem rows_inj : ∀ {a b : List (List Int)}, a.map rowD = b.map rowD → a = b
  | [], [], _ => rfl
  | [], _ :: _, e => by cases e
  | _ :: _, [], e => by cases e
  | x :: a, y :: b, e => by
    rw [List.map_cons, List.map_cons] at e
    obtain ⟨e1, e2⟩ := List.cons.inj e
    rw [rows_inj e2, int_map_inj (D.tup.inj e1)]
theorem DayOk.not {rds : List D} {rm tm : List Int} {ls : List Lt} {rows : List (List Int)} (x : DayOk rds rm tm ls rows) {part : Str} : ¬ DueD rds rm tm (ltsD ls) (rowsD rows) part := by
  intro h
  generalize e1 : ltsD ls = d2 at h
  generalize e2 : rowsD rows = d3 at h
  cases h with
  | letters h => subst e1; rw [letters_ok x.o x.l] at h; cases h
  | hours _ _ h =>
    obtain rfl := lts_inj (D.tup.inj e1)
    subst e2
    rw [hours_ok x.n] at h; cases h
  | early _ _ _ h =>
    obtain rfl := lts_inj (D.tup.inj e1)
    obtain rfl := rows_inj (D.tup.inj e2)
    rw [x.e] at h; cases h
  | full _ _ _ _ h =>
    obtain rfl := lts_inj (D.tup.inj e1)
    obtain rfl := rows_inj (D.tup.inj e2)
    rw [x.f] at h; cases h
/-- a day's object at p -/
structure DayO (C CW : Addr) (H : Hp) (h p : Addr) (n : Int) (rds : List D) (rm tm : List Int) (ls : List Lt) (rows : List (List Int)) : Prop where
  ex : ∃ (dx : Addr) (fs : List (Str × V)) (pw : Addr) (v2 v3 : V), H p = some (.ins C dx fs) ∧ fs.length ≤ 100 ∧ fs.lookup ("web" : Str) = some (.ref pw) ∧ fs.lookup ("letters" : Str) = some v2 ∧ fs.lookup ("hours" : Str) = some v3 ∧ WebR CW H h pw n rds rm tm ∧ Rp H h v2 (ltsD ls) ∧ Rp H h v3 (rowsD rows)
theorem noL_ltsD (ls : List Lt) : noL (ltsD ls) = true := noL_lts ls
theorem noL_rowsD (rows : List (List Int)) : noL (rowsD rows) = true := noL_rows rows
theorem DayO.nl {C CW : Addr} {H H' : Hp} {h p : Addr} {n : Int} {rds : List D} {rm tm : List Int} {ls : List Lt} {rows : List (List Int)} (x : DayO C CW H h p n rds rm tm ls rows) (k : NL H H') : DayO C CW H' h p n rds rm tm ls rows := by
  obtain ⟨dx, fs, pw, v2, v3, a1, a2, a3, a4, a5, a6, a7, a8⟩ := x.ex
  exact ⟨dx, fs, pw, v2, v3, k _ _ a1 (fun _ z => by cases z), a2, a3, a4, a5, a6.nl k, a7.nl k (noL_ltsD ls), a8.nl k (noL_rowsD rows)⟩
def dayF (v1 v2 v3 : V) : List (Str × V) := putF "hours" v3 (putF "letters" v2 (putF "web" v1 []))
theorem ne_hl : ¬ (("letters" : Str) = "hours") := by decide +kernel
theorem ne_wh : ¬ (("web" : Str) = "hours") := by decide +kernel
theorem ne_wl : ¬ (("web" : Str) = "letters") := by decide +kernel
theorem ne_lh : ¬ (("hours" : Str) = "letters") := by decide +kernel
section
variable {P : Program} {w : World} {K : PySem.W.Frag} {mg : Str → Option Value} {base : Heap}
theorem ok_BadDay___init (T : Tx K mg) : FnOk P w K mg base (L2.CX P w) 1 T.x_BadDay.f T.x_BadDay.fd ["self", "part"] (spInitE T.x_BadDay.C "part") := by
  refine T.x_BadDay.F.okX sc_BadDay___init (fun vs H Q E h => ?_) (fun cdv A outer s H vs Q E hr h => ?_)
  · obtain ⟨a, y, rfl, _⟩ := h
    rfl
  · obtain ⟨a, y, rfl, ha, k⟩ := h
    refine ⟨_, pss_one (ps_ost (pv 0) (pv 1)), ?_⟩
    exact ⟨_, rfl, _, rfl, a, T.x_BadDay.C, rfl, T.x_BadDay.T, T.x_BadDay.no _ (by simp), .inl ⟨ha, fun dx n ne => k dx n ne⟩⟩
def spDay (C CW CB : Addr) : Sp := fun vs H Q E => ∃ (h p dx pw : Addr) (v2 v3 : V) (d2 d3 : D) (n : Int) (rds : List D) (rm tm : List Int), vs = [.ref p, .ref pw, v2, v3] ∧ H p = some (.ins C dx []) ∧ WebR CW H h pw n rds rm tm ∧ Rp H h v2 d2 ∧ Rp H h v3 d3 ∧
  (∀ ls rows, d2 = ltsD ls → d3 = rowsD rows → DayOk rds rm tm ls rows → ∀ H', But p H H' → H' p = some (.ins C dx (dayF (.ref pw) v2 v3)) → Q .non H') ∧
  (∀ part, DueD rds rm tm d2 d3 part → ∀ H' d, Same H H' → H' d = some (.xd [("part", .str part)]) → E (.ref CB) (some d) H')
end
end Hc


set_option Elab.async false
set_option linter.all false
set_option maxRecDepth 100000
set_option maxHeartbeats 1000000
set_option autoImplicit false
namespace Pl
open PySem L2 PyProof.Rows
/-- Python's < of rows of ints -/
def lexI : List Int → List Int → Bool
  | [], [] => false
  | [], _ :: _ => true
  | _ :: _, [] => false
  | a :: as, b :: bs => if a = b then lexI as bs else decide (a < b)
theorem lexI_cons (a b : Int) (as bs : List Int) : lexI (a :: as) (b :: bs) = if a = b then lexI as bs else decide (a < b) := rfl
theorem lexI_asym : ∀ x y : List Int, lexI x y = true → lexI y x = false
  | [], [], h => by cases h
  | [], _ :: _, _ => rfl
  | _ :: _, [], h => by cases h
  | a :: as, b :: bs, h => by
    rw [lexI_cons] at h ⊢
    by_cases e : a = b
    · rw [if_pos e] at h
      rw [if_pos e.symm]
      exact lexI_asym as bs h
    · rw [if_neg e] at h
      rw [if_neg (Ne.symm e)]
      have := of_decide_eq_true h
      exact decide_eq_false (by omega)
theorem lexI_tr : ∀ x y z : List Int, lexI y x = false → lexI z y = false → lexI z x = false
  | [], _, [], _, _ => rfl
  | [], [], _ :: _, _, _ => rfl
  | [], _ :: _, _ :: _, _, _ => rfl
  | _ :: _, [], _, h, _ => by cases h
  | _ :: _, _ :: _, [], _, h => by cases h
  | a :: as, b :: bs, c :: cs, h1, h2 => by
    rw [lexI_cons] at h1 h2 ⊢
    by_cases e1 : b = a
    · rw [if_pos e1] at h1
      by_cases e2 : c = b
      · rw [if_pos e2] at h2
        rw [if_pos (e2.trans e1)]
        exact lexI_tr as bs cs h1 h2
      · rw [if_neg e2] at h2
        have := of_decide_eq_false h2
        rw [if_neg (by omega)]
        exact decide_eq_false (by omega)
    · rw [if_neg e1] at h1
      have q1 := of_decide_eq_false h1
      by_cases e2 : c = b
      · rw [if_neg (by omega)]
        exact decide_eq_false (by omega)
      · rw [if_neg e2] at h2
        have q2 := of_decide_eq_false h2
        rw [if_neg (by omega)]
        exact decide_eq_false (by omega)
theorem swo {α : Type} (k : α → List Int) : SrtO.Swo fun v u => lexI (k v) (k u) := ⟨fun x y => lexI_asym _ _, fun x y z => lexI_tr _ _ _⟩
/-- .. where one of them ends the answer is fin -/
def lexF (fin : Bool) : List Int → List Int → Bool
  | a :: as, b :: bs => if a = b then lexF fin as bs else decide (a < b)
  | _, _ => fin
theorem lexF_eq : ∀ (x y : List Int), lexF (decide (x.length < y.length)) x y = lexI x y
  | [], [] => rfl
  | [], _ :: _ => by show decide (0 < _ + 1) = true; exact decide_eq_true (Nat.succ_pos _)
  | _ :: _, [] => by show decide (_ + 1 < 0) = false; exact decide_eq_false (Nat.not_lt_zero _)
  | a :: as, b :: bs => by
    have ih := lexF_eq as bs
    rw [lexI_cons, ← ih]
    show (if a = b then lexF (decide (as.length + 1 < bs.length + 1)) as bs else decide (a < b)) = _
    have : decide (as.length + 1 < bs.length + 1) = decide (as.length < bs.length) := by
      by_cases h : as.length < bs.length
      · rw [decide_eq_true h, decide_eq_true (by omega)]
      · rw [decide_eq_false h, decide_eq_false (by omega)]
    rw [this]
section
variable {prog : Program} {w : World} {A : Around} {E : Value → Shared → Prop} {s : Shared}
/-- at v a tuple of ints, one at least -/
def IsPl (h : Heap) (v : Value) (p : List Int) : Prop := ∃ a o us n n0 ns, v = .ref a ∧ h.get? a = some o ∧ o.cls = .type "tuple" ∧ o.data = .seq (List.toArray us) n ∧ p = n0 :: ns ∧ Vals (p.map V.int) us
theorem IsPl.keeps {h h' : Heap} {v : Value} {p : List Int} (x : IsPl h v p) (k : ∀ b o, h.get? b = some o → o.cls = .type "tuple" → h'.get? b = some o) : IsPl h' v p := by
  obtain ⟨a, o, us, n, n0, ns, e, ho, hc, hd⟩ := x
  exact ⟨a, o, us, n, n0, ns, e, k _ _ ho hc, hc, hd⟩
theorem lex_go {b fin : Bool} {Q : Bool → Shared → Prop} : ∀ (ns ms : List Int) (us vs : List Value) (i : Nat), Vals (ns.map V.int) us → Vals (ms.map V.int) vs → Q (lexF fin ns ms) s → PySem.W.KatLex prog w A b fin Q (us.zip vs) i s
  | [], _, _, _, i, .nil, _, h => PySem.W.kat_nil (i := i) h
  | _ :: _, [], _, _, i, .cons _ _, .nil, h => PySem.W.kat_nil (i := i) h
  | n :: ns, m :: ms, _, _, i, .cons r1 q1, .cons r2 q2, h => by
    obtain ⟨t1, rfl⟩ := r1
    obtain ⟨t2, rfl⟩ := r2
    have h : Q (if n = m then lexF fin ns ms else decide (n < m)) s := h
    refine PySem.W.kat_cons (SeqAt.EqAt.int_int n t1 m t2 prog w _ _ ?_)
    refine PySem.W.kat_go (fun e1 => ?_) (fun e1 => ?_)
    · have ex : n = m := by simpa using e1
      rw [if_pos ex] at h
      exact PySem.W.kat_yes (lex_go ns ms _ _ (i + 1) q1 q2 h)
    · have ex : ¬ n = m := by simpa using e1
      rw [if_neg ex] at h
      exact PySem.W.kat_no (TS.oneLt_ints _ h)
theorem pl_cmp {vs : List Value} {k : Value → List Int} (hp : ∀ v ∈ vs, IsPl s.heap v (k v)) : SrtO.Cmp prog w A s (tuples' true) (fun p => p.1 ∈ vs) (SrtO.lt2 fun v u => lexI (k v) (k u)) := by
  intro p q hm hm'
  have h1 := hp _ hm
  have h2 := hp _ hm'
  show wpAny (model prog w) A (keyLt' (tuples' true) p.1 q.1) (fun r s' => s' = s ∧ r = lexI (k p.1) (k q.1)) (fun _ _ => False) s
  obtain ⟨a, o, us, n, n0, ns, e, ho, hc, hd, ek, r1⟩ := h1
  obtain ⟨a', o', us', n', m0, ms, e', ho', hc', hd', ek', r2⟩ := h2
  rw [e, e']
  refine PySem.W.kat_lt ho hd ho' hd' ?_
  have l1 := r1.length
  have l2 := r2.length
  rw [List.length_map] at l1 l2
  have fin : decide (us.toArray.size < us'.toArray.size) = decide ((k p.1).length < (k q.1).length) := by
    simp only [List.size_toArray]
    rw [← l1, ← l2]
  rw [fin]
  exact lex_go (k p.1) (k q.1) us us' 0 r1 r2 ⟨rfl, by rw [← e, ← e']; exact lexF_eq _ _⟩
theorem firsts_of {h : Heap} : ∀ {vs : List Value}, (∀ v ∈ vs, ∃ p, IsPl h v p) → ∃ fs : List Value, PySem.W.KatTups h vs fs ∧ fs.length = vs.length ∧ ∀ f ∈ fs, ∃ x t, f = Value.int x t
  | [], _ => ⟨[], PySem.W.KatTups.nil, rfl, fun _ hm => by simp at hm⟩
  | v :: vs, hp => by
    obtain ⟨fs, h1, h2, h3⟩ := firsts_of (vs := vs) fun v' hm => hp v' (List.mem_cons_of_mem _ hm)
    obtain ⟨p, a, o, us, n, n0, ns, e, ho, hc, hd, ep, r⟩ := hp v (List.mem_cons_self ..)
    subst e ep
    cases r with
    | cons r0 r =>
    obtain ⟨t, rfl⟩ := r0
    refine ⟨.int n0 t :: fs, PySem.W.KatTups.cons ho hc hd rfl h1, by rw [List.length_cons, List.length_cons, h2], fun f hm => ?_⟩
    rcases List.mem_cons.mp hm with rfl | hm
    · exact ⟨_, t, rfl⟩
    · exact h3 f hm
theorem sortable {a : Addr} {vs : List Value} {k : Value → List Int} (h0 : 0 < vs.length) (hp : ∀ v ∈ vs, IsPl s.heap v (k v)) (ha : ∀ o, s.heap.get? a = some o → o.cls ≠ .type "tuple") : SrtO.SortableO prog w A s a vs fun v u => lexI (k v) (k u) := by
  intro h' keep
  have hp' : ∀ v ∈ vs, IsPl h' v (k v) := fun v hm => (hp v hm).keeps fun b o e c => keep b o (fun z => by subst z; exact ha o e c) e
  obtain ⟨fs, h1, h2, h3⟩ := firsts_of fun v hm => ⟨_, hp' v hm⟩
  refine ⟨tuples' true, fun Q E hq => ?_, pl_cmp hp'⟩
  refine PySem.W.kat_kind (T := .type "int") h1 (by omega) (fun f hm => ?_) (by rfl) ?_
  · obtain ⟨x, t, rfl⟩ := h3 f hm
    exact PySem.W.Looks.now
  · have e : (Value.type "int" != Value.type "tuple") = true := by first | decide +kernel | rfl | decide
    rw [e]
    exact hq
theorem sorted_pl {l : Addr} {vs : List Value} {k : Value → List Int} {Q : Value → Shared → Prop} (hl : s.heap.IsList l vs.toArray) (hz : vs.length ≤ sizeLine) (hp : ∀ v ∈ vs, IsPl s.heap v (k v))
    (h : ∀ (h' : Heap) (d : Addr) (out : List Value), SrtO.Srtd (fun v u => lexI (k v) (k u)) out → SrtO.Stb (fun v u => lexI (k v) (k u)) out vs → (∀ b o, s.heap.get? b = some o → h'.get? b = some o) → s.heap.objs.size ≤ d → (∃ n, h'.get? d = some (seqObj "list" out.toArray n)) → Q (.ref d) { s with heap := h' }) :
    wpAny (model prog w) A (call (.builtin "sorted") [.ref l]) Q E s := by
  refine SrtO.sorted_ord (swo k) hl hz (fun h2 h₁ a ha kk => ?_) fun out hs hb => ?_
  · refine sortable (s := { s with heap := h₁ }) (by omega) (fun v hm => (hp v hm).keeps fun b o e _ => (kk b o e).2) fun o e => ?_
    have e' : some o = some (seqObj "list" vs.toArray 0) := e.symm.trans ha
    cases e'
    intro c
    exact absurd (Value.type.inj c) (by decide)
  · exact h _ _ out hs hb (fun b o e => sortedAll_old e) (Nat.le_succ _) (sortedAll_at s.heap vs out.toArray)
end
end Pl
namespace L2
open PySem PySem.Spec PyProof.Rows
/-- at x a tuple of ints, one at least, in the heap -/
def RwV (H : Hp) (x : V) (p : List Int) : Prop := ∃ t n0 ns, x = V.ref t ∧ H t = some (.tup (p.map V.int)) ∧ p = n0 :: ns
/-- sorted(xs), xs a list of such tuples -/
def rSortedR (K : PySem.W.Frag) : List V → Hp → VK → Prop := fun vs H Q => ∃ (a : Addr) (xs : List V) (k : V → List Int), vs = [V.ref a] ∧ SqL K H a xs ∧ (∀ x ∈ xs, RwV H x (k x)) ∧
  ∀ ys p, SrtO.Srtd (fun x y => Pl.lexI (k x) (k y)) ys → SrtO.Stb (fun x y => Pl.lexI (k x) (k y)) ys xs → H p = none → Q (.ref p) (upd H p (.lst ys))
section
variable {X : Cx}
theorem cr_sortedR : CallR X (.builtin "sorted") (rSortedR X.K) := by
  intro pins s σ H vs us Q I r h
  obtain ⟨a, xs, k, rfl, hs, hx, q⟩ := h
  obtain ⟨its, rv, hl, hz⟩ := I.list hs
  obtain ⟨u, rfl, ru⟩ := vals1 r
  obtain rfl : u = Value.ref a := ru
  obtain ⟨e1, e2⟩ := refs_back rv fun x m => by
    obtain ⟨t, _, _, e, _⟩ := hx x m
    exact ⟨t, e⟩
  refine Pl.sorted_pl (k := fun u => k (backV u)) hl.isList (by rw [← rv.length]; exact hz) (fun v hv => ?_) fun h' d out h1 h2 kp hd hn => ?_
  · obtain ⟨t, rfl⟩ := e2 v hv
    have hm : V.ref t ∈ xs := by rw [e1]; exact List.mem_map.mpr ⟨_, hv, rfl⟩
    obtain ⟨t', n0, ns, e, ht, ek⟩ := hx _ hm
    cases e
    obtain ⟨_, its2, r2, o, ho, hc, n, hd⟩ := I.hok _ _ ht
    exact ⟨t, o, _, n, n0, ns, rfl, ho, hc, hd, ek, r2⟩
  · have h3 : ∀ u ∈ out, ∃ a, u = Value.ref a := fun u hu => e2 u (h2.perm.mem_iff.mp hu)
    obtain ⟨n, hn⟩ := hn
    have hb : SrtO.Stb (fun x y => Pl.lexI (k x) (k y)) (out.map backV) xs := by
      rw [e1]
      exact SrtO.Stb.map (Pl.swo k) backV h2
    refine ⟨.ref d, upd H d (.lst (out.map backV)), I.laid (t' := s.toks) kp hd ⟨?_, out, n, vals_back h3, hn⟩, rfl, q _ d (SrtO.srtd_map h1) hb (I.hok.fresh hd)⟩
    rw [hb.len]
    exact hz
end
end L2


set_option Elab.async false
set_option linter.all false
set_option maxRecDepth 100000
set_option maxHeartbeats 2000000
set_option autoImplicit false
namespace PySem
open Sem (wp)
/-- a zip, whatever it gave out last -/
def IsZ (h : Heap) (z TI TO : Addr) (f0 : Value) (f : Bool) : Prop :=
  h.get? z = some { cls := .type "zip", dict := none, data := .fields #[f0, .bool f, .bool false, .ref TI, .ref TO], slots := #[] }
def OutV (v : Value) : Prop := v = .none ∨ ∃ T : Addr, v = rawInt T
section
variable {prog : Program} {w : World} {A : Around} {E : Value → Shared → Prop} {s : Shared}
theorem z_free {z TI TO : Addr} {f0 : Value} {f : Bool} {Q : Bool → Shared → Prop} (hz : IsZ s.heap z TI TO f0 f) (ho : OutV f0) (q1 : Q true s)
    (q2 : ∀ h', IsZ h' z TI TO f0 true → Heap.SameBut z s.heap h' → Q false { s with heap := h' }) : wpAny (model prog w) A (Builtin.SmallTypes.ownedTupleIsFree (.ref z)) Q E s := by
  unfold Builtin.SmallTypes.ownedTupleIsFree
  rcases ho with rfl | ⟨T, rfl⟩
  · exact wpAny_bind (wpAny_field hz rfl (x := .none) rfl (wpAny_pure q1))
  · refine wpAny_bind (wpAny_field hz rfl (x := rawInt T) rfl ?_)
    show wpAny _ _ (loadIfAlive ((T : Int).toNat) >>= _) _ _ _
    have go : ∀ {Q' : Option Obj → Shared → Prop}, Q' (s.heap.get? T) s → wpAny (model prog w) A (loadIfAlive T) Q' E s := fun h _ _ _ => h
    rw [Int.toNat_natCast]
    refine wpAny_bind (go ?_)
    cases s.heap.get? T with
    | none =>
      simp only [Option.isNone_none, if_true]
      exact wpAny_pure q1
    | some o =>
      simp only [Option.isNone_some, Bool.false_eq_true, if_false]
      refine wpAny_bind (wpAny_field hz rfl (x := .bool f) rfl ?_)
      cases f with
      | true =>
        rw [if_neg (by intro z; cases z)]
        exact wpAny_pure (q2 s.heap hz (Heap.SameBut.refl _ _))
      | false =>
        rw [if_pos (by rfl)]
        exact wpAny_bind (wpAny_setField_rec hz (by simp) fun h₁ e₁ k₁ => wpAny_pure (q2 h₁ e₁ k₁))
/-- the next pair of a zip of two tuples -/
theorem z_item {z TI TO i1 i2 l1 l2 : Addr} {f0 : Value} {f : Bool} {k1 k2 : Nat} {xs ys : Array Value} {x y a b : Value} {Q : Value → Shared → Prop} (D : ZipApart z TI TO i1 i2 l1 l2)
    (hz : IsZ s.heap z TI TO f0 f) (ho : OutV f0) (hI : IsPair s.heap TI (.ref i1) (.ref i2)) (hO : IsPair s.heap TO a b)
    (h1 : s.heap.IsTupleIter i1 l1 k1) (h2 : s.heap.IsTupleIter i2 l2 k2) (hl1 : s.heap.IsTuple l1 xs) (hl2 : s.heap.IsTuple l2 ys) (hx : xs[k1]? = some x) (hy : ys[k2]? = some y)
    (hQ : ∀ h' g0 g, IsZ h' z TI TO g0 g → OutV g0 → (∃ u v, IsPair h' TO u v) → h'.IsTupleIter i1 l1 (k1 + 1) → h'.IsTupleIter i2 l2 (k2 + 1) → IsPair h' s.heap.objs.size x y → h'.objs.size = s.heap.objs.size + 1 →
      (∀ c o, c ≠ z → c ≠ TO → c ≠ i1 → c ≠ i2 → s.heap.get? c = some o → h'.get? c = some o) → Q (.ref s.heap.objs.size) { s with heap := h' }) :
    wpAny (model prog w) A (Builtin.«zip.__next__» ⟨[.ref z], []⟩) (fun fin s' => ∃ v, fin = .done (.ret v) ∧ Q v s') E s := by
  show wpAny _ _ (field (.ref z) 2 >>= _) _ _ _
  refine wpAny_bind (wpAny_field hz rfl (x := .bool false) rfl ?_)
  show wpAny _ _ (field (.ref z) 3 >>= _) _ _ _
  refine wpAny_bind (wpAny_field hz rfl (x := .ref TI) rfl (wpAny_bind (m := seqItems? (.ref TI)) (wpAny_seqItems hI rfl ?_)))
  show wpAny _ _ (Builtin.SmallTypes.ownedTupleIsFree (.ref z) >>= _) _ _ _
  refine wpAny_bind (z_free hz ho ?_ fun h₁ z₁ s₁ => ?_)
  · simp only [if_true]
    refine wpAny_bind (wpAny_rule (wpAny_bind (wpAny_field hz rfl (x := .ref TO) rfl (wpAny_bind (wpAny_setField_rec hz (by simp) fun h₁ z₁ s₁ => ?_)))))
    replace z₁ : IsZ h₁ z TI TO .ellipsis f := z₁
    refine wpAny_bind ?_
    simp only [List.zipIdx_cons, List.zipIdx_nil, List.forIn_cons, List.forIn_nil]
    refine wpAny_bind (wpAny_bind (wpAny_onRaise ?_))
    show wpAny _ _ (Builtin.SmallTypes.nextOf (.ref i1) >>= _) _ _ _
    refine wpAny_bind (RZ.nextOf_tuple_item (h1.extBut s₁.extBut D.i1z) (hl1.extBut s₁.extBut D.l1z) hx fun h₂ n₂ s₂ => wpAny_pure ?_)
    have O₂ : IsPair h₂ TO a b := s₂.extBut _ _ D.TOi1 (s₁.extBut _ _ D.TOz hO)
    refine wpAny_bind (wpAny_seqItems O₂ rfl (wpAny_bind (wpAny_updateSeq_pair O₂ fun h₃ O₃ s₃ => ?_)))
    replace O₃ : IsPair h₃ TO x b := O₃
    refine wpAny_bind (wpAny_letGo (wpAny_pure (wpAny_bind (wpAny_bind (wpAny_onRaise ?_)))))
    show wpAny _ _ (Builtin.SmallTypes.nextOf (.ref i2) >>= _) _ _ _
    refine wpAny_bind (RZ.nextOf_tuple_item (((h2.extBut s₁.extBut D.i2z).extBut s₂.extBut D.i12.symm).extBut s₃.extBut D.TOi2.symm) (((hl2.extBut s₁.extBut D.l2z).extBut s₂.extBut D.l2i1).extBut s₃.extBut D.l2TO) hy fun h₄ n₄ s₄ => wpAny_pure ?_)
    have O₄ : IsPair h₄ TO x b := s₄.extBut _ _ D.TOi2 O₃
    refine wpAny_bind (wpAny_seqItems O₄ rfl (wpAny_bind (wpAny_updateSeq_pair O₄ fun h₅ O₅ s₅ => ?_)))
    replace O₅ : IsPair h₅ TO x y := O₅
    refine wpAny_bind (wpAny_letGo (wpAny_pure (wpAny_pure (wpAny_bind (wpAny_seqItems O₅ rfl (wpAny_bind (wpAny_newTuple ?_)))))))
    have sz : h₅.objs.size = s.heap.objs.size := by rw [s₅.1, s₄.1, s₃.1, s₂.1, s₁.1]
    have z₅ : IsZ h₅ z TI TO .ellipsis f := s₅.extBut _ _ D.TOz.symm (s₄.extBut _ _ D.i2z.symm (s₃.extBut _ _ D.TOz.symm (s₂.extBut _ _ D.i1z.symm z₁)))
    have k₅ : ∀ c o, c ≠ z → c ≠ TO → c ≠ i1 → c ≠ i2 → s.heap.get? c = some o → h₅.get? c = some o := fun c o c1 c2 c3 c4 e => s₅.extBut _ _ c2 (s₄.extBut _ _ c4 (s₃.extBut _ _ c2 (s₂.extBut _ _ c3 (s₁.extBut _ _ c1 e))))
    have n1₅ : h₅.IsTupleIter i1 l1 (k1 + 1) := ((n₂.extBut s₃.extBut D.TOi1.symm).extBut s₄.extBut D.i12).extBut s₅.extBut D.TOi1.symm
    have n2₅ : h₅.IsTupleIter i2 l2 (k2 + 1) := n₄.extBut s₅.extBut D.TOi2.symm
    have zlt : z < h₅.objs.size := Heap.lt_size z₅
    show wpAny _ _ (Builtin.SmallTypes.ownedTupleHandOut (.ref z) (.ref h₅.objs.size) >>= _) _ _ _
    refine wpAny_bind ?_
    unfold Builtin.SmallTypes.ownedTupleHandOut
    have z₆ : IsZ (h₅.push { cls := .type "tuple", data := .seq #[x, y] }) z TI TO .ellipsis f := Heap.get?_push_of_some _ z₅
    refine wpAny_bind (wpAny_setField_rec z₆ (by simp) fun h₇ z₇ s₇ => ?_)
    replace z₇ : IsZ h₇ z TI TO (rawInt h₅.objs.size) f := z₇
    refine wpAny_setField_rec z₇ (by simp) fun h₈ z₈ s₈ => ?_
    replace z₈ : IsZ h₈ z TI TO (rawInt h₅.objs.size) false := z₈
    have up : ∀ c o, c ≠ z → h₅.get? c = some o → h₈.get? c = some o := fun c o c1 e => s₈.extBut _ _ c1 (s₇.extBut _ _ c1 (Heap.get?_push_of_some _ e))
    have T₈ : IsPair h₈ h₅.objs.size x y := s₈.extBut _ _ (Nat.ne_of_gt zlt) (s₇.extBut _ _ (Nat.ne_of_gt zlt) (Heap.get?_push_size _ rfl))
    have sz8 : h₈.objs.size = h₅.objs.size + 1 := by rw [s₈.1, s₇.1, Heap.size_push]
    rw [sz] at T₈ sz8
    refine wpAny_pure ⟨_, rfl, ?_⟩
    show Q (.ref h₅.objs.size) _
    rw [sz]
    exact hQ h₈ _ _ z₈ (.inr ⟨_, rfl⟩) ⟨_, _, up _ _ D.TOz O₅⟩ (n1₅.at fun o e => up _ o D.i1z e) (n2₅.at fun o e => up _ o D.i2z e) T₈ sz8 fun c o c1 c2 c3 c4 e => up c o c1 (k₅ c o c1 c2 c3 c4 e)
  · simp only [Bool.false_eq_true, if_false]
    refine wpAny_bind ?_
    rw [← Array.forIn_toList]
    simp only [List.forIn_cons, List.forIn_nil]
    refine wpAny_bind (wpAny_bind (wpAny_holding ?_))
    show wpAny _ _ (Builtin.SmallTypes.nextOf (.ref i1) >>= _) _ _ _
    refine wpAny_bind (RZ.nextOf_tuple_item (h1.extBut s₁.extBut D.i1z) (hl1.extBut s₁.extBut D.l1z) hx fun h₂ n₂ s₂ => wpAny_pure (wpAny_pure (wpAny_bind (wpAny_bind (wpAny_holding ?_)))))
    show wpAny _ _ (Builtin.SmallTypes.nextOf (.ref i2) >>= _) _ _ _
    refine wpAny_bind (RZ.nextOf_tuple_item ((h2.extBut s₁.extBut D.i2z).extBut s₂.extBut D.i12.symm) ((hl2.extBut s₁.extBut D.l2z).extBut s₂.extBut D.l2i1) hy fun h₃ n₃ s₃ => wpAny_pure (wpAny_pure (wpAny_pure ?_)))
    show wpAny _ _ (newTuple [x, y] >>= _) _ _ _
    refine wpAny_bind (wpAny_newTuple (wpAny_pure ⟨_, rfl, ?_⟩))
    have sz : h₃.objs.size = s.heap.objs.size := by rw [s₃.1, s₂.1, s₁.1]
    have z₃ : IsZ h₃ z TI TO f0 true := s₃.extBut _ _ D.i2z.symm (s₂.extBut _ _ D.i1z.symm z₁)
    have k₃ : ∀ c o, c ≠ z → c ≠ i1 → c ≠ i2 → s.heap.get? c = some o → h₃.get? c = some o := fun c o c1 c2 c3 e => s₃.extBut _ _ c3 (s₂.extBut _ _ c2 (s₁.extBut _ _ c1 e))
    have n1₃ : h₃.IsTupleIter i1 l1 (k1 + 1) := n₂.extBut s₃.extBut D.i12
    show Q (.ref h₃.objs.size) _
    have T₄ : IsPair (h₃.push { cls := .type "tuple", data := .seq #[x, y] }) h₃.objs.size x y := Heap.get?_push_size _ rfl
    have sz4 : (h₃.push { cls := .type "tuple", data := .seq #[x, y] }).objs.size = h₃.objs.size + 1 := Heap.size_push ..
    rw [sz] at T₄ sz4 ⊢
    exact hQ _ _ _ (Heap.get?_push_of_some _ z₃) ho ⟨_, _, Heap.get?_push_of_some _ (k₃ _ _ D.TOz D.TOi1 D.TOi2 hO)⟩ (n1₃.at fun o e => Heap.get?_push_of_some _ e) (n₃.at fun o e => Heap.get?_push_of_some _ e) T₄ sz4 fun c o c1 _ c3 c4 e => Heap.get?_push_of_some _ (k₃ c o c1 c3 c4 e)
theorem z_end {z TI TO i1 i2 l1 l2 : Addr} {f0 : Value} {f : Bool} {k1 k2 : Nat} {xs ys : Array Value} {a b : Value} {Q : Fin → Shared → Prop} (hh : A.handled = none) (D : ZipApart z TI TO i1 i2 l1 l2)
    (hz : IsZ s.heap z TI TO f0 f) (ho : OutV f0) (hI : IsPair s.heap TI (.ref i1) (.ref i2)) (hO : IsPair s.heap TO a b)
    (h1 : s.heap.IsTupleIter i1 l1 k1) (h2 : s.heap.IsTupleIter i2 l2 k2) (hl1 : s.heap.IsTuple l1 xs) (hl2 : s.heap.IsTuple l2 ys) (hend : xs[k1]? = none ∨ ys[k2]? = none)
    (hE : ∀ h' e, (∀ c o, c ≠ z → c ≠ TO → c ≠ i1 → c ≠ i2 → s.heap.get? c = some o → h'.get? c = some o) → (∃ o, h'.get? e = some o ∧ o.cls = .type "StopIteration") → E (.ref e) { s with heap := h' }) :
    wpAny (model prog w) A (Builtin.«zip.__next__» ⟨[.ref z], []⟩) Q E s := by
  show wpAny _ _ (field (.ref z) 2 >>= _) _ _ _
  refine wpAny_bind (wpAny_field hz rfl (x := .bool false) rfl ?_)
  show wpAny _ _ (field (.ref z) 3 >>= _) _ _ _
  refine wpAny_bind (wpAny_field hz rfl (x := .ref TI) rfl (wpAny_bind (m := seqItems? (.ref TI)) (wpAny_seqItems hI rfl ?_)))
  show wpAny _ _ (Builtin.SmallTypes.ownedTupleIsFree (.ref z) >>= _) _ _ _
  refine wpAny_bind (z_free hz ho ?_ fun h₁ z₁ s₁ => ?_)
  · simp only [if_true]
    refine wpAny_bind (wpAny_rule (wpAny_bind (wpAny_field hz rfl (x := .ref TO) rfl (wpAny_bind (wpAny_setField_rec hz (by simp) fun h₁ z₁ s₁ => ?_)))))
    replace z₁ : IsZ h₁ z TI TO .ellipsis f := z₁
    refine wpAny_bind ?_
    simp only [List.zipIdx_cons, List.zipIdx_nil, List.forIn_cons, List.forIn_nil]
    refine wpAny_bind (wpAny_bind (wpAny_onRaise ?_))
    show wpAny _ _ (Builtin.SmallTypes.nextOf (.ref i1) >>= _) _ _ _
    cases hx : xs[k1]? with
    | none =>
      refine wpAny_bind (RZ.nextOf_tuple_end hh (h1.extBut s₁.extBut D.i1z) (hl1.extBut s₁.extBut D.l1z) hx fun h₂ e s₂ he => ?_)
      obtain ⟨oe, hoe, hce⟩ := he
      have z₂ : IsZ h₂ z TI TO .ellipsis f := s₂ _ _ D.i1z.symm z₁
      have hez : e ≠ z := fun q => by
        subst q
        have z₂' : h₂.get? e = some _ := z₂
        rw [z₂'] at hoe; cases hoe; simp at hce
      exact wpAny_setField_rec z₂ (by simp) fun h₃ _ s₃ => hE h₃ e (fun c o c1 _ c3 _ q => s₃.extBut _ _ c1 (s₂ _ _ c3 (s₁.extBut _ _ c1 q))) ⟨oe, s₃.extBut _ _ hez hoe, hce⟩
    | some x =>
      have hy : ys[k2]? = none := by rcases hend with q | q; rw [hx] at q; cases q; exact q
      refine wpAny_bind (RZ.nextOf_tuple_item (h1.extBut s₁.extBut D.i1z) (hl1.extBut s₁.extBut D.l1z) hx fun h₂ n₂ s₂ => wpAny_pure ?_)
      have O₂ : IsPair h₂ TO a b := s₂.extBut _ _ D.TOi1 (s₁.extBut _ _ D.TOz hO)
      refine wpAny_bind (wpAny_seqItems O₂ rfl (wpAny_bind (wpAny_updateSeq_pair O₂ fun h₃ O₃ s₃ => wpAny_bind (wpAny_letGo (wpAny_pure (wpAny_bind (wpAny_bind (wpAny_onRaise ?_))))))))
      show wpAny _ _ (Builtin.SmallTypes.nextOf (.ref i2) >>= _) _ _ _
      refine wpAny_bind (RZ.nextOf_tuple_end hh (((h2.extBut s₁.extBut D.i2z).extBut s₂.extBut D.i12.symm).extBut s₃.extBut D.TOi2.symm) (((hl2.extBut s₁.extBut D.l2z).extBut s₂.extBut D.l2i1).extBut s₃.extBut D.l2TO) hy fun h₄ e s₄ he => ?_)
      obtain ⟨oe, hoe, hce⟩ := he
      have z₄ : IsZ h₄ z TI TO .ellipsis f := s₄ _ _ D.i2z.symm (s₃.extBut _ _ D.TOz.symm (s₂.extBut _ _ D.i1z.symm z₁))
      have hez : e ≠ z := fun q => by
        subst q
        have z₄' : h₄.get? e = some _ := z₄
        rw [z₄'] at hoe; cases hoe; simp at hce
      exact wpAny_setField_rec z₄ (by simp) fun h₅ _ s₅ => hE h₅ e (fun c o c1 c2 c3 c4 q => s₅.extBut _ _ c1 (s₄ _ _ c4 (s₃.extBut _ _ c2 (s₂.extBut _ _ c3 (s₁.extBut _ _ c1 q))))) ⟨oe, s₅.extBut _ _ hez hoe, hce⟩
  · simp only [Bool.false_eq_true, if_false]
    refine wpAny_bind ?_
    rw [← Array.forIn_toList]
    simp only [List.forIn_cons, List.forIn_nil]
    refine wpAny_bind (wpAny_bind (wpAny_holding ?_))
    show wpAny _ _ (Builtin.SmallTypes.nextOf (.ref i1) >>= _) _ _ _
    cases hx : xs[k1]? with
    | none =>
      refine wpAny_bind (RZ.nextOf_tuple_end hh (h1.extBut s₁.extBut D.i1z) (hl1.extBut s₁.extBut D.l1z) hx fun h₂ e s₂ he => ?_)
      exact hE h₂ e (fun c o c1 _ c3 _ q => s₂ _ _ c3 (s₁.extBut _ _ c1 q)) he
    | some x =>
      have hy : ys[k2]? = none := by rcases hend with q | q; rw [hx] at q; cases q; exact q
      refine wpAny_bind (RZ.nextOf_tuple_item (h1.extBut s₁.extBut D.i1z) (hl1.extBut s₁.extBut D.l1z) hx fun h₂ n₂ s₂ => wpAny_pure (wpAny_pure (wpAny_bind (wpAny_bind (wpAny_holding ?_)))))
      show wpAny _ _ (Builtin.SmallTypes.nextOf (.ref i2) >>= _) _ _ _
      refine wpAny_bind (RZ.nextOf_tuple_end hh ((h2.extBut s₁.extBut D.i2z).extBut s₂.extBut D.i12.symm) ((hl2.extBut s₁.extBut D.l2z).extBut s₂.extBut D.l2i1) hy fun h₃ e s₃ he => ?_)
      exact hE h₃ e (fun c o c1 _ c3 c4 q => s₃ _ _ c4 (s₂.extBut _ _ c3 (s₁.extBut _ _ c1 q))) he
/-- next of what is no list: by its type -/
theorem z_nextOf {z TI TO : Addr} {f0 : Value} {f : Bool} {Q : Value → Shared → Prop} (hz : IsZ s.heap z TI TO f0 f)
    (h : wpAny (model prog w) A.in1 (Builtin.«zip.__next__» ⟨[.ref z], []⟩) (fun fin s' => ∃ v, fin = .done (.ret v) ∧ Q v s') E s) : wpAny (model prog w) A (Builtin.SmallTypes.nextOf (.ref z)) Q E s := by
  have hT : s.TypeIs (.ref z) "zip" := ⟨_, hz, rfl⟩
  unfold Builtin.SmallTypes.nextOf
  refine wpAny_bind (wpAny_callSpecial?_slot (name := Str.ofString "__next__") hT F.slot_zip_next (wpAny_call_entry F.slot_zip_next hT F.entry_zip_next (wpAny_mono h (fun fin s' q => ?_) fun _ _ e => e) (F.args_zip_next_1 _)))
  obtain ⟨v, rfl, q⟩ := q
  exact ⟨v, rfl, wpAny_pure q⟩
end
end PySem


set_option Elab.async false
set_option linter.all false
set_option maxRecDepth 100000
set_option maxHeartbeats 2000000
set_option autoImplicit false
namespace PySem
open Sem (wp)
open AutoSeq1 (wpAny_loadPart')
section
variable {prog : Program} {w : World} {A : Around} {E : Value → Shared → Prop} {s : Shared}
/-- the next of an enumerate over a zip of two tuples: the pair at s, the pair with the count behind it -/
theorem ez_item {e z TI TO i1 i2 l1 l2 : Addr} {c : Int} {old f0 : Value} {f : Bool} {k1 k2 : Nat} {xs ys : Array Value} {x y a b : Value} {Q : Value → Shared → Prop} (D : ZipApart z TI TO i1 i2 l1 l2)
    (d1 : e ≠ z) (d2 : e ≠ TO) (d3 : e ≠ i1) (d4 : e ≠ i2) (he : IsEnum s.heap e z c old)
    (hz : IsZ s.heap z TI TO f0 f) (ho : OutV f0) (hI : IsPair s.heap TI (.ref i1) (.ref i2)) (hO : IsPair s.heap TO a b)
    (h1 : s.heap.IsTupleIter i1 l1 k1) (h2 : s.heap.IsTupleIter i2 l2 k2) (hl1 : s.heap.IsTuple l1 xs) (hl2 : s.heap.IsTuple l2 ys) (hx : xs[k1]? = some x) (hy : ys[k2]? = some y)
    (hQ : ∀ h₁ h' g0 g, (∀ c o, c ≠ z → c ≠ TO → c ≠ i1 → c ≠ i2 → s.heap.get? c = some o → h₁.get? c = some o) → h₁.objs.size = s.heap.objs.size + 1 → IsPair h₁ s.heap.objs.size x y → (∀ b o, b ≠ e → h₁.get? b = some o → h'.get? b = some o) →
      IsEnumOut h' e z (c + 1) (.ref s.heap.objs.size) (s.heap.objs.size + 1) → IsZ h' z TI TO g0 g → OutV g0 → (∃ u v, IsPair h' TO u v) → h'.IsTupleIter i1 l1 (k1 + 1) → h'.IsTupleIter i2 l2 (k2 + 1) →
      IsPair h' (s.heap.objs.size + 1) (.int c s.toks) (.ref s.heap.objs.size) → Q (.ref (s.heap.objs.size + 1)) { s with heap := h', toks := s.toks + 1 }) :
    wpAny (model prog w) A (Builtin.«enumerate.__next__» ⟨[.ref e], []⟩) (fun fin s' => ∃ v, fin = .done (.ret v) ∧ Q v s') E s := by
  obtain ⟨hp, g, d, tk, os⟩ := s
  have elt : e < hp.objs.size := Heap.lt_size he
  show wpAny _ _ (field (.ref e) 2 >>= _) _ _ _
  refine wpAny_bind (wpAny_field he rfl (x := .ref z) rfl (wpAny_bind (z_nextOf hz (z_item D hz ho hI hO h1 h2 hl1 hl2 hx hy fun h₁ g0 gf z₁ o₁ O₁ n1 n2 T₁ sz₁ k₁ => ?_))))
  replace T₁ : IsPair h₁ hp.objs.size x y := T₁
  replace sz₁ : h₁.objs.size = hp.objs.size + 1 := sz₁
  replace k₁ : ∀ c o, c ≠ z → c ≠ TO → c ≠ i1 → c ≠ i2 → hp.get? c = some o → h₁.get? c = some o := k₁
  have e₁ : IsEnum h₁ e z c old := k₁ e _ d1 d2 d3 d4 he
  show wpAny _ _ (field (.ref e) 3 >>= _) _ _ ⟨h₁, g, d, tk, os⟩
  refine wpAny_bind (wpAny_field e₁ rfl (x := rawInt c) rfl ?_)
  show wpAny _ _ (field (.ref e) 4 >>= _) _ _ ⟨h₁, g, d, tk, os⟩
  refine wpAny_bind (wpAny_field e₁ rfl (x := .none) rfl ?_)
  show wpAny _ _ (mkInt c >>= _) _ _ ⟨h₁, g, d, tk, os⟩
  refine wpAny_bind (wpAny_mkInt ?_)
  show wpAny _ _ (setField (.ref e) 3 (rawInt (c + 1)) >>= _) _ _ ⟨h₁, g, d, tk + 1, os⟩
  refine wpAny_bind (wpAny_setField_rec e₁ (by simp) fun h₂ e₂ s₂ => ?_)
  replace s₂ : Heap.SameBut e h₁ h₂ := s₂
  replace e₂ : IsEnum h₂ e z (c + 1) old := e₂
  show wpAny _ _ (setField (.ref e) 4 .none >>= _) _ _ ⟨h₂, g, d, tk + 1, os⟩
  refine wpAny_bind (wpAny_setField_rec e₂ (by simp) fun h₃ e₃ s₃ => ?_)
  replace s₃ : Heap.SameBut e h₂ h₃ := s₃
  replace e₃ : IsEnum h₃ e z (c + 1) old := e₃
  show wpAny _ _ (newTuple [.int c tk, .ref hp.objs.size] >>= _) _ _ ⟨h₃, g, d, tk + 1, os⟩
  refine wpAny_bind (wpAny_newTuple ?_)
  have sz₃ : h₃.objs.size = hp.objs.size + 1 := by rw [s₃.1, s₂.1, sz₁]
  have e₄ : IsEnum (h₃.push { cls := .type "tuple", data := .seq #[.int c tk, .ref hp.objs.size] }) e z (c + 1) old := Heap.get?_push_of_some _ e₃
  have T₄ : IsPair (h₃.push { cls := .type "tuple", data := .seq #[.int c tk, .ref hp.objs.size] }) (hp.objs.size + 1) (.int c tk) (.ref hp.objs.size) := by rw [← sz₃]; exact Heap.get?_push_size _ rfl
  have k₄ : ∀ b o, b ≠ e → h₁.get? b = some o → (h₃.push { cls := .type "tuple", data := .seq #[.int c tk, .ref hp.objs.size] }).get? b = some o := fun b o n q => Heap.get?_push_of_some _ (s₃.extBut b o n (s₂.extBut b o n q))
  have sz₄ : (h₃.push { cls := .type "tuple", data := .seq #[.int c tk, .ref hp.objs.size] }).objs.size = hp.objs.size + 2 := by rw [Heap.size_push, sz₃]
  generalize h₃.push { cls := .type "tuple", data := .seq #[.int c tk, .ref hp.objs.size] } = h₄ at e₄ T₄ k₄ sz₄
  show wpAny _ _ (Builtin.SmallTypes.ownedTupleIsFree (.ref e) >>= _) _ _ ⟨h₄, g, d, tk + 1, os⟩
  rw [sz₃]
  refine wpAny_bind ?_
  unfold Builtin.SmallTypes.ownedTupleIsFree
  refine wpAny_bind (wpAny_field e₄ rfl (x := .none) rfl (wpAny_pure ?_))
  simp only [if_true]
  refine wpAny_bind (wpAny_rule (wpAny_bind (wpAny_field e₄ rfl (x := old) rfl (wpAny_bind (wpAny_setField_rec e₄ (by simp) fun h₅ e₅ s₅ => ?_)))))
  replace s₅ : Heap.SameBut e h₄ h₅ := s₅
  replace e₅ : IsEnum h₅ e z (c + 1) (.ref hp.objs.size) := e₅
  show wpAny _ _ (Builtin.SmallTypes.ownedTupleHandOut (.ref e) (.ref (hp.objs.size + 1)) >>= _) _ _ ⟨h₅, g, d, tk + 1, os⟩
  refine wpAny_bind ?_
  unfold Builtin.SmallTypes.ownedTupleHandOut
  refine wpAny_bind (wpAny_setField_rec e₅ (by simp) fun h₆ e₆ s₆ => ?_)
  replace s₆ : Heap.SameBut e h₅ h₆ := s₆
  replace e₆ : IsEnumOut h₆ e z (c + 1) (.ref hp.objs.size) (hp.objs.size + 1) := e₆
  refine wpAny_setField_rec e₆ (by simp) fun h₇ e₇ s₇ => ?_
  replace s₇ : Heap.SameBut e h₆ h₇ := s₇
  replace e₇ : IsEnumOut h₇ e z (c + 1) (.ref hp.objs.size) (hp.objs.size + 1) := e₇
  have k₇ : ∀ b o, b ≠ e → h₄.get? b = some o → h₇.get? b = some o := fun b o n q => s₇.extBut b o n (s₆.extBut b o n (s₅.extBut b o n q))
  have up : ∀ b o, b ≠ e → h₁.get? b = some o → h₇.get? b = some o := fun b o n q => k₇ b o n (k₄ b o n q)
  obtain ⟨u, v, O₁⟩ := O₁
  exact wpAny_bind (wpAny_letGo (wpAny_pure ⟨_, rfl, hQ h₁ h₇ g0 gf k₁ sz₁ T₁ up e₇ (up _ _ d1.symm z₁) o₁ ⟨u, v, up _ _ d2.symm O₁⟩ (n1.at fun o q => up _ o d3.symm q) (n2.at fun o q => up _ o d4.symm q) (k₇ _ _ (Nat.ne_of_gt (Nat.lt_succ_of_lt elt)) T₄)⟩))
theorem ez_next {e z TI TO i1 i2 l1 l2 : Addr} {c : Int} {old f0 : Value} {f : Bool} {k1 k2 : Nat} {xs ys : Array Value} {x y a b : Value} {Q : Option Value → Shared → Prop} (D : ZipApart z TI TO i1 i2 l1 l2)
    (d1 : e ≠ z) (d2 : e ≠ TO) (d3 : e ≠ i1) (d4 : e ≠ i2) (he : IsEnum s.heap e z c old)
    (hz : IsZ s.heap z TI TO f0 f) (ho : OutV f0) (hI : IsPair s.heap TI (.ref i1) (.ref i2)) (hO : IsPair s.heap TO a b)
    (h1 : s.heap.IsTupleIter i1 l1 k1) (h2 : s.heap.IsTupleIter i2 l2 k2) (hl1 : s.heap.IsTuple l1 xs) (hl2 : s.heap.IsTuple l2 ys) (hx : xs[k1]? = some x) (hy : ys[k2]? = some y)
    (hQ : ∀ h₁ h' g0 g, (∀ c o, c ≠ z → c ≠ TO → c ≠ i1 → c ≠ i2 → s.heap.get? c = some o → h₁.get? c = some o) → h₁.objs.size = s.heap.objs.size + 1 → IsPair h₁ s.heap.objs.size x y → (∀ b o, b ≠ e → h₁.get? b = some o → h'.get? b = some o) →
      IsEnumOut h' e z (c + 1) (.ref s.heap.objs.size) (s.heap.objs.size + 1) → IsZ h' z TI TO g0 g → OutV g0 → (∃ u v, IsPair h' TO u v) → h'.IsTupleIter i1 l1 (k1 + 1) → h'.IsTupleIter i2 l2 (k2 + 1) →
      IsPair h' (s.heap.objs.size + 1) (.int c s.toks) (.ref s.heap.objs.size) → Q (some (.ref (s.heap.objs.size + 1))) { s with heap := h', toks := s.toks + 1 }) :
    wpAny (model prog w) A (pyNext (.ref e)) Q E s := by
  have hT : s.TypeIs (.ref e) "enumerate" := ⟨_, he, rfl⟩
  unfold pyNext
  exact wpAny_bind (wpAny_attempt (wpAny_callSpecial?_slot (name := Str.ofString "__next__") hT F.slot_enumerate_next
    (wpAny_call_entry F.slot_enumerate_next hT F.entry_enumerate_next (ez_item D d1 d2 d3 d4 he hz ho hI hO h1 h2 hl1 hl2 hx hy fun h₁ h' g0 g q1 q2 q3 q4 q5 q6 q7 q8 q9 q10 q11 => wpAny_pure (hQ h₁ h' g0 g q1 q2 q3 q4 q5 q6 q7 q8 q9 q10 q11)) (F.args_enumerate_next_1 _))))
theorem ez_stop {e z TI TO i1 i2 l1 l2 : Addr} {c : Int} {old f0 : Value} {f : Bool} {k1 k2 : Nat} {xs ys : Array Value} {a b : Value} {Q : Option Value → Shared → Prop} (hh : A.handled = none) (D : ZipApart z TI TO i1 i2 l1 l2)
    (he : IsEnum s.heap e z c old)
    (hz : IsZ s.heap z TI TO f0 f) (ho : OutV f0) (hI : IsPair s.heap TI (.ref i1) (.ref i2)) (hO : IsPair s.heap TO a b)
    (h1 : s.heap.IsTupleIter i1 l1 k1) (h2 : s.heap.IsTupleIter i2 l2 k2) (hl1 : s.heap.IsTuple l1 xs) (hl2 : s.heap.IsTuple l2 ys) (hend : xs[k1]? = none ∨ ys[k2]? = none)
    (hQ : ∀ h', (∀ c o, c ≠ z → c ≠ TO → c ≠ i1 → c ≠ i2 → s.heap.get? c = some o → h'.get? c = some o) → Q none { s with heap := h' }) :
    wpAny (model prog w) A (pyNext (.ref e)) Q E s := by
  have hT : s.TypeIs (.ref e) "enumerate" := ⟨_, he, rfl⟩
  unfold pyNext
  refine wpAny_bind (wpAny_attempt (wpAny_callSpecial?_slot (name := Str.ofString "__next__") hT F.slot_enumerate_next
    (wpAny_call_entry F.slot_enumerate_next hT F.entry_enumerate_next ?_ (F.args_enumerate_next_1 _))))
  show wpAny _ _ (field (.ref e) 2 >>= _) _ _ _
  refine wpAny_bind (wpAny_field he rfl (x := .ref z) rfl (wpAny_bind (z_nextOf hz (z_end hh D hz ho hI hO h1 h2 hl1 hl2 hend fun h' x hk hx' => ?_))))
  obtain ⟨o, ho, hc⟩ := hx'
  exact wpAny_bind (wpAny_isInstance (T := "StopIteration") (b := true) ⟨o, ho, hc⟩ isSubtype_stop (wpAny_pure (hQ _ hk)))
end
theorem meets_enumerate_newZ (z TI TO : Addr) :
    Meets (Builtin.«enumerate.__new__» ⟨[.type "enumerate", .ref z], []⟩) (fun _ R s => IsZip s.heap z TI TO .none ∧
      R (.ok (.ret (.ref s.heap.objs.size))) { s with heap := s.heap.push { cls := .type "enumerate", data := .fields #[.none, .bool false, .ref z, rawInt 0, .none, .none] } }) :=
  .of_wp fun prog w A R s h => by
    obtain ⟨hp, g, d, tk, os⟩ := s; obtain ⟨hl, h⟩ := h
    have hsub := sub_enumerate
    have hL : IsZip (Shared.heap ⟨hp, g, d, tk, os⟩) z TI TO .none := hl
    have q1 : ∀ {A' : Around} {E : Value → Shared → Prop} {Q : Value → Shared → Prop}, Q (.ref z) ⟨hp, g, d, tk, os⟩ → wpAny (model prog w) A' (pyIter (.ref z)) Q E ⟨hp, g, d, tk, os⟩ := fun q => wpAny_pyIter_zip hL q
    wp_walk using wpAny_loadPart' hl
    refine wpAny_stack_any fun st => wpAny_pure ?_
    split
    · rename_i c _ _ _ _ _
      cases (c == Value.type "enumerate")
      · wp_walk using wpAny_loadPart' hl, q1
        exact ⟨_, rfl, h⟩
      · wp_walk using wpAny_loadPart' hl, q1
        exact ⟨_, rfl, h⟩
    · wp_walk using wpAny_loadPart' hl, q1
      exact ⟨_, rfl, h⟩
section
variable {prog : Program} {w : World} {A : Around} {E : Value → Shared → Prop} {s : Shared}
theorem call_enumerate_zip {z TI TO : Addr} {Q : Value → Shared → Prop} (hz : IsZip s.heap z TI TO .none)
    (h : ∀ h', IsEnum h' s.heap.objs.size z 0 .none → h'.objs.size = s.heap.objs.size + 1 → (∀ b o, s.heap.get? b = some o → h'.get? b = some o) → Q (.ref s.heap.objs.size) { s with heap := h' }) :
    wpAny (model prog w) A (call (.type "enumerate") [.ref z]) Q E s := by
  refine callType_new F.called_enumerate (by decide) (F.typeCall_enumerate_1 _) (F.newCall_enumerate_1 _) (fun obj => F.args_object_init_2 obj _) F.entry_enumerate_new
    (meets_enumerate_newZ z TI TO) ⟨hz, ?_⟩
  have he : IsEnum (s.heap.push { cls := .type "enumerate", data := .fields #[.none, .bool false, .ref z, rawInt 0, .none, .none] }) s.heap.objs.size z 0 .none := Heap.get?_push_size _ rfl
  exact ⟨⟨_, he, rfl⟩, h _ he (Heap.size_push ..) fun b o x => Heap.get?_push_of_some _ x⟩
end
end PySem


set_option Elab.async false
set_option linter.all false
set_option maxRecDepth 100000
set_option maxHeartbeats 2000000
set_option autoImplicit false
namespace L2
open PySem PySem.Spec PyProof.Rows
/-- enumerate over zip of the tuples at a and b: each turn two new tuples -/
def Itez (K : PySem.W.Frag) (a b : Addr) : It where
  go i H := ∃ (xs ys : List V) (x y : V), SqT K H a xs ∧ SqT K H b ys ∧ xs[i]? = some x ∧ ys[i]? = some y
  yld i H v H' := ∃ S T x y, v = .ref T ∧ H S = none ∧ H T = none ∧ S ≠ T ∧ H' = upd (upd H S (.tup [x, y])) T (.tup [.int (i : Nat), .ref S]) ∧ (∀ xs, SqT K H a xs → xs[i]? = some x) ∧ ∀ ys, SqT K H b ys → ys[i]? = some y
  stop i H := ∃ xs ys : List V, SqT K H a xs ∧ SqT K H b ys ∧ (xs.length ≤ i ∨ ys.length ≤ i)
structure EzAt (e z TI TO i1 i2 a b : Addr) (i : Nat) (h : Heap) : Prop where
  en : ∃ old, IsEnum h e z ((i : Nat) : Int) old
  zp : ∃ f0 f, IsZ h z TI TO f0 f ∧ OutV f0
  ins : IsPair h TI (.ref i1) (.ref i2)
  out : ∃ x y, IsPair h TO x y
  it1 : h.IsTupleIter i1 a i
  it2 : h.IsTupleIter i2 b i
theorem EzAt.cells {e z TI TO i1 i2 a b : Addr} {i : Nat} {h : Heap} (st : EzAt e z TI TO i1 i2 a b i h) {c : Addr} (hc : c ∈ [e, z, TI, TO, i1, i2]) : ∃ o, h.get? c = some o ∧ ∀ v, o.data ≠ .cell v := by
  obtain ⟨⟨old, he⟩, ⟨f0, f, hz, _⟩, hI, ⟨x, y, hO⟩, ⟨o1, e1, _, d1⟩, ⟨o2, e2, _, d2⟩⟩ := st
  simp only [List.mem_cons, List.not_mem_nil, or_false] at hc
  rcases hc with rfl | rfl | rfl | rfl | rfl | rfl
  · exact ⟨_, he, fun v => nofun⟩
  · exact ⟨_, hz, fun v => nofun⟩
  · exact ⟨_, hI, fun v => nofun⟩
  · exact ⟨_, hO, fun v => nofun⟩
  · exact ⟨o1, e1, fun v q => by rw [d1] at q; cases q⟩
  · exact ⟨o2, e2, fun v q => by rw [d2] at q; cases q⟩
theorem turn_enumZ {P : Program} {w : World} {K : PySem.W.Frag} {elts : List Expr} {kk : Nat} {tpos : Pos} {a b e z TI TO i1 i2 : Addr} (D : ZipApart z TI TO i1 i2 a b) (d1 : e ≠ z) (d0 : e ≠ TI) (d2 : e ≠ TO) (d3 : e ≠ i1) (d4 : e ≠ i2) :
    Turn P w K (.Tuple elts kk tpos) (Itez K a b) [e, z, TI, TO, i1, i2] e (EzAt e z TI TO i1 i2 a b) where
  mem := List.mem_cons_self
  obj i h st c hc := st.cells hc
  keep i h h' st k := by
    obtain ⟨⟨old, he⟩, ⟨f0, f, hz, ho⟩, hI, ⟨x, y, hO⟩, h1, h2⟩ := st
    exact ⟨⟨old, k e (by simp) _ he⟩, ⟨f0, f, k z (by simp) _ hz, ho⟩, k TI (by simp) _ hI, ⟨x, y, k TO (by simp) _ hO⟩, h1.at fun o q => k i1 (by simp) o q, h2.at fun o q => k i2 (by simp) o q⟩
  item := by
    intro X hP hw hK hc i pins s σ H E I hf st hg
    subst hP hw hK
    have lc : ∀ {c : Addr}, c ∈ [e, z, TI, TO, i1, i2] → c < s.heap.objs.size := fun hm => let ⟨_, q, _⟩ := st.cells hm; Heap.lt_size q
    obtain ⟨⟨old, he⟩, ⟨f0, f, hz, ho⟩, hI, ⟨x0, y0, hO⟩, h1, h2⟩ := st
    obtain ⟨xs, ys, x, y, hqx, hqy, hx, hy⟩ := hg
    obtain ⟨us, ru, p, _⟩ := I.tuple hqx
    obtain ⟨ws, rw', p2, _⟩ := I.tuple hqy
    obtain ⟨u, hu, rx⟩ := ru.get hx
    obtain ⟨u2, hu2, ry⟩ := rw'.get hy
    have elt : e < s.heap.objs.size := lc (by simp)
    refine ez_next D d1 d2 d3 d4 he hz ho hI hO h1 h2 p p2 (x := u) (y := u2) (by simpa using hu) (by simpa using hu2) fun h₁ h' g0 g k₁ sz₁ T₁ k' e' z' o' O' n1 n2 T' => ?_
    refine ⟨_, rfl, wpAny_letOwnedTupleGo_enum (s := { s with heap := h', toks := s.toks + 1 }) e' fun h'' e'' sb => ?_⟩
    have k2 : ∀ c o, c ≠ e → h'.get? c = some o → h''.get? c = some o := fun c o n q => (sb.2 c n).trans q
    have newS : ObjOk X.prog X.w (upd H s.heap.objs.size (.tup [x, y])) h₁ s.heap.objs.size (.tup [x, y]) :=
      ⟨by show 2 ≤ sizeLine; decide, [u, u2], .cons rx (.cons ry .nil), ⟨_, T₁, rfl, _, rfl⟩⟩
    have I1 : Inv X pins σ (upd H s.heap.objs.size (.tup [x, y])) { s with heap := h₁, toks := s.toks } :=
      I.turnedNew (ch := [z, TI, TO, i1, i2]) (fun c o nc q => by
        simp only [List.mem_cons, List.not_mem_nil, or_false, not_or] at nc
        exact k₁ c o nc.1 nc.2.2.1 nc.2.2.2.1 nc.2.2.2.2 q) (fun c hm => hf c (List.mem_cons_of_mem _ hm)) (Nat.le_refl _) newS
    have T2 : h''.get? (s.heap.objs.size + 1) = some { cls := .type "tuple", data := .seq #[.int i s.toks, .ref s.heap.objs.size] } := k2 _ _ (Nat.ne_of_gt (Nat.lt_succ_of_lt elt)) T'
    have newT : ObjOk X.prog X.w (upd (upd H s.heap.objs.size (.tup [x, y])) (s.heap.objs.size + 1) (.tup [.int (i : Nat), .ref s.heap.objs.size])) h'' (s.heap.objs.size + 1) (.tup [.int (i : Nat), .ref s.heap.objs.size]) :=
      ⟨by show 2 ≤ sizeLine; decide, [.int i s.toks, .ref s.heap.objs.size], .cons ⟨_, rfl⟩ (.cons rfl .nil), ⟨_, T2, rfl, _, rfl⟩⟩
    have I2 : Inv X pins σ (upd (upd H s.heap.objs.size (.tup [x, y])) (s.heap.objs.size + 1) (.tup [.int (i : Nat), .ref s.heap.objs.size])) { s with heap := h'', toks := s.toks + 1 } :=
      I1.turnedNew (t' := s.toks + 1) (h' := h'') (ch := [e]) (fun c o nc q => k2 c o (fun z => nc (by simp [z])) (k' c o (fun z => nc (by simp [z])) q)) (fun c hm => by
        rw [List.mem_singleton] at hm
        subst hm
        exact ⟨by rw [upd_ne (Nat.ne_of_lt elt)]; exact (hf c (by simp)).1, (hf c (by simp)).2⟩) (by show h₁.objs.size ≤ _; rw [sz₁]; exact Nat.le_refl _) newT
    refine ⟨.ref (s.heap.objs.size + 1), _, I2, rfl, ⟨s.heap.objs.size, s.heap.objs.size + 1, x, y, rfl, I.hok.fresh (Nat.le_refl _), I.hok.fresh (Nat.le_succ _), Nat.ne_of_lt (Nat.lt_succ_self _), rfl, fun l hl => ?_, fun l hl => ?_⟩, ?_, fun c hm => ?_⟩
    · rw [I.tuple_inj hl hqx]; exact hx
    · rw [I.tuple_inj hl hqy]; exact hy
    · obtain ⟨u', v', O'⟩ := O'
      have e1 : ((i + 1 : Nat) : Int) = (i : Int) + 1 := by omega
      exact ⟨⟨_, by rw [e1]; exact e''⟩, ⟨g0, g, k2 _ _ d1.symm z', o'⟩, k2 _ _ d0.symm (k' _ _ d0.symm (k₁ _ _ D.TIz D.TITO D.TIi1 D.TIi2 hI)), ⟨u', v', k2 _ _ d2.symm O'⟩, n1.at fun o q => k2 _ _ d3.symm q, n2.at fun o q => k2 _ _ d4.symm q⟩
    · rw [upd_ne (Nat.ne_of_lt (Nat.lt_succ_of_lt (lc hm))), upd_ne (Nat.ne_of_lt (lc hm))]
      exact (hf c hm).1
  done := by
    intro X hP hw hK hc i pins s σ H E I hf st hg
    subst hP hw hK
    obtain ⟨⟨old, he⟩, ⟨f0, f, hz, ho⟩, hI, ⟨x0, y0, hO⟩, h1, h2⟩ := st
    obtain ⟨xs, ys, hqx, hqy, hend⟩ := hg
    obtain ⟨us, ru, p, _⟩ := I.tuple hqx
    obtain ⟨ws, rw', p2, _⟩ := I.tuple hqy
    have l1 := ru.length
    have l2 := rw'.length
    have hn : us.toArray[i]? = none ∨ ws.toArray[i]? = none := by
      rcases hend with q | q
      · exact .inl (by simp; omega)
      · exact .inr (by simp; omega)
    exact ez_stop (I.ok.hd hc) D he hz ho hI hO h1 h2 p p2 hn fun h' hk => ⟨rfl, I.turnedL (t' := s.toks) (ch := [e, z, TI, TO, i1, i2]) (fun c o hb q => by
      simp only [List.mem_cons, List.not_mem_nil, or_false, not_or] at hb
      exact hk c o hb.2.1 hb.2.2.2.1 hb.2.2.2.2.1 hb.2.2.2.2.2 q) hf⟩
  self := fun A i s Q E st h => let ⟨_, he⟩ := st.en; wpAny_pyIter_enum he h
def iEnumZ (K : PySem.W.Frag) (ta : TA) : TI := fun σ H R => ta σ H fun vs H1 => ∃ a b xs ys, vs = [.ref a, .ref b] ∧ SqT K H1 a xs ∧ SqT K H1 b ys ∧ R (Itez K a b) H1
theorem pi_enumZ {X : Cx} {e1 e2 : Expr} {ta : TA} {p p2 pos pos2 tpos : Pos} {elts : List Expr} {kk : Nat} (hg : Gl X "enumerate") (hm : X.mg "enumerate" = none) (hg2 : Gl X "zip") (hm2 : X.mg "zip" = none) (ha : PA X [e1, e2] ta)
    (hs : starEach [e1, e2] X.env = (false, eval e1 X.env) :: starEach [e2] X.env := by rfl) (hpl : (backTo pos2 (starEach [e2] X.env)).any (·.1) = false := by rfl)
    (na : starEach [.Call (.Name "zip" p2) [e1, e2] [] pos2] X.env = (false, eval (.Call (.Name "zip" p2) [e1, e2] [] pos2) X.env) :: starEach [] X.env := by rfl) :
    PI X (.Tuple elts kk tpos) (.Call (.Name "enumerate" p) [.Call (.Name "zip" p2) [e1, e2] [] pos2] [] pos) (iEnumZ X.K ta) := by
  refine ⟨fun pins s σ H R I h => ?_⟩
  have Z : wpAny (model X.prog X.w) X.A (eval (.Call (.Name "zip" p2) [e1, e2] [] pos2) X.env) (fun v s' => ∃ N a b H1, v = .ref (N + 4) ∧ Inv X pins σ H1 s' ∧ IsZip s'.heap (N + 4) (N + 2) (N + 3) .none ∧ IsPair s'.heap (N + 2) (.ref N) (.ref (N + 1)) ∧ IsPair s'.heap (N + 3) .none .none ∧
      s'.heap.IsTupleIter N a 0 ∧ s'.heap.IsTupleIter (N + 1) b 0 ∧ s'.heap.objs.size = N + 5 ∧ a < N ∧ b < N ∧ (∀ c, N ≤ c → H1 c = none ∧ FpOk X pins H1 c) ∧ R (Itez X.K a b) H1) X.xe s := by
    refine Call_ (ld_blt I hg2 hm2 PyProof.Rows.boot_zip (PyProof.Rows.callWith_type1 (thn (ha.run pos2 pins s σ H _ I h) fun us s1 ⟨vs, H1, I1, r1, q1⟩ => ?_) hs hpl))
    obtain ⟨a, b, xs, ys, ex, hqx, hqy, q⟩ := q1
    subst ex
    cases r1 with
    | cons r rr =>
    cases rr with
    | cons r' rr =>
    cases rr
    cases r
    cases r'
    obtain ⟨its, rv, p1, _⟩ := I1.tuple hqx
    obtain ⟨its2, rv2, p2, _⟩ := I1.tuple hqy
    obtain ⟨o1, ho1, _⟩ := id p1
    obtain ⟨o2, ho2, _⟩ := id p2
    refine RZ.call_zipT (show s1.heap.IsTuple a its.toArray from p1) (show s1.heap.IsTuple b its2.toArray from p2) fun h' hz hTI hTO h1 h2 hsz hk => ?_
    have I2 : Inv X pins σ H1 { s1 with heap := h' } := I1.kept (t' := s1.toks) hk
    exact ⟨s1.heap.objs.size, a, b, H1, rfl, I2, hz, hTI, hTO, h1, h2, hsz, Heap.lt_size ho1, Heap.lt_size ho2, fun c hc => ⟨I1.hok.fresh hc, I1.fpOk hc (I1.hok.fresh hc)⟩, q⟩
  refine Call_ (ld_blt I hg hm boot_enumerate (PyProof.Rows.callWith_type1 (args_cons (thn Z fun x s1 ⟨N, a, b, H1, ex, I1, hz, hTI, hTO, h1, h2, hsz, la, lb, fr, q⟩ => args_nil ?_) na) na))
  subst ex
  refine call_enumerate_zip hz fun h' he hsz' hk => wpAny_pyIter_enum he ?_
  have I2 : Inv X pins σ H1 { s1 with heap := h' } := I1.kept (t' := s1.toks) hk
  rw [hsz] at he ⊢
  refine ⟨N + 5, [N + 5, N + 4, N + 2, N + 3, N, N + 1], _, _, H1, rfl, I2, turn_enumZ (PySem.W.ktu_apart N a b la lb) ?_ ?_ ?_ ?_ ?_, ⟨⟨_, he⟩, ⟨_, _, hk _ _ hz, .inl rfl⟩, hk _ _ hTI, ⟨_, _, hk _ _ hTO⟩, h1.at fun o q => hk _ o q, h2.at fun o q => hk _ o q⟩, fun c hc => (fr c ?_).2, q⟩
  all_goals try (exact Nat.ne_of_gt (by show (_ : Nat) < _; omega))
  simp only [List.mem_cons, List.not_mem_nil, or_false] at hc
  rcases hc with rfl | rfl | rfl | rfl | rfl | rfl
  all_goals (first | exact Nat.le_add_right _ _ | exact Nat.le_refl _)
/-- a loop over it -/
theorem for_enumZ {K : PySem.W.Frag} {a b : Addr} {xs ys : List V} {g : TG} {tb : TS} {D : Ends} {σ : St} {H : Hp} (hl : xs.length = ys.length) (Pv : Nat → St → Hp → Prop) (h0 : Pv 0 σ H) (hq : ∀ i σ H, Pv i σ H → SqT K H a xs ∧ SqT K H b ys)
    (hs : ∀ i x y S T σ H, xs[i]? = some x → ys[i]? = some y → H S = none → H T = none → S ≠ T → Pv i σ H → g (.ref T) σ (upd (upd H S (.tup [x, y])) T (.tup [.int (i : Nat), .ref S])) fun σ2 H2 => tb { D with nx := Pv (i + 1), ct := Pv (i + 1), bk := D.nx } σ2 H2)
    (hd : ∀ σ H, Pv xs.length σ H → D.nx σ H) :
    ∃ W : Nat → Nat → St → Hp → Prop, (∃ m, W 0 m σ H) ∧ ∀ i m σ H, W i m σ H →
      ((Itez K a b).stop i H ∧ D.nx σ H) ∨ ((Itez K a b).go i H ∧ ∃ N : St → Hp → Prop, (∀ σ' H', N σ' H' → ∃ m', m' < m ∧ W (i + 1) m' σ' H') ∧ ∀ x H', (Itez K a b).yld i H x H' → g x σ H' fun σ2 H2 => tb { D with nx := N, ct := N, bk := D.nx } σ2 H2) := by
  refine ⟨fun i m σ H => m = xs.length - i ∧ i ≤ xs.length ∧ Pv i σ H, ⟨xs.length, by simp, Nat.zero_le _, h0⟩, ?_⟩
  rintro i m σ H ⟨rfl, hi, p⟩
  obtain ⟨qa, qb⟩ := hq i σ H p
  by_cases hlt : i < xs.length
  · refine .inr ⟨⟨xs, ys, _, _, qa, qb, List.getElem?_eq_getElem hlt, List.getElem?_eq_getElem (by omega)⟩, Pv (i + 1), fun σ' H' p' => ⟨xs.length - (i + 1), by omega, rfl, hlt, p'⟩, fun v H' y => ?_⟩
    obtain ⟨S, T, x, y, rfl, hS, hT, hST, rfl, f1, f2⟩ := y
    exact hs i x y S T σ H (f1 xs qa) (f2 ys qb) hS hT hST p
  · have e : i = xs.length := by omega
    subst e
    exact .inl ⟨⟨xs, ys, qa, qb, .inl (Nat.le_refl _)⟩, hd σ H p⟩
end L2


set_option Elab.async false
set_option linter.all false
set_option maxRecDepth 100000
set_option maxHeartbeats 2000000
set_option autoImplicit false
namespace L2
open PySem PySem.Spec PyProof.Rows
/-- a list (k) or a tuple -/
def SqK (K : PySem.W.Frag) : Bool → Hp → Addr → List V → Prop
  | true => SqL K
  | false => SqT K
def HpSeq : Bool → Heap → Addr → Array Value → Prop
  | true => Heap.IsList
  | false => Heap.IsTuple
def HpIter : Bool → Heap → Addr → Addr → Nat → Prop
  | true => Heap.IsListIter
  | false => Heap.IsTupleIter
def itObj : Bool → Addr → Obj
  | true, a => { cls := .type "list_iterator", data := .fields #[.ref a, .int 0 0] }
  | false, a => { cls := .type "tuple_iterator", data := .fields #[.ref a, .int 0 0] }
theorem Inv.seqK {X : Cx} {pins : List (Addr × Obj)} {σ : St} {H : Hp} {s : Shared} (I : Inv X pins σ H s) {k : Bool} {a : Addr} {xs : List V} (q : SqK X.K k H a xs) : ∃ us : List Value, Vals xs us ∧ HpSeq k s.heap a us.toArray ∧ a < s.heap.objs.size := by
  cases k with
  | true =>
    obtain ⟨us, ru, pu, _⟩ := I.list q
    exact ⟨us, ru, pu.isList, pu.lt⟩
  | false =>
    obtain ⟨us, ru, pu, _⟩ := I.tuple q
    obtain ⟨o, ho, _⟩ := id pu
    exact ⟨us, ru, pu, Heap.lt_size ho⟩
theorem Inv.seqK_inj {X : Cx} {pins : List (Addr × Obj)} {σ : St} {H : Hp} {s : Shared} (I : Inv X pins σ H s) {k : Bool} {a : Addr} {xs ys : List V} (q : SqK X.K k H a xs) (r : SqK X.K k H a ys) : xs = ys := by
  cases k with
  | true => exact I.list_inj q r
  | false => exact I.tuple_inj q r
theorem drawsK {prog : Program} {w : World} {A : Around} (k : Bool) (hh : A.handled = none) (it l : Addr) (hne : l ≠ it) (items : Array Value) :
    Draws prog w A it [it, l] items.size (fun i v => items[i]? = some v) (fun i h => HpIter k h it l i ∧ HpSeq k h l items) := by
  cases k with
  | true => exact Draws.list hh it l hne items
  | false => exact Draws.tuple hh it l hne items
theorem beginsK (k : Bool) (l : Addr) (items : Array Value) : Begins (.ref l) (itObj k l) fun h => HpSeq k h l items := by
  cases k with
  | true => exact begins_list l items
  | false => exact begins_tuple l items
theorem HpIter.atK {k : Bool} {h h' : Heap} {i a : Addr} {n : Nat} (x : HpIter k h i a n) (q : ∀ o, h.get? i = some o → h'.get? i = some o) : HpIter k h' i a n := by
  cases k with
  | true => exact Heap.IsListIter.at x q
  | false => exact Heap.IsTupleIter.at x q
theorem HpIter.cell {k : Bool} {h : Heap} {i a : Addr} {n : Nat} (x : HpIter k h i a n) : ∃ o, h.get? i = some o ∧ ∀ v, o.data ≠ .cell v := by
  cases k with
  | true => obtain ⟨o, e, _, d⟩ := x; exact ⟨o, e, fun v q => by rw [d] at q; cases q⟩
  | false => obtain ⟨o, e, _, d⟩ := x; exact ⟨o, e, fun v q => by rw [d] at q; cases q⟩
theorem HpIter.begun {k : Bool} {h : Heap} {i a : Addr} (e : h.get? i = some (itObj k a)) : HpIter k h i a 0 := by
  cases k with
  | true => exact ⟨_, e, rfl, rfl⟩
  | false => exact ⟨_, e, rfl, rfl⟩
def Itz3 (K : PySem.W.Frag) (k1 k2 k3 : Bool) (a b c : Addr) : It where
  go i H := ∃ (xs ys zs : List V) (x y z : V), SqK K k1 H a xs ∧ SqK K k2 H b ys ∧ SqK K k3 H c zs ∧ xs[i]? = some x ∧ ys[i]? = some y ∧ zs[i]? = some z
  yld i H v H' := ∃ T x y z, v = .ref T ∧ H T = none ∧ H' = upd H T (.tup [x, y, z]) ∧ (∀ xs, SqK K k1 H a xs → xs[i]? = some x) ∧ (∀ ys, SqK K k2 H b ys → ys[i]? = some y) ∧ ∀ zs, SqK K k3 H c zs → zs[i]? = some z
  stop i H := ∃ xs ys zs : List V, SqK K k1 H a xs ∧ SqK K k2 H b ys ∧ SqK K k3 H c zs ∧ i ≤ xs.length ∧ i ≤ ys.length ∧ i ≤ zs.length ∧ (i = xs.length ∨ i = ys.length ∨ i = zs.length)
structure Z3At (k1 k2 k3 : Bool) (N a b c : Addr) (i : Nat) (h : Heap) : Prop where
  zip : IsZip h (N + 5) (N + 3) (N + 4) .none
  ins : IsTupOf3 h (N + 3) (.ref N) (.ref (N + 1)) (.ref (N + 2))
  out : ∃ x y z, IsTupOf3 h (N + 4) x y z
  it1 : HpIter k1 h N a i
  it2 : HpIter k2 h (N + 1) b i
  it3 : HpIter k3 h (N + 2) c i
theorem Z3At.cells {k1 k2 k3 : Bool} {N a b c : Addr} {i : Nat} {h : Heap} (st : Z3At k1 k2 k3 N a b c i h) {d : Addr} (hd : d ∈ [N + 5, N + 3, N + 4, N, N + 1, N + 2]) : ∃ o, h.get? d = some o ∧ ∀ v, o.data ≠ .cell v := by
  obtain ⟨hz, hI, ⟨x, y, z, hO⟩, h1, h2, h3⟩ := st
  simp only [List.mem_cons, List.not_mem_nil, or_false] at hd
  rcases hd with rfl | rfl | rfl | rfl | rfl | rfl
  · exact ⟨_, hz, fun v => nofun⟩
  · exact ⟨_, hI, fun v => nofun⟩
  · exact ⟨_, hO, fun v => nofun⟩
  · exact h1.cell
  · exact h2.cell
  · exact h3.cell
theorem vals_size {xs : List V} {us : List Value} (r : Vals xs us) : us.toArray.size = xs.length := by
  have := r.length
  simp only [List.size_toArray]; omega
theorem turn_zip3 {P : Program} {w : World} {K : PySem.W.Frag} {elts : List Expr} {kk : Nat} {tpos : Pos} {k1 k2 k3 : Bool} {N a b c : Addr} (la : a < N) (lb : b < N) (lc : c < N) :
    Turn P w K (.Tuple elts kk tpos) (Itz3 K k1 k2 k3 a b c) [N + 5, N + 3, N + 4, N, N + 1, N + 2] (N + 5) (Z3At k1 k2 k3 N a b c) where
  mem := List.mem_cons_self
  obj i h st c hc := st.cells hc
  keep i h h' st k := by
    obtain ⟨hz, hI, ⟨x, y, z, hO⟩, h1, h2, h3⟩ := st
    exact ⟨k _ (by simp) _ hz, k _ (by simp) _ hI, ⟨x, y, z, k _ (by simp) _ hO⟩, h1.atK fun o q => k _ (by simp) o q, h2.atK fun o q => k _ (by simp) o q, h3.atK fun o q => k _ (by simp) o q⟩
  item := by
    intro X hP hw hK hc i pins s σ H E I hf st hg
    subst hP hw hK
    have lcl : ∀ {c : Addr}, c ∈ [N + 5, N + 3, N + 4, N, N + 1, N + 2] → c < s.heap.objs.size := fun hm => let ⟨_, q, _⟩ := st.cells hm; Heap.lt_size q
    obtain ⟨hz, hI, ⟨x0, y0, z0, hO⟩, h1, h2, h3⟩ := st
    obtain ⟨xs, ys, zs, x, y, z, qx, qy, qz, hx, hy, hz'⟩ := hg
    obtain ⟨us, ru, pu, _⟩ := I.seqK qx
    obtain ⟨ws, rw', pw, _⟩ := I.seqK qy
    obtain ⟨ts, rt, pt, _⟩ := I.seqK qz
    have hh : X.A.in1.handled = none := I.ok.hd hc
    have S := zip_sep3 (N := N) (fp1 := [a]) (fp2 := [b]) (fp3 := [c]) (fun d hd => by rw [List.mem_singleton] at hd; subst hd; exact la) (fun d hd => by rw [List.mem_singleton] at hd; subst hd; exact lb) (fun d hd => by rw [List.mem_singleton] at hd; subst hd; exact lc)
    have nx : i < us.toArray.size := by rw [vals_size ru]; exact (List.getElem?_eq_some_iff.mp hx).1
    have ny : i < ws.toArray.size := by rw [vals_size rw']; exact (List.getElem?_eq_some_iff.mp hy).1
    have nz : i < ts.toArray.size := by rw [vals_size rt]; exact (List.getElem?_eq_some_iff.mp hz').1
    refine wpAny_pyNext_zipD3_item S (drawsK k1 hh N a (Nat.ne_of_lt la) us.toArray) (drawsK k2 hh (N + 1) b (Nat.ne_of_lt (Nat.lt_succ_of_lt lb)) ws.toArray) (drawsK k3 hh (N + 2) c (Nat.ne_of_lt (Nat.lt_succ_of_lt (Nat.lt_succ_of_lt lc))) ts.toArray) hz hI hO ⟨h1, pu⟩ ⟨h2, pw⟩ ⟨h3, pt⟩ nx ny nz
      fun x1 x2 x3 h' tk y1 y2 y3 z' O' s1 s2 s3 hT hsz hk => ?_
    obtain ⟨u1, eu1, r1⟩ := ru.get hx
    obtain ⟨u2, eu2, r2⟩ := rw'.get hy
    obtain ⟨u3, eu3, r3⟩ := rt.get hz'
    have e1 : x1 = u1 := Option.some.inj (y1.symm.trans (by simpa using eu1))
    have e2 : x2 = u2 := Option.some.inj (y2.symm.trans (by simpa using eu2))
    have e3 : x3 = u3 := Option.some.inj (y3.symm.trans (by simpa using eu3))
    subst e1 e2 e3
    have zlt : N + 5 < s.heap.objs.size := lcl (by simp)
    refine ⟨_, rfl, wpAny_letOwnedTupleGo_zip (s := { s with heap := h', toks := tk }) z' fun g gz sb => ?_⟩
    have gT : g.get? s.heap.objs.size = some { cls := .type "tuple", data := .seq #[x1, x2, x3] } := (sb.2 _ (Nat.ne_of_gt zlt)).trans hT
    have I1 : Inv X pins σ (upd H s.heap.objs.size (.tup [x, y, z])) { s with heap := g, toks := tk } :=
      I.turnedNew (ch := [N + 5, N + 3, N + 4, N, N + 1, N + 2]) (fun c o nc e => by
        simp only [List.mem_cons, List.not_mem_nil, or_false, not_or] at nc
        exact (sb.2 c nc.1).trans (hk c o nc.1 nc.2.2.1 nc.2.2.2.1 nc.2.2.2.2.1 nc.2.2.2.2.2 e)) hf (Nat.le_refl _) ⟨by show 3 ≤ sizeLine; decide, [x1, x2, x3], .cons r1 (.cons r2 (.cons r3 .nil)), ⟨_, gT, rfl, _, rfl⟩⟩
    refine ⟨.ref s.heap.objs.size, _, I1, rfl, ⟨_, x, y, z, rfl, I.hok.fresh (Nat.le_refl _), rfl, fun l hl => ?_, fun l hl => ?_, fun l hl => ?_⟩, ⟨gz, ?_, ⟨x1, x2, x3, ?_⟩, ?_, ?_, ?_⟩, fun c hm => ?_⟩
    · rw [I.seqK_inj hl qx]; exact hx
    · rw [I.seqK_inj hl qy]; exact hy
    · rw [I.seqK_inj hl qz]; exact hz'
    · exact (sb.2 _ S.TIz).trans (hk _ _ S.TIz S.TITO S.TIi1 S.TIi2 S.TIi3 hI)
    · exact (sb.2 _ S.TOz).trans O'
    · exact s1.1.atK fun o q => (sb.2 _ (Nat.ne_of_lt (Nat.lt_add_of_pos_right (by decide)))).trans q
    · exact s2.1.atK fun o q => (sb.2 _ (Nat.ne_of_lt (Nat.add_lt_add_left (show 1 < 5 by decide) N))).trans q
    · exact s3.1.atK fun o q => (sb.2 _ (Nat.ne_of_lt (Nat.add_lt_add_left (show 2 < 5 by decide) N))).trans q
    · rw [upd_ne (Nat.ne_of_lt (lcl hm))]
      exact (hf c hm).1
  done := by
    intro X hP hw hK hc i pins s σ H E I hf st hg
    subst hP hw hK
    obtain ⟨hz, hI, ⟨x0, y0, z0, hO⟩, h1, h2, h3⟩ := st
    obtain ⟨xs, ys, zs, qx, qy, qz, l1, l2, l3, hend⟩ := hg
    obtain ⟨us, ru, pu, _⟩ := I.seqK qx
    obtain ⟨ws, rw', pw, _⟩ := I.seqK qy
    obtain ⟨ts, rt, pt, _⟩ := I.seqK qz
    have hh : X.A.in1.handled = none := I.ok.hd hc
    have S := zip_sep3 (N := N) (fp1 := [a]) (fp2 := [b]) (fp3 := [c]) (fun d hd => by rw [List.mem_singleton] at hd; subst hd; exact la) (fun d hd => by rw [List.mem_singleton] at hd; subst hd; exact lb) (fun d hd => by rw [List.mem_singleton] at hd; subst hd; exact lc)
    refine wpAny_pyNext_zipD3_end S (drawsK k1 hh N a (Nat.ne_of_lt la) us.toArray) (drawsK k2 hh (N + 1) b (Nat.ne_of_lt (Nat.lt_succ_of_lt lb)) ws.toArray) (drawsK k3 hh (N + 2) c (Nat.ne_of_lt (Nat.lt_succ_of_lt (Nat.lt_succ_of_lt lc))) ts.toArray) hz hI hO ⟨h1, pu⟩ ⟨h2, pw⟩ ⟨h3, pt⟩
      (by rw [vals_size ru]; exact l1) (by rw [vals_size rw']; exact l2) (by rw [vals_size rt]; exact l3) (by rw [vals_size ru, vals_size rw', vals_size rt]; exact hend) fun h' tk hk => ⟨rfl, I.turnedL (ch := [N + 5, N + 3, N + 4, N, N + 1, N + 2]) (fun c o nc e => by
        simp only [List.mem_cons, List.not_mem_nil, or_false, not_or] at nc
        exact hk c o nc.1 nc.2.2.1 nc.2.2.2.1 nc.2.2.2.2.1 nc.2.2.2.2.2 e) hf⟩
  self A i s Q E st h := wpAny_pyIter_zip st.zip h
def iZip3 (K : PySem.W.Frag) (ta : TA) : TI := fun σ H R => ta σ H fun vs H1 => ∃ k1 k2 k3 a b c xs ys zs, vs = [.ref a, .ref b, .ref c] ∧ SqK K k1 H1 a xs ∧ SqK K k2 H1 b ys ∧ SqK K k3 H1 c zs ∧ R (Itz3 K k1 k2 k3 a b c) H1
theorem pi_zip3 {X : Cx} {e1 e2 e3 : Expr} {ta : TA} {p pos tpos : Pos} {elts : List Expr} {kk : Nat} (hg : Gl X "zip") (hm : X.mg "zip" = none) (ha : PA X [e1, e2, e3] ta)
    (hs : starEach [e1, e2, e3] X.env = (false, eval e1 X.env) :: starEach [e2, e3] X.env := by rfl) (hpl : (backTo pos (starEach [e2, e3] X.env)).any (·.1) = false := by rfl) :
    PI X (.Tuple elts kk tpos) (.Call (.Name "zip" p) [e1, e2, e3] [] pos) (iZip3 X.K ta) where
  run pins s σ H R I h := by
    refine Call_ (ld_blt I hg hm PyProof.Rows.boot_zip (PyProof.Rows.callWith_type1 (thn (ha.run pos pins s σ H _ I h) fun us s1 ⟨vs, H1, I1, r1, k1, k2, k3, a, b, c, xs, ys, zs, ev, qx, qy, qz, q⟩ => ?_) hs hpl))
    subst ev
    cases r1 with
    | cons ra rr =>
    cases rr with
    | cons rb rr =>
    cases rr with
    | cons rc rr =>
    cases rr
    cases ra
    cases rb
    cases rc
    obtain ⟨us, _, pu, la⟩ := I1.seqK qx
    obtain ⟨ws, _, pw, lb⟩ := I1.seqK qy
    obtain ⟨ts, _, pt, lc⟩ := I1.seqK qz
    refine zip_begins3 (beginsK k1 a us.toArray) (beginsK k2 b ws.toArray) (beginsK k3 c ts.toArray) pu pw pt fun h' hz hI hO h1 h2 h3 hsz hk => wpAny_pyIter_zip hz ?_
    refine ⟨s1.heap.objs.size + 5, [s1.heap.objs.size + 5, s1.heap.objs.size + 3, s1.heap.objs.size + 4, s1.heap.objs.size, s1.heap.objs.size + 1, s1.heap.objs.size + 2], _, _, H1, rfl, I1.kept (t' := s1.toks) hk, turn_zip3 la lb lc, ⟨hz, hI, ⟨_, _, _, hO⟩, HpIter.begun h1, HpIter.begun h2, HpIter.begun h3⟩, fun d hd => ?_, q⟩
    have hle : s1.heap.objs.size ≤ d := by
      simp only [List.mem_cons, List.not_mem_nil, or_false] at hd
      rcases hd with rfl | rfl | rfl | rfl | rfl | rfl <;> omega
    exact I1.fpOk hle (I1.hok.fresh hle)
/-- a loop over zip of three of one length -/
theorem for_zip3 {K : PySem.W.Frag} {k1 k2 k3 : Bool} {a b c : Addr} {xs ys zs : List V} {g : TG} {tb : TS} {D : Ends} {σ : St} {H : Hp} (hl : ys.length = xs.length) (hl2 : zs.length = xs.length) (Pv : Nat → St → Hp → Prop) (h0 : Pv 0 σ H) (hq : ∀ i σ H, Pv i σ H → SqK K k1 H a xs ∧ SqK K k2 H b ys ∧ SqK K k3 H c zs)
    (hs : ∀ i x y z T σ H, xs[i]? = some x → ys[i]? = some y → zs[i]? = some z → H T = none → Pv i σ H → g (.ref T) σ (upd H T (.tup [x, y, z])) fun σ2 H2 => tb { D with nx := Pv (i + 1), ct := Pv (i + 1), bk := D.nx } σ2 H2)
    (hd : ∀ σ H, Pv xs.length σ H → D.nx σ H) :
    ∃ W : Nat → Nat → St → Hp → Prop, (∃ m, W 0 m σ H) ∧ ∀ i m σ H, W i m σ H →
      ((Itz3 K k1 k2 k3 a b c).stop i H ∧ D.nx σ H) ∨ ((Itz3 K k1 k2 k3 a b c).go i H ∧ ∃ N : St → Hp → Prop, (∀ σ' H', N σ' H' → ∃ m', m' < m ∧ W (i + 1) m' σ' H') ∧ ∀ x H', (Itz3 K k1 k2 k3 a b c).yld i H x H' → g x σ H' fun σ2 H2 => tb { D with nx := N, ct := N, bk := D.nx } σ2 H2) := by
  refine ⟨fun i m σ H => m = xs.length - i ∧ i ≤ xs.length ∧ Pv i σ H, ⟨xs.length, by simp, Nat.zero_le _, h0⟩, ?_⟩
  rintro i m σ H ⟨rfl, hi, p⟩
  obtain ⟨qa, qb, qc⟩ := hq i σ H p
  by_cases hlt : i < xs.length
  · refine .inr ⟨⟨xs, ys, zs, _, _, _, qa, qb, qc, List.getElem?_eq_getElem hlt, List.getElem?_eq_getElem (by omega), List.getElem?_eq_getElem (by omega)⟩, Pv (i + 1), fun σ' H' p' => ⟨xs.length - (i + 1), by omega, rfl, hlt, p'⟩, fun v H' y => ?_⟩
    obtain ⟨T, x, y, z, rfl, hT, rfl, f1, f2, f3⟩ := y
    exact hs i x y z T σ H (f1 xs qa) (f2 ys qb) (f3 zs qc) hT p
  · have e : i = xs.length := by omega
    subst e
    exact .inl ⟨⟨xs, ys, zs, qa, qb, qc, Nat.le_refl _, by omega, by omega, .inl rfl⟩, hd σ H p⟩
end L2


set_option Elab.async false
set_option linter.all false
set_option maxRecDepth 100000
set_option maxHeartbeats 4000000
set_option autoImplicit false
namespace Hc
open PySem L2
/-- a list's item, to be changed -/
theorem get_list {X : Cx} : PGet X (rIxL X.K) := by
  intro pins s σ H o i ov iv Q I rx ry h
  obtain ⟨p, xs, i, z, rfl, rfl, hq, he, q⟩ := h
  cases rx
  obtain ⟨t, rfl⟩ := ry
  obtain ⟨its, r, pl, hz⟩ := I.list hq
  obtain ⟨j, h1, h2, h3, h4, h5⟩ := atI_get he
  obtain ⟨w, ew, rw'⟩ := r.get h2
  have hl := r.length
  have hn := line63
  have fin : EP X pins σ Q w s := ⟨z, H, I, rw', q⟩
  by_cases h0 : 0 ≤ i
  · have hj : i.toNat = j := by
      rw [PySem.seqIndex_of h0 h5] at h1
      exact Option.some.inj h1
    exact wpAny_getItem_list pl.isList h0 (by omega) (by rw [hj]; simpa using ew) fin
  · have hj : (i + (its.toArray.size : Int)).toNat = j := by
      rw [PySem.seqIndex_neg (by omega) h4] at h1
      rw [List.size_toArray, ← hl]
      exact Option.some.inj h1
    exact wpAny_getItem_list_neg pl.isList (by omega) (by rw [List.size_toArray] <;> omega) (by omega) (by rw [hj]; simpa using ew) fin
/-! ### passings, ranks -/
def hdI (q : List Int) : Int := q.getD 0 0
def pAt (k : Nat) (l : Lt) (r : List Int) (p : Nat) : List Int := [((l.1.getD p 0 : Nat) : Int), r.getD p 0, ((k : Nat) : Int), ((p : Nat) : Int)]
def pLt (k : Nat) (l : Lt) (r : List Int) (m : Nat) : List (List Int) := (List.range m).map (pAt k l r)
def pAll (ls : List Lt) (rows : List (List Int)) (m : Nat) : List (List Int) := (List.range m).flatMap fun k => pLt k (ls.getD k ([], 0)) (rows.getD k []) (ls.getD k ([], 0)).1.length
theorem fm_succ {α : Type} (f : Nat → List α) (n : Nat) : (List.range (n + 1)).flatMap f = (List.range n).flatMap f ++ f n := by
  rw [List.range_succ, List.flatMap_append]; simp
theorem pLt_succ (k : Nat) (l : Lt) (r : List Int) (m : Nat) : pLt k l r (m + 1) = pLt k l r m ++ [pAt k l r m] := by
  unfold pLt
  rw [List.range_succ, List.map_append]; rfl
theorem pAll_succ {ls : List Lt} {rows : List (List Int)} {k : Nat} {l : Lt} {r : List Int} (e1 : ls[k]? = some l) (e2 : rows[k]? = some r) : pAll ls rows (k + 1) = pAll ls rows k ++ pLt k l r l.1.length := by
  have h1 : ls.getD k ([], 0) = l := by rw [List.getD_eq_getElem?_getD, e1]; rfl
  have h2 : rows.getD k [] = r := by rw [List.getD_eq_getElem?_getD, e2]; rfl
  unfold pAll
  rw [fm_succ, h1, h2]
theorem mem_pLt {k : Nat} {l : Lt} {r : List Int} {m : Nat} {q : List Int} : q ∈ pLt k l r m ↔ ∃ p, p < m ∧ q = pAt k l r p := by
  unfold pLt
  rw [List.mem_map]
  exact ⟨fun ⟨p, h, e⟩ => ⟨p, List.mem_range.mp h, e.symm⟩, fun ⟨p, h, e⟩ => ⟨p, List.mem_range.mpr h, e.symm⟩⟩
theorem mem_pAll {ls : List Lt} {rows : List (List Int)} {m : Nat} {q : List Int} : q ∈ pAll ls rows m ↔ ∃ k p, k < m ∧ p < (ls.getD k ([], 0)).1.length ∧ q = pAt k (ls.getD k ([], 0)) (rows.getD k []) p := by
  unfold pAll
  rw [List.mem_flatMap]
  constructor
  · rintro ⟨k, hk, h⟩
    obtain ⟨p, hp, e⟩ := mem_pLt.mp h
    exact ⟨k, p, List.mem_range.mp hk, hp, e⟩
  · rintro ⟨k, p, hk, hp, e⟩
    exact ⟨k, List.mem_range.mpr hk, mem_pLt.mpr ⟨p, hp, e⟩⟩
theorem pAt_inj {k k' : Nat} {l l' : Lt} {r r' : List Int} {p p' : Nat} (h : pAt k l r p = pAt k' l' r' p') : k = k' ∧ p = p' := by
  unfold pAt at h
  simp only [List.cons.injEq, and_true] at h
  exact ⟨by omega, by omega⟩
theorem pLt_nodup (k : Nat) (l : Lt) (r : List Int) : ∀ m, (pLt k l r m).Nodup
  | 0 => List.nodup_nil
  | m + 1 => by
    rw [pLt_succ, List.nodup_append]
    refine ⟨pLt_nodup k l r m, List.nodup_cons.mpr ⟨List.not_mem_nil, List.nodup_nil⟩, fun a ha b hb e => ?_⟩
    obtain ⟨p, hp, rfl⟩ := mem_pLt.mp ha
    rw [List.mem_singleton] at hb
    have := (pAt_inj (e.trans hb)).2
    omega
theorem pAll_nodup (ls : List Lt) (rows : List (List Int)) : ∀ m, (pAll ls rows m).Nodup
  | 0 => List.nodup_nil
  | m + 1 => by
    unfold pAll
    rw [fm_succ, List.nodup_append]
    refine ⟨pAll_nodup ls rows m, pLt_nodup _ _ _ _, fun a ha b hb e => ?_⟩
    obtain ⟨k, p, hk, hp, rfl⟩ := mem_pAll.mp ha
    obtain ⟨p', _, rfl⟩ := mem_pLt.mp hb
    have := (pAt_inj e).1
    omega
/-- how many rows of one road stand before a row -/
def rk (S : List (List Int)) (q : List Int) : Nat := ((S.take (S.idxOf q)).filter fun x => decide (hdI x = hdI q)).length
def cnt (S : List (List Int)) (i : Nat) (r : Int) : Nat := ((S.take i).filter fun x => decide (hdI x = r)).length
theorem nodup_inj {S : List (List Int)} (nd : S.Nodup) {i j : Nat} (hi : i < S.length) (hj : j < S.length) (e : S[i] = S[j]) : i = j := by
  have h := List.pairwise_iff_getElem.mp nd
  rcases Nat.lt_trichotomy i j with g | g | g
  · exact absurd e (h i j hi hj g)
  · exact g
  · exact absurd e.symm (h j i hj hi g)
theorem idx_ne {a b : List Int} {S : List (List Int)} (h : ¬ a = b) : (a :: S).idxOf b = S.idxOf b + 1 := by
  have g : (a == b) = false := by simpa using h
  rw [List.idxOf_cons, g]; rfl
theorem idx_at {S : List (List Int)} (nd : S.Nodup) {i : Nat} {q : List Int} (e : S[i]? = some q) : S.idxOf q = i := by
  obtain ⟨hi, e⟩ := List.getElem?_eq_some_iff.mp e
  have hm : q ∈ S := e ▸ List.getElem_mem hi
  have hj := List.idxOf_lt_length_iff.mpr hm
  have ej : S[S.idxOf q] = q := List.getElem_idxOf hj
  exact (nodup_inj nd hj hi) (ej.trans e.symm)
theorem rk_at {S : List (List Int)} (nd : S.Nodup) {i : Nat} {q : List Int} (e : S[i]? = some q) : rk S q = cnt S i (hdI q) := by
  unfold rk cnt
  rw [idx_at nd e]
theorem cnt_succ {S : List (List Int)} {i : Nat} {q : List Int} (e : S[i]? = some q) (r : Int) : cnt S (i + 1) r = cnt S i r + if hdI q = r then 1 else 0 := by
  unfold cnt
  rw [take_more e, List.filter_append, List.length_append]
  by_cases h : hdI q = r
  · rw [if_pos h, List.filter_cons_of_pos (by exact decide_eq_true h)]; rfl
  · rw [if_neg h, List.filter_cons_of_neg (by rw [decide_eq_false h]; decide)]; rfl
theorem cnt_le (S : List (List Int)) (i : Nat) (r : Int) : cnt S i r ≤ S.length := by
  unfold cnt
  refine Nat.le_trans (List.length_filter_le _ _) ?_
  rw [List.length_take]; omega
theorem rk_le (S : List (List Int)) (q : List Int) : rk S q ≤ S.length := by
  refine Nat.le_trans (List.length_filter_le _ _) ?_
  rw [List.length_take]; omega
/-- the rows of one road, without the road -/
def tAt (rd : Int) (k : Nat) (l : Lt) (r : List Int) (p : Nat) : List (List Int) := if ((l.1.getD p 0 : Nat) : Int) = rd then [[r.getD p 0, ((k : Nat) : Int), ((p : Nat) : Int)]] else []
def tLt (rd : Int) (k : Nat) (l : Lt) (r : List Int) (m : Nat) : List (List Int) := (List.range m).flatMap (tAt rd k l r)
def tAll (rd : Int) (ls : List Lt) (rows : List (List Int)) (m : Nat) : List (List Int) := (List.range m).flatMap fun k => tLt rd k (ls.getD k ([], 0)) (rows.getD k []) (ls.getD k ([], 0)).1.length
theorem tLt_succ (rd : Int) (k : Nat) (l : Lt) (r : List Int) (m : Nat) : tLt rd k l r (m + 1) = tLt rd k l r m ++ tAt rd k l r m := fm_succ _ _
theorem tAll_succ {rd : Int} {ls : List Lt} {rows : List (List Int)} {k : Nat} {l : Lt} {r : List Int} (e1 : ls[k]? = some l) (e2 : rows[k]? = some r) : tAll rd ls rows (k + 1) = tAll rd ls rows k ++ tLt rd k l r l.1.length := by
  have h1 : ls.getD k ([], 0) = l := by rw [List.getD_eq_getElem?_getD, e1]; rfl
  have h2 : rows.getD k [] = r := by rw [List.getD_eq_getElem?_getD, e2]; rfl
  unfold tAll
  rw [fm_succ, h1, h2]
def ofRoad (rd : Int) (S : List (List Int)) : List (List Int) := (S.filter fun x => decide (hdI x = rd)).map List.tail
theorem ofRoad_app (rd : Int) (S R : List (List Int)) : ofRoad rd (S ++ R) = ofRoad rd S ++ ofRoad rd R := by
  unfold ofRoad
  rw [List.filter_append, List.map_append]
theorem tLt_of (rd : Int) (k : Nat) (l : Lt) (r : List Int) : ∀ m, tLt rd k l r m = ofRoad rd (pLt k l r m)
  | 0 => rfl
  | m + 1 => by
    rw [tLt_succ, pLt_succ, ofRoad_app, tLt_of rd k l r m]
    congr 1
    unfold tAt ofRoad
    by_cases h : ((l.1.getD m 0 : Nat) : Int) = rd
    · rw [if_pos h, List.filter_cons_of_pos (by exact decide_eq_true h)]; rfl
    · rw [if_neg h, List.filter_cons_of_neg (by show ¬ decide (((l.1.getD m 0 : Nat) : Int) = rd) = true; rw [decide_eq_false h]; decide)]; rfl
theorem tAll_of (rd : Int) (ls : List Lt) (rows : List (List Int)) : ∀ m, tAll rd ls rows m = ofRoad rd (pAll ls rows m)
  | 0 => rfl
  | m + 1 => by
    have ih := tAll_of rd ls rows m
    unfold tAll pAll at ih ⊢
    rw [fm_succ, fm_succ, ofRoad_app, ih, tLt_of]
theorem idx_road {q : List Int} : ∀ {S : List (List Int)}, (∀ x ∈ S, hdI x = hdI q → x.tail = q.tail → x = q) → q ∈ S → (ofRoad (hdI q) S).idxOf q.tail = rk S q
  | [], _, h => nomatch h
  | x :: S, inj, h => by
    by_cases e : x = q
    · subst e
      unfold ofRoad rk
      rw [List.filter_cons_of_pos (by exact decide_eq_true rfl), List.map_cons, List.idxOf_cons_self, List.idxOf_cons_self]; rfl
    · have hm : q ∈ S := by
        rcases List.mem_cons.mp h with h | h
        · exact absurd h.symm e
        · exact h
      have ih := idx_road (S := S) (fun y hy => inj y (List.mem_cons_of_mem _ hy)) hm
      unfold ofRoad rk at ih ⊢
      rw [idx_ne e, List.take_succ_cons]
      by_cases g : hdI x = hdI q
      · rw [List.filter_cons_of_pos (by exact decide_eq_true g), List.filter_cons_of_pos (by exact decide_eq_true g), List.map_cons, List.length_cons, idx_ne (fun z => e (inj x (List.mem_cons_self ..) g z)), ih]
      · rw [List.filter_cons_of_neg (by rw [decide_eq_false g]; decide), List.filter_cons_of_neg (by rw [decide_eq_false g]; decide), ih]
theorem SrtOf_road {ls : List Lt} {rows : List (List Int)} {m : Nat} {S : List (List Int)} (h1 : S.Perm (pAll ls rows m)) (h2 : S.Pairwise fun x y => Pl.lexI y x = false) (rd : Int) :
    (ofRoad rd S).Perm (tAll rd ls rows m) ∧ (ofRoad rd S).Pairwise fun x y => Pl.lexI y x = false := by
  refine ⟨?_, ?_⟩
  · rw [tAll_of]
    exact (h1.filter _).map _
  · unfold ofRoad
    rw [List.pairwise_map]
    refine List.Pairwise.imp_of_mem ?_ (h2.filter _)
    intro x y hx hy h
    obtain ⟨hx1, hx2⟩ := List.mem_filter.mp hx
    obtain ⟨hy1, hy2⟩ := List.mem_filter.mp hy
    obtain ⟨k, p, _, _, rfl⟩ := mem_pAll.mp (h1.mem_iff.mp hx1)
    obtain ⟨k', p', _, _, rfl⟩ := mem_pAll.mp (h1.mem_iff.mp hy1)
    have e1 := of_decide_eq_true hx2
    have e2 := of_decide_eq_true hy2
    have e : hdI (pAt k' (ls.getD k' ([], 0)) (rows.getD k' []) p') = hdI (pAt k (ls.getD k ([], 0)) (rows.getD k []) p) := e2.trans e1.symm
    have h' : (if hdI (pAt k' (ls.getD k' ([], 0)) (rows.getD k' []) p') = hdI (pAt k (ls.getD k ([], 0)) (rows.getD k []) p) then Pl.lexI (pAt k' (ls.getD k' ([], 0)) (rows.getD k' []) p').tail (pAt k (ls.getD k ([], 0)) (rows.getD k []) p).tail else _) = false := h
    rw [if_pos e] at h'
    exact h'
theorem road_inj {ls : List Lt} {rows : List (List Int)} {m : Nat} {S : List (List Int)} (h1 : S.Perm (pAll ls rows m)) {q : List Int} (hq : q ∈ S) : ∀ x ∈ S, hdI x = hdI q → x.tail = q.tail → x = q := fun x hx e1 e2 => by
  obtain ⟨k, p, _, _, rfl⟩ := mem_pAll.mp (h1.mem_iff.mp hx)
  obtain ⟨k', p', _, _, rfl⟩ := mem_pAll.mp (h1.mem_iff.mp hq)
  have e1' : ((((ls.getD k ([], 0)).1.getD p 0 : Nat)) : Int) = (((ls.getD k' ([], 0)).1.getD p' 0 : Nat) : Int) := e1
  unfold pAt at e2 ⊢
  rw [e1']
  exact congrArg _ e2
/-- how the data of rows differ -/
theorem eqv_ints : ∀ p q : List Int, PyData.eqvAll (p.map PyData.int) (q.map PyData.int) = decide (p = q)
  | [], [] => by rw [decide_eq_true rfl]; simp [PyData.eqvAll]
  | [], _ :: _ => by rw [decide_eq_false (by simp)]; simp [PyData.eqvAll]
  | _ :: _, [] => by rw [decide_eq_false (by simp)]; simp [PyData.eqvAll]
  | x :: p, y :: q => by
    have ih := eqv_ints p q
    have e : PyData.eqv (.int x) (.int y) = decide (x = y) := by
      by_cases g : x = y
      · subst g; rw [decide_eq_true rfl]; simp [PyData.eqv]
      · rw [decide_eq_false g]; simpa [PyData.eqv] using g
    rw [List.map_cons, List.map_cons]
    simp only [PyData.eqvAll]
    rw [ih, e]
    by_cases g : x = y
    · subst g
      by_cases g2 : p = q
      · subst g2; simp
      · rw [decide_eq_false g2, decide_eq_false (fun z => g2 (List.cons.inj z).2), Bool.and_false]
    · rw [decide_eq_false g, decide_eq_false (fun z => g (List.cons.inj z).1), Bool.false_and]
end Hc


set_option Elab.async false
set_option linter.all false
set_option maxRecDepth 100000
set_option maxHeartbeats 1000000
set_option autoImplicit false
namespace PySem.W
open PySem PySem.Spec PyProof.Rows
section
variable {prog : Program} {w : World} {A : Around} {E : Value → Shared → Prop} {s : Shared} {K : Frag} {x C L f : Addr} {h₀ : Heap} {m : Str → Option Value} {ox : Obj} {od : Option Obj} {name : Str} {b tb : Value}
theorem ifBound_KB {M : Model} {args : List Value} {id : String} {Q : Option Value → Shared → Prop} (X : K.In s.heap) (I : InstAt s.heap x ox C od) (hs : findIn K (.ref C) name = some (some (.builtin id))) (hb : ∀ self, bindSpecial (.builtin id) self = pure (.builtin id, [self]))
    (h : wpAny M A (call (.builtin id) (.ref x :: args)) (fun v => Q (some v)) E s) : wpAny M A (callSpecialIfBound? (.ref x) name args) Q E s := by
  simp only [callSpecialIfBound?, bindSpecialIfBound?]
  refine wpAny_holding (wpAny_bind (wpAny_bind (wpAny_bind (I.type.here ((looks_findIn X hs).here ?_)))))
  simp only [hb]
  refine wpAny_bind (wpAny_askSetting (wpAny_ite ?_))
  have fin : wpAny M A (call (.builtin id) ([.ref x] ++ args) >>= fun v => pure (some v)) Q E s := wpAny_bind (wpAny_mono h (fun v s' h' => wpAny_pure h') fun _ _ h' => h')
  split
  · exact wpAny_bind (wpAny_pure (wpAny_pure fin))
  · exact wpAny_tryCatch (wpAny_bind (wpAny_pure (wpAny_pure fin)))
theorem objNe_entry_K (X : K.In s.heap) (I : InstAt s.heap x ox C od) (hs : findIn K (.ref C) "__eq__" = some (some (.ref f))) (hf : isFn K (.ref f) = true) (hu : A.units < cLine) {Q : Fin → Shared → Prop}
    (hcall : wpAny (model prog w) A (call (.ref f) [.ref x, b]) (fun v s' => ∃ c, v = .bool c ∧ Q (.done (.ret (.bool (!c)))) s') E s) :
    wpAny (model prog w) A (Builtin.«object.__ne__» ⟨[.ref x, b], []⟩) Q E s := by
  unfold Builtin.«object.__ne__»
  repeat (first
    | with_reducible refine wpAny_cRoomFor hu ?_
    | (refine wpAny_bind (m := callSpecialIfBound? (.ref x) (Str.ofString "__eq__") [b])
        (ifBound_K X I hs hf (wpAny_mono hcall (fun r s' hr => by
          obtain ⟨c, rfl, hq⟩ := hr
          repeat (first | exact hq | exact wpAny_pure hq | exact wpAny_truthy_bool hq | (refine wpAny_bind (m := truthy (.bool _)) (wpAny_truthy_bool ?_)) | wp_step)) fun _ _ e => e)))
    | wp_step)
theorem check_slot_K {M : Model} {id owner n : String} {rest : List Value} {Q : Unit → Shared → Prop} (X : K.In s.heap) (I : InstAt s.heap x ox C od) (hk : builtinKind id = some .slot) (hs : splitId id = some (owner, n))
    (ha : argsOk id ⟨.ref x :: rest, []⟩) (hsub : subIn K (.ref C) (.type owner) = some true) (hq : Q () s) :
    wpAny M A (checkBuiltinCall id ⟨.ref x :: rest, []⟩) Q E s := by
  simp only [checkBuiltinCall, hk, hs]
  refine wpAny_bind ?_
  · unfold isInstance
    refine wpAny_bind (I.type.here ?_)
    refine (looks_subIn X hsub).here ?_
    cases hsig : Manifest.signature? id with
    | none => repeat (first | exact wpAny_pure hq | exact hq | wp_step)
    | some sig =>
      simp only [argsOk, hsig] at ha
      have h2 : Bind.checkArgs id sig ⟨.ref x :: rest, []⟩ = pure () := ha
      repeat (first | (rw [h2]; exact wpAny_pure hq) | exact wpAny_pure hq | exact hq | wp_step)
theorem ne_K {Q : Value → Shared → Prop} (hu : A.units + 1 < cLine) (F : Fr h₀ L s.heap m) (X₀ : K.In h₀) (I : InstAt s.heap x ox C od) (hb : Looks (model prog w) s.heap (typeOf b) tb) (hn : notFirst K C tb = true)
    (hs : findIn K (.ref C) "__eq__" = some (some (.ref f))) (hf : isFn K (.ref f) = true) (hne : findIn K (.ref C) "__ne__" = some (some (.builtin "object.__ne__"))) (hsub : subIn K (.ref C) (.type "object") = some true)
    (h : wpAny (model prog w) A.in1 (call (.ref f) [.ref x, b]) (fun v s' => ∃ c, v = .bool c ∧ Q (.bool (!c)) s') E s) : wpAny (model prog w) A (richCompare .NotEq (.ref x) b) Q E s := by
  have X := X₀.keeps F.keep
  have one : wpAny (model prog w) A (tryCompare (.ref x) "__ne__" b) (fun r s' => ∃ v, r = some v ∧ Q v s') E s := by
    simp only [tryCompare]
    refine wpAny_bind (ifBound_KB X I hne PySem.F.cmp_object.ne.bind (wpAny_call (codeAny_call_builtin PySem.F.cmp_object.ne.plain PySem.F.cmpEntry_ne
      (check_slot_K X I PySem.F.cmpKind_ne PySem.F.cmpSplit_ne (PySem.F.cmpArgs_ne _ _) hsub (objNe_entry_K (A := A.in1) X I hs hf hu (wpAny_mono h (fun v s' hv => ?_) fun _ _ e => e))))))
    obtain ⟨c, rfl, hq⟩ := hv
    first | exact ⟨c, rfl, wpAny_pure ⟨_, rfl, hq⟩⟩ | exact ⟨c, rfl, wpAny_pure (wpAny_pure ⟨_, rfl, hq⟩)⟩
  unfold richCompare
  simp only [oneThing_ref]
  refine wpAny_holding (wpAny_bind (wpAny_cRoomFor (Nat.lt_of_succ_lt hu) ?_))
  refine wpAny_bind (I.type.here (wpAny_bind (hb.here ?_)))
  split
  · rename_i q
    have e : subIn K tb (.ref C) = some false := by
      rcases Bool.or_eq_true_iff.mp hn with e | e
      · rw [beq_iff_eq.mp e] at q; simp at q
      · exact beq_iff_eq.mp e
    refine wpAny_bind ((looks_subIn X e).here ?_)
    simp only [Bool.false_eq_true, if_false]
    refine wpAny_bind (wpAny_mono one (fun r s' z => ?_) fun _ _ e => e)
    obtain ⟨v, rfl, hq⟩ := z
    exact wpAny_pure hq
  · refine wpAny_bind (wpAny_pure ?_)
    simp only [Bool.false_eq_true, if_false]
    refine wpAny_bind (wpAny_mono one (fun r s' z => ?_) fun _ _ e => e)
    obtain ⟨v, rfl, hq⟩ := z
    exact wpAny_pure hq
end
end PySem.W
namespace L2
open PySem PySem.Spec PyProof.Rows
/-- a call of an own def from within a built-in one -/
theorem run_fnR1 {X : Cx} {pins : List (Addr × Obj)} {σ : St} {H : Hp} {s : Shared} {CX : CXT} {k : Nat} {f : Addr} {sp : Sp} {E : XK} {Q : VK} {us : List Value} {vs : List V} (F : FnR X.prog X.w X.K X.mg X.base CX k f sp) (hr : Room (k + 1) X.A) (hx : Passes CX X E) (I : Inv X pins σ H s) (r : Vals vs us) (h : sp vs H Q E) :
    codeAny (model X.prog X.w) X.A.in1 (.call (.ref f) ⟨us, []⟩) (fun r s' => match r with | .ok (.ret v) => EP X pins σ Q v s' | .ok _ => False | .error e => X.xe e s') s := by
  refine codeAny_mono (F X.A.in1 X.stack s H us vs Q E hr.in1 I.env0.in1 r h) fun r s' hq => ?_
  cases r with
  | error e => exact hx pins σ H s e s' I hq
  | ok fl =>
    cases fl with
    | ret u => exact I.after hq
    | next => exact False.elim hq
    | brk => exact False.elim hq
    | cont => exact False.elim hq
/-- x == y, x an instance of the own class at C whose __eq__ is at f, y of any type T that is not below C -/
def rEqO (K : PySem.W.Frag) (C : Addr) (sp : Sp) (E : XK) : R2 := fun x y H Q => ∃ a dx fs t, x = .ref a ∧ H a = some (.ins C dx fs) ∧ TyX K H y t ∧ PySem.W.notFirst K C t = true ∧ sp [x, y] H Q E
theorem op_eqO {X : Cx} {CX : CXT} {C f : Addr} {sp : Sp} {E : XK} {n : Nat} (F : FnR X.prog X.w X.K X.mg X.base CX n f sp)
    (hs : PySem.W.findIn X.K (.ref C) "__eq__" = some (some (.ref f))) (hf : PySem.W.isFn X.K (.ref f) = true) (hr : Room n X.A) (hx : Passes CX X E) : OpR X (compareOp .Eq) (rEqO X.K C sp E) := by
  intro pins s σ H x y v u Q I rx ry h
  obtain ⟨a, dx, fs, t, rfl, ha, ht, hn, q⟩ := h
  cases (show v = Value.ref a from rx)
  obtain ⟨mA, J, _⟩ := ins_get I.hok ha
  obtain ⟨od, J, _⟩ := J.look
  obtain ⟨P, Z, p, _⟩ := kit_of I ry ht
  obtain ⟨m, hF⟩ := I.fr
  show wpAny (model X.prog X.w) X.A (richCompare .Eq (.ref a) u) _ _ _
  refine PySem.W.cmp_K (op := .Eq) (tb := t) hr.units0 hF I.ok.mod.kin J (Z.ty _ _ I.kIn p) hn hs hf ?_
  refine wpAny_mono (wpAny_call (run_fnR (us := [.ref a, u]) (vs := [.ref a, y]) F hr hx I (.cons rfl (.cons ry .nil)) q)) (fun w s' z => ?_) fun _ _ x => x
  obtain ⟨z', H', I', rz, qz⟩ := z
  exact SlX.cmpback rz ⟨z', H', I', rz, qz⟩
/-- x != y, by the same __eq__ -/
def rNeO (K : PySem.W.Frag) (C : Addr) (sp : Sp) (E : XK) : R2 := fun x y H Q => ∃ a dx fs t, x = .ref a ∧ H a = some (.ins C dx fs) ∧ TyX K H y t ∧ PySem.W.notFirst K C t = true ∧ sp [x, y] H (fun v H' => ∃ c, v = .bl c ∧ Q (.bl (!c)) H') E
theorem op_neO {X : Cx} {CX : CXT} {C f : Addr} {sp : Sp} {E : XK} {n : Nat} (F : FnR X.prog X.w X.K X.mg X.base CX n f sp)
    (hs : PySem.W.findIn X.K (.ref C) "__eq__" = some (some (.ref f))) (hf : PySem.W.isFn X.K (.ref f) = true) (hne : PySem.W.findIn X.K (.ref C) "__ne__" = some (some (.builtin "object.__ne__"))) (hsub : PySem.W.subIn X.K (.ref C) (.type "object") = some true)
    (hr : Room (n + 1) X.A) (hx : Passes CX X E) : OpR X (compareOp .NotEq) (rNeO X.K C sp E) := by
  intro pins s σ H x y v u Q I rx ry h
  obtain ⟨a, dx, fs, t, rfl, ha, ht, hn, q⟩ := h
  cases (show v = Value.ref a from rx)
  obtain ⟨mA, J, _⟩ := ins_get I.hok ha
  obtain ⟨od, J, _⟩ := J.look
  obtain ⟨P, Z, p, _⟩ := kit_of I ry ht
  obtain ⟨m, hF⟩ := I.fr
  show wpAny (model X.prog X.w) X.A (richCompare .NotEq (.ref a) u) _ _ _
  refine PySem.W.ne_K (tb := t) hr.in1.units0 hF I.ok.mod.kin J (Z.ty _ _ I.kIn p) hn hs hf hne hsub ?_
  refine wpAny_mono (wpAny_call (run_fnR1 (us := [.ref a, u]) (vs := [.ref a, y]) F hr hx I (.cons rfl (.cons ry .nil)) q)) (fun w s' z => ?_) fun _ _ x => x
  obtain ⟨z', H', I', rz, c, rfl, qz⟩ := z
  exact ⟨c, rz, .bl (!c), H', I', rfl, qz⟩
end L2


set_option Elab.async false
set_option linter.all false
set_option maxRecDepth 100000
set_option maxHeartbeats 1000000
set_option autoImplicit false
namespace Hc
open PySem L2
/-! things of ints, None and tuples, at most n deep, as data -/
def isIn : Nat → D → Bool
  | _, .int _ => true
  | _, .non => true
  | n + 1, .tup ds => ds.all (isIn n)
  | _, _ => false
def pDn : Nat → D → PyData
  | _, .int i => .int i
  | n + 1, .tup ds => .tuple (ds.map (pDn n))
  | _, _ => .none
theorem isIn_tup {n : Nat} {ds : List D} : isIn (n + 1) (.tup ds) = ds.all (isIn n) := rfl
theorem isIn_int {n : Nat} {i : Int} : isIn n (.int i) = true := by cases n <;> rfl
theorem isIn_non {n : Nat} : isIn n .non = true := by cases n <;> rfl
theorem pDn_tup {n : Nat} {ds : List D} : pDn (n + 1) (.tup ds) = .tuple (ds.map (pDn n)) := rfl
theorem pDn_int {n : Nat} {i : Int} : pDn n (.int i) = .int i := by cases n <;> rfl
theorem pDn_non {n : Nat} : pDn n .non = .none := by cases n <;> rfl
theorem isIn_ints {n : Nat} (l : List Int) : (l.map D.int).all (isIn n) = true := by
  rw [List.all_eq_true]
  intro d hd
  obtain ⟨i, _, rfl⟩ := List.mem_map.mp hd
  exact isIn_int
theorem layP : ∀ n : Nat, ∀ d : D, (pDn n d).canLay0 = true ∧ (pDn n d).depth ≤ n
  | n, .int i => by rw [pDn_int]; exact ⟨rfl, Nat.zero_le _⟩
  | n, .non => by rw [pDn_non]; exact ⟨rfl, Nat.zero_le _⟩
  | 0, .str s => ⟨rfl, Nat.zero_le _⟩
  | n + 1, .str s => ⟨rfl, Nat.zero_le _⟩
  | 0, .bl b => ⟨rfl, Nat.zero_le _⟩
  | n + 1, .bl b => ⟨rfl, Nat.zero_le _⟩
  | 0, .lst => ⟨rfl, Nat.zero_le _⟩
  | n + 1, .lst => ⟨rfl, Nat.zero_le _⟩
  | 0, .dct => ⟨rfl, Nat.zero_le _⟩
  | n + 1, .dct => ⟨rfl, Nat.zero_le _⟩
  | 0, .tup ds => ⟨rfl, Nat.zero_le _⟩
  | n + 1, .tup ds => by
    have key : ∀ ds : List D, PyData.canLayAll0 (ds.map (pDn n)) = true ∧ PyData.depthAll (ds.map (pDn n)) ≤ n := by
      intro ds
      induction ds with
      | nil => exact ⟨rfl, Nat.zero_le _⟩
      | cons d ds ih =>
        obtain ⟨h3, h4⟩ := layP n d
        refine ⟨?_, ?_⟩
        · show ((pDn n d).canLay0 && PyData.canLayAll0 (ds.map (pDn n))) = true
          rw [h3, ih.1]; rfl
        · show max (pDn n d).depth (PyData.depthAll (ds.map (pDn n))) ≤ n
          omega
    refine ⟨(key ds).1, ?_⟩
    show PyData.depthAll (ds.map (pDn n)) + 1 ≤ n + 1
    have := (key ds).2
    omega
theorem shP {n : Nat} (h : n ≤ 64) (d : D) : SeqAt.shaped (pDn n d) = true := by
  obtain ⟨h1, h2⟩ := layP n d
  show ((pDn n d).canLay0 && decide ((pDn n d).depth ≤ 64)) = true
  rw [h1, decide_eq_true (by omega)]; rfl
theorem eqP : ∀ (n : Nat) (a b : D), isIn n a = true → isIn n b = true → (PyData.eqv (pDn n a) (pDn n b) = true ↔ a = b) := by
  intro n
  induction n with
  | zero =>
    intro a b ha hb
    cases a <;> cases b <;> simp_all [isIn, pDn, PyData.eqv]
  | succ n ih =>
    intro a b ha hb
    have key : ∀ xs ys : List D, xs.all (isIn n) = true → ys.all (isIn n) = true → (PyData.eqvAll (xs.map (pDn n)) (ys.map (pDn n)) = true ↔ xs = ys) := by
      intro xs
      induction xs with
      | nil =>
        intro ys _ _
        cases ys with
        | nil => simp [PyData.eqvAll]
        | cons y ys => simp [PyData.eqvAll]
      | cons x xs ih2 =>
        intro ys hx hy
        cases ys with
        | nil => simp [PyData.eqvAll]
        | cons y ys =>
          rw [List.all_cons, Bool.and_eq_true] at hx hy
          rw [List.map_cons, List.map_cons]
          simp only [PyData.eqvAll, Bool.and_eq_true, List.cons.injEq]
          rw [ih x y hx.1 hy.1, ih2 ys hx.2 hy.2]
    cases a with
    | tup xs =>
      cases b with
      | tup ys =>
        have e : PyData.eqv (pDn (n + 1) (.tup xs)) (pDn (n + 1) (.tup ys)) = PyData.eqvAll (xs.map (pDn n)) (ys.map (pDn n)) := by
          rw [pDn_tup, pDn_tup]; simp only [PyData.eqv]
        rw [e, key xs ys ha hb]
        constructor
        · intro h; rw [h]
        · intro h; injection h
      | _ => simp_all [isIn, pDn, PyData.eqv]
    | _ => cases b <;> simp_all [isIn, pDn, PyData.eqv]
section
variable {K : PySem.W.Frag} {H : Hp} {h : Addr}
theorem dpP : ∀ (n : Nat) {v : V} {d : D}, Rp H h v d → isIn n d = true → Dp K H v (pDn n d) := by
  intro n
  induction n with
  | zero =>
    intro v d r i
    cases r with
    | non => exact .non
    | int j => exact .int j
    | _ => exact Bool.noConfusion i
  | succ n ih =>
    intro v d r i
    cases r with
    | non => exact .non
    | int j => exact .int j
    | @tup a xs ds e z ra =>
      refine .tup (SqT.of e) ?_
      have i : ds.all (isIn n) = true := i
      clear e z
      induction ds generalizing xs with
      | nil => cases ra; exact .nil
      | cons d ds ih2 =>
        cases ra with
        | cons r1 r2 =>
          rw [List.all_cons, Bool.and_eq_true] at i
          exact .cons (ih r1 i.1) (ih2 r2 i.2 i.2)
    | _ => exact Bool.noConfusion i
theorem eqDP {n : Nat} (hn : n ≤ 64) {v w : V} {a b : D} {Q : VK} (r1 : Rp H h v a) (r2 : Rp H h w b) (i1 : isIn n a = true) (i2 : isIn n b = true) (k : ∀ c : Bool, (c = true ↔ a = b) → Q (.bl c) H) : rEqD K v w H Q :=
  ⟨_, _, dpP n r1 i1, dpP n r2 i2, shP hn a, shP hn b, k _ (eqP n a b i1 i2)⟩
theorem neDP {n : Nat} (hn : n ≤ 64) {v w : V} {a b : D} {Q : VK} (r1 : Rp H h v a) (r2 : Rp H h w b) (i1 : isIn n a = true) (i2 : isIn n b = true) (k : ∀ c : Bool, (c = true ↔ a ≠ b) → Q (.bl c) H) : rNeD K v w H Q := by
  refine ⟨_, _, dpP n r1 i1, dpP n r2 i2, shP hn a, shP hn b, k _ ?_⟩
  have := eqP n a b i1 i2
  rw [Bool.not_eq_true']
  constructor
  · intro z e
    rw [this.mpr e] at z; cases z
  · intro z
    cases g : PyData.eqv (pDn n a) (pDn n b) with
    | false => rfl
    | true => exact absurd (this.mp g) z
end
end Hc


set_option Elab.async false
set_option linter.all false
set_option maxRecDepth 100000
set_option maxHeartbeats 1000000
set_option autoImplicit false
namespace L2
open PySem PySem.Spec PyProof.Rows
/-- one of two readings -/
theorem op_alt {X : Cx} {f : Value → Value → Sem Value} {r1 r2 : R2} (a : OpR X f r1) (b : OpR X f r2) : OpR X f (fun x y H Q => r1 x y H Q ∨ r2 x y H Q) := by
  intro pins s σ H x y v u Q I rx ry h
  rcases h with h | h
  · exact a pins s σ H x y v u Q I rx ry h
  · exact b pins s σ H x y v u Q I rx ry h
end L2
namespace Hc
open PySem L2
theorem isIn_noL : ∀ (n : Nat) {d : D}, isIn n d = true → noL d = true := by
  intro n
  induction n with
  | zero =>
    intro d i
    cases d with
    | int j => rfl
    | non => rfl
    | _ => exact Bool.noConfusion i
  | succ n ih =>
    intro d i
    cases d with
    | int j => rfl
    | non => rfl
    | tup ds =>
      have i : ds.all (isIn n) = true := i
      show noLs ds = true
      induction ds with
      | nil => rfl
      | cons d ds ih2 =>
        rw [List.all_cons, Bool.and_eq_true] at i
        show (noL d && noLs ds) = true
        rw [ih i.1, ih2 i.2]
        · rfl
        · exact i.2
    | _ => exact Bool.noConfusion i
theorem isIn_rds {n : Int} : ∀ {rds : List D}, rds.all (isBE n) = true → rds.all (isIn 1) = true
  | [], _ => rfl
  | d :: rds, e => by
    rw [List.all_cons, Bool.and_eq_true] at e
    obtain ⟨a, b, rfl, _⟩ := be_full e.1
    rw [List.all_cons, isIn_rds e.2]; rfl
theorem isIn_lt (l : Lt) : isIn 2 (ltD l) = true := by
  show ((isIn 1 (nD l.1)) && (isIn 1 (.int l.2) && true)) = true
  have h : isIn 1 (nD l.1) = true := by
    show (l.1.map fun j => D.int (j : Nat)).all (isIn 0) = true
    rw [List.all_eq_true]
    intro d hd
    obtain ⟨j, _, rfl⟩ := List.mem_map.mp hd
    rfl
  rw [h]; rfl
theorem isIn_lts (ls : List Lt) : isIn 3 (ltsD ls) = true := by
  show (ls.map ltD).all (isIn 2) = true
  rw [List.all_eq_true]
  intro d hd
  obtain ⟨l, _, rfl⟩ := List.mem_map.mp hd
  exact isIn_lt l
theorem isIn_rows (rows : List (List Int)) : isIn 3 (rowsD rows) = true := by
  show (rows.map rowD).all (isIn 2) = true
  rw [List.all_eq_true]
  intro d hd
  obtain ⟨r, _, rfl⟩ := List.mem_map.mp hd
  exact isIn_ints r
theorem wF_h (v1 v2 v3 v4 : V) : (webF v1 v2 v3 v4).lookup ("houses" : Str) = some v1 := by
  have h1 : ¬ (("houses" : Str) = "times") := by decide +kernel
  have h2 : ¬ (("houses" : Str) = "rooms") := by decide +kernel
  have h3 : ¬ (("houses" : Str) = "roads") := by decide +kernel
  unfold webF
  rw [lookup_putF, if_neg h1, lookup_putF, if_neg h2, lookup_putF, if_neg h3, lookup_putF, if_pos rfl]
theorem dF_w (v1 v2 v3 : V) : (dayF v1 v2 v3).lookup ("web" : Str) = some v1 := by
  unfold dayF
  rw [lookup_putF, if_neg ne_wh, lookup_putF, if_neg ne_wl, lookup_putF, if_pos rfl]
theorem dF_l (v1 v2 v3 : V) : (dayF v1 v2 v3).lookup ("letters" : Str) = some v2 := by
  unfold dayF
  rw [lookup_putF, if_neg (fun z => ne_hl z), lookup_putF, if_pos rfl]
theorem dF_h (v1 v2 v3 : V) : (dayF v1 v2 v3).lookup ("hours" : Str) = some v3 := by
  unfold dayF
  rw [lookup_putF, if_pos rfl]
/-- a web's object, all its parts known -/
structure WebX (C : Addr) (H : Hp) (h p : Addr) (n : Int) (rds : List D) (rm tm : List Int) : Prop where
  ex : ∃ (dx : Addr) (v2 v3 v4 : V), H p = some (.ins C dx (webF (.int n) v2 v3 v4)) ∧ Rp H h v2 (.tup rds) ∧ Rp H h v3 (.tup (rm.map D.int)) ∧ Rp H h v4 (.tup (tm.map D.int))
  w : WebR C H h p n rds rm tm
theorem WebX.nl {C : Addr} {H H' : Hp} {h p : Addr} {n : Int} {rds : List D} {rm tm : List Int} (x : WebX C H h p n rds rm tm) (k : NL H H') : WebX C H' h p n rds rm tm := by
  obtain ⟨dx, v2, v3, v4, e, r2, r3, r4⟩ := x.ex
  exact ⟨⟨dx, v2, v3, v4, k _ _ e (fun _ z => by cases z), r2.nl k (noL_be x.w.all), r3.nl k (noL_int _), r4.nl k (noL_int _)⟩, x.w.nl k⟩
theorem WebX.same {C : Addr} {H H' : Hp} {h p : Addr} {n : Int} {rds : List D} {rm tm : List Int} (x : WebX C H h p n rds rm tm) (s : Same H H') : WebX C H' h p n rds rm tm := x.nl (NL.of s)
/-- a day's object, all its parts known -/
structure DayX (C CW : Addr) (H : Hp) (h p : Addr) (n : Int) (rds : List D) (rm tm : List Int) (dl dh : D) : Prop where
  ex : ∃ (dx : Addr) (fs : List (Str × V)) (pw : Addr) (v2 v3 : V), H p = some (.ins C dx fs) ∧ fs.length ≤ 100 ∧ fs.lookup ("web" : Str) = some (.ref pw) ∧ fs.lookup ("letters" : Str) = some v2 ∧ fs.lookup ("hours" : Str) = some v3 ∧ WebX CW H h pw n rds rm tm ∧ Rp H h v2 dl ∧ Rp H h v3 dh
  il : isIn 3 dl = true
  ih : isIn 3 dh = true
theorem DayX.nl {C CW : Addr} {H H' : Hp} {h p : Addr} {n : Int} {rds : List D} {rm tm : List Int} {dl dh : D} (x : DayX C CW H h p n rds rm tm dl dh) (k : NL H H') : DayX C CW H' h p n rds rm tm dl dh := by
  obtain ⟨dx, fs, pw, v2, v3, e, l1, fw, fl, fh, W, r2, r3⟩ := x.ex
  exact ⟨⟨dx, fs, pw, v2, v3, k _ _ e (fun _ z => by cases z), l1, fw, fl, fh, W.nl k, r2.nl k (isIn_noL 3 x.il), r3.nl k (isIn_noL 3 x.ih)⟩, x.il, x.ih⟩
theorem DayX.same {C CW : Addr} {H H' : Hp} {h p : Addr} {n : Int} {rds : List D} {rm tm : List Int} {dl dh : D} (x : DayX C CW H h p n rds rm tm dl dh) (s : Same H H') : DayX C CW H' h p n rds rm tm dl dh := x.nl (NL.of s)
theorem DayX.o {C CW : Addr} {H : Hp} {h p : Addr} {n : Int} {rds : List D} {rm tm : List Int} {ls : List Lt} {rows : List (List Int)} (x : DayX C CW H h p n rds rm tm (ltsD ls) (rowsD rows)) : DayO C CW H h p n rds rm tm ls rows := by
  obtain ⟨dx, fs, pw, v2, v3, e, l1, fw, fl, fh, W, r2, r3⟩ := x.ex
  exact ⟨dx, fs, pw, v2, v3, e, l1, fw, fl, fh, W.w, r2, r3⟩
section
variable {P : Program} {w : World} {K : PySem.W.Frag} {mg : Str → Option Value} {base : Heap}
def spWebEq (K : PySem.W.Frag) (C : Addr) : Sp := fun vs H Q _ =>
  (∃ (h p q : Addr) (n n' : Int) (rds rds' : List D) (rm tm rm' tm' : List Int), vs = [.ref p, .ref q] ∧ WebX C H h p n rds rm tm ∧ WebX C H h q n' rds' rm' tm' ∧ ∀ c : Bool, (c = true ↔ (n = n' ∧ rds = rds' ∧ rm = rm' ∧ tm = tm')) → Q (.bl c) H) ∨
  (∃ (p : Addr) (y : V) (t : Value), vs = [.ref p, y] ∧ TyX K H y t ∧ PySem.W.kitOne K t (.ref C) = some false ∧ Q (.bl false) H)
theorem tup_eq {a b : List D} : (D.tup a = D.tup b) ↔ a = b := ⟨fun e => by injection e, fun e => by rw [e]⟩
theorem ok_Web___eq (T : Tx K mg) : FnOk P w K mg base CX0 1 T.e_Web.f T.e_Web.fd ["self", "other"] (spWebEq K T.Web.C) := by
  refine T.e_Web.F.ok sc_Web___eq (fun vs H Q E h => ?_) (fun cdv A outer s H vs Q E hr h => ?_)
  · rcases h with ⟨_, _, _, _, _, _, _, _, _, _, _, rfl, _⟩ | ⟨_, _, _, rfl, _⟩ <;> rfl
  · rcases h with ⟨h, p, q, n, n', rds, rds', rm, tm, rm', tm', rfl, W, W', k⟩ | ⟨p, y, t, rfl, ty, hk, k⟩
    · obtain ⟨dx, v2, v3, v4, ep, r2, r3, r4⟩ := W.ex
      obtain ⟨dx', v2', v3', v4', ep', r2', r3', r4'⟩ := W'.ex
      refine ⟨_, (pss_one (ps_ret (pe_and (pe_callB call_isi (by rfl) T.n_isinstance (by decide +kernel) (pa_cons (pv 1) (pa_cons (pe_glob (v := .ref T.Web.C) rfl T.Web.g rfl) pa_nil))) (pe_and (pe_cmpR op_eq (pe_fld (pv 0) rfl) (pe_fld (pv 1) rfl) (nomark _)) (pe_and (pe_cmpR (op_eqD hr.units) (pe_fld (pv 0) rfl) (pe_fld (pv 1) rfl) (nomark _)) (pe_and (pe_cmpR (op_eqD hr.units) (pe_fld (pv 0) rfl) (pe_fld (pv 1) rfl) (nomark _)) (pe_one (pe_cmpR (op_eqD hr.units) (pe_fld (pv 0) rfl) (pe_fld (pv 1) rfl) (nomark _))))))))), ?_⟩
      have no : ∀ f ∈ (["houses", "roads", "rooms", "times"] : List Str), NoAttr K T.Web.C f := T.Web.no
      refine ⟨_, rfl, _, _, _, _, _, rfl, .own _, .base (.ins ep' T.Web.cl T.e_Web.ha T.e_Web.hn T.e_Web.ht T.e_Web.hm), T.e_Web.k, _, rfl, iteT ?_⟩
      refine ⟨_, rfl, p, T.Web.C, dx, _, _, rfl, ep, T.Web.cl, no _ (by simp), wF_h _ _ _ _, _, rfl, q, T.Web.C, dx', _, _, rfl, ep', T.Web.cl, no _ (by simp), wF_h _ _ _ _, rfl, _, rfl, ?_⟩
      rw [int_eqd]
      by_cases e1 : n = n'
      · rw [decide_eq_true e1]
        refine iteT ⟨_, rfl, p, T.Web.C, dx, _, _, rfl, ep, T.Web.cl, no _ (by simp), wF_r _ _ _ _, _, rfl, q, T.Web.C, dx', _, _, rfl, ep', T.Web.cl, no _ (by simp), wF_r _ _ _ _, ?_⟩
        refine eqDP (n := 2) (by decide) r2 r2' (isIn_rds W.w.all) (isIn_rds W'.w.all) fun c2 h2 => ⟨_, rfl, ?_⟩
        rw [tup_eq] at h2
        cases c2 with
        | false => exact iteF (k false ⟨fun z => (by cases z), fun z => h2.mpr z.2.1⟩)
        | true =>
        have h2 := h2.mp rfl
        refine iteT ⟨_, rfl, p, T.Web.C, dx, _, _, rfl, ep, T.Web.cl, no _ (by simp), wF_m _ _ _ _, _, rfl, q, T.Web.C, dx', _, _, rfl, ep', T.Web.cl, no _ (by simp), wF_m _ _ _ _, ?_⟩
        refine eqDP (n := 2) (by decide) r3 r3' (isIn_ints rm) (isIn_ints rm') fun c3 h3 => ⟨_, rfl, ?_⟩
        rw [tup_eq] at h3
        cases c3 with
        | false => exact iteF (k false ⟨fun z => (by cases z), fun z => h3.mpr (by rw [z.2.2.1])⟩)
        | true =>
        have h3 := int_map_inj (h3.mp rfl)
        refine iteT ⟨_, rfl, p, T.Web.C, dx, _, _, rfl, ep, T.Web.cl, no _ (by simp), wF_t _ _ _ _, _, rfl, q, T.Web.C, dx', _, _, rfl, ep', T.Web.cl, no _ (by simp), wF_t _ _ _ _, ?_⟩
        refine eqDP (n := 2) (by decide) r4 r4' (isIn_ints tm) (isIn_ints tm') fun c4 h4 => k c4 ?_
        rw [tup_eq] at h4
        exact ⟨fun z => ⟨e1, h2, h3, int_map_inj (h4.mp z)⟩, fun z => h4.mpr (by rw [z.2.2.2])⟩
      · rw [decide_eq_false e1]
        exact iteF (k false ⟨fun z => (by cases z), fun z => absurd z.1 e1⟩)
    · refine ⟨_, (pss_one (ps_ret (pe_and (pe_callB call_isi (by rfl) T.n_isinstance (by decide +kernel) (pa_cons (pv 1) (pa_cons (pe_glob (v := .ref T.Web.C) rfl T.Web.g rfl) pa_nil))) (pe_and (pe_cmpR op_eq (pe_fld (pv 0) rfl) (pe_fld (pv 1) rfl) (nomark _)) (pe_and (pe_cmpR (op_eqD hr.units) (pe_fld (pv 0) rfl) (pe_fld (pv 1) rfl) (nomark _)) (pe_and (pe_cmpR (op_eqD hr.units) (pe_fld (pv 0) rfl) (pe_fld (pv 1) rfl) (nomark _)) (pe_one (pe_cmpR (op_eqD hr.units) (pe_fld (pv 0) rfl) (pe_fld (pv 1) rfl) (nomark _))))))))), ?_⟩
      exact ⟨_, rfl, _, _, _, _, _, rfl, .own _, ty, hk, _, rfl, iteF k⟩
theorem webEqR (T : Tx K mg) : FnR P w K mg base CX0 1 T.e_Web.f (spWebEq K T.Web.C) := by
  exact (FnOk.raw (ok_Web___eq (P := P) (w := w) (base := base) T) T.e_Web.b .nil).imp fun vs H Q E q => by rw [List.append_nil]; exact q
theorem nfSelf {K : PySem.W.Frag} {C : Addr} : PySem.W.notFirst K C (.ref C) = true := by
  unfold PySem.W.notFirst
  simp
theorem nfOf {K : PySem.W.Frag} {C : Addr} {t : Value} (h : PySem.W.subIn K t (.ref C) = some false) : PySem.W.notFirst K C t = true := by
  unfold PySem.W.notFirst
  rw [h]; simp
theorem webTy (T : Tx K mg) {H : Hp} {h p : Addr} {n : Int} {rds : List D} {rm tm : List Int} (W : WebX T.Web.C H h p n rds rm tm) : TyX K H (.ref p) (.ref T.Web.C) := by
  obtain ⟨dx, v2, v3, v4, ep, _⟩ := W.ex
  exact .base (.ins ep T.Web.cl T.e_Web.ha T.e_Web.hn T.e_Web.ht T.e_Web.hm)
theorem eqWW (T : Tx K mg) {H : Hp} {h p q : Addr} {n n' : Int} {rds rds' : List D} {rm tm rm' tm' : List Int} {Q : VK} {E : XK} (W : WebX T.Web.C H h p n rds rm tm) (W' : WebX T.Web.C H h q n' rds' rm' tm')
    (k : ∀ c : Bool, (c = true ↔ (n = n' ∧ rds = rds' ∧ rm = rm' ∧ tm = tm')) → Q (.bl c) H) : rEqO K T.Web.C (spWebEq K T.Web.C) E (.ref p) (.ref q) H Q := by
  obtain ⟨dx, v2, v3, v4, ep, _⟩ := W.ex
  exact ⟨p, dx, _, _, rfl, ep, webTy T W', nfSelf, .inl ⟨h, p, q, n, n', rds, rds', rm, tm, rm', tm', rfl, W, W', k⟩⟩
theorem neWW (T : Tx K mg) {H : Hp} {h p q : Addr} {n n' : Int} {rds rds' : List D} {rm tm rm' tm' : List Int} {Q : VK} {E : XK} (W : WebX T.Web.C H h p n rds rm tm) (W' : WebX T.Web.C H h q n' rds' rm' tm')
    (k : ∀ c : Bool, (c = true ↔ (n = n' ∧ rds = rds' ∧ rm = rm' ∧ tm = tm')) → Q (.bl (!c)) H) : rNeO K T.Web.C (spWebEq K T.Web.C) E (.ref p) (.ref q) H Q := by
  obtain ⟨dx, v2, v3, v4, ep, _⟩ := W.ex
  exact ⟨p, dx, _, _, rfl, ep, webTy T W', nfSelf, .inl ⟨h, p, q, n, n', rds, rds', rm, tm, rm', tm', rfl, W, W', fun c hc => ⟨c, rfl, k c hc⟩⟩⟩
theorem eqWO (T : Tx K mg) {H : Hp} {h p : Addr} {y : V} {t : Value} {n : Int} {rds : List D} {rm tm : List Int} {Q : VK} {E : XK} (W : WebX T.Web.C H h p n rds rm tm) (ty : TyX K H y t) (f : PySem.W.subIn K t (.ref T.Web.C) = some false ∧ PySem.W.kitOne K t (.ref T.Web.C) = some false)
    (k : Q (.bl false) H) : rEqO K T.Web.C (spWebEq K T.Web.C) E (.ref p) y H Q := by
  obtain ⟨dx, v2, v3, v4, ep, _⟩ := W.ex
  exact ⟨p, dx, _, _, rfl, ep, ty, nfOf f.1, .inr ⟨p, y, t, rfl, ty, f.2, k⟩⟩
theorem neWO (T : Tx K mg) {H : Hp} {h p : Addr} {y : V} {t : Value} {n : Int} {rds : List D} {rm tm : List Int} {Q : VK} {E : XK} (W : WebX T.Web.C H h p n rds rm tm) (ty : TyX K H y t) (f : PySem.W.subIn K t (.ref T.Web.C) = some false ∧ PySem.W.kitOne K t (.ref T.Web.C) = some false)
    (k : Q (.bl true) H) : rNeO K T.Web.C (spWebEq K T.Web.C) E (.ref p) y H Q := by
  obtain ⟨dx, v2, v3, v4, ep, _⟩ := W.ex
  exact ⟨p, dx, _, _, rfl, ep, ty, nfOf f.1, .inr ⟨p, y, t, rfl, ty, f.2, false, rfl, k⟩⟩
def DSame (n n' : Int) (rds rds' : List D) (rm tm rm' tm' : List Int) (dl dh dl' dh' : D) : Prop := (n = n' ∧ rds = rds' ∧ rm = rm' ∧ tm = tm') ∧ dl = dl' ∧ dh = dh'
def spDayEq (K : PySem.W.Frag) (C CW : Addr) : Sp := fun vs H Q _ =>
  (∃ (h p q : Addr) (n n' : Int) (rds rds' : List D) (rm tm rm' tm' : List Int) (dl dh dl' dh' : D), vs = [.ref p, .ref q] ∧ DayX C CW H h p n rds rm tm dl dh ∧ DayX C CW H h q n' rds' rm' tm' dl' dh' ∧ ∀ c : Bool, (c = true ↔ DSame n n' rds rds' rm tm rm' tm' dl dh dl' dh') → Q (.bl c) H) ∨
  (∃ (p : Addr) (y : V) (t : Value), vs = [.ref p, y] ∧ TyX K H y t ∧ PySem.W.kitOne K t (.ref C) = some false ∧ Q (.bl false) H)
end
end Hc


set_option Elab.async false
set_option linter.all false
set_option maxRecDepth 100000
set_option maxHeartbeats 1000000
set_option autoImplicit false
namespace L2
open PySem PySem.Spec PyProof.Rows
/-- either of two readings -/
theorem pi_or {X : Cx} {tg e : Expr} {w1 w2 : TI} (h1 : PI X tg e w1) (h2 : PI X tg e w2) : PI X tg e (fun σ H R => w1 σ H R ∨ w2 σ H R) where
  run pins s σ H R I h := by
    rcases h with h | h
    · exact h1.run pins s σ H R I h
    · exact h2.run pins s σ H R I h
end L2


set_option Elab.async false
set_option linter.all false
set_option maxRecDepth 100000
set_option maxHeartbeats 4000000
set_option autoImplicit false
namespace Hc
open PySem L2
/-- all but what stands at A -/
def Msk (A : Addr) (H : Hp) : Hp := fun b => if b = A then none else H b
theorem Msk.inv {A : Addr} {H : Hp} {b : Addr} {o : HO} (e : Msk A H b = some o) : b ≠ A ∧ H b = some o := by
  unfold Msk at e
  by_cases q : b = A
  · rw [if_pos q] at e; cases e
  · rw [if_neg q] at e; exact ⟨q, e⟩
theorem Msk.mk {A : Addr} {H : Hp} {b : Addr} {o : HO} (q : b ≠ A) (e : H b = some o) : Msk A H b = some o := by
  unfold Msk
  rw [if_neg q]; exact e
theorem Msk.same (A : Addr) (H : Hp) : Same (Msk A H) H := fun b o e => (Msk.inv e).2
theorem Msk.upd {A : Addr} {H H' : Hp} {o : HO} (s : Same (Msk A H) H') : Same (Msk A H) (Msk A (L2.upd H' A o)) := fun b u e => by
  have q := (Msk.inv e).1
  refine Msk.mk q ?_
  rw [upd_ne q]
  exact s _ _ e
theorem Msk.mono {A : Addr} {H H' : Hp} (s : Same H H') : Same (Msk A H) (Msk A H') := fun b u e => Msk.mk (Msk.inv e).1 (s _ _ (Msk.inv e).2)
theorem Msk.of {A : Addr} {H H' : Hp} (hA : H A = none) (s : Same H H') : Same H (Msk A H') := fun b u e => Msk.mk (ne_of_none e hA) (s _ _ e)
theorem Msk.upd' {A : Addr} {H H' : Hp} {o : HO} (s : Same H (Msk A H')) : Same H (Msk A (L2.upd H' A o)) := fun b u e => by
  have q := Msk.inv (s _ _ e)
  refine Msk.mk q.1 ?_
  rw [upd_ne q.1]
  exact q.2
theorem units65 {k : Nat} {A : Around} (r : Room (k + 1) A) : A.units + 65 < cLine := by have := r.un; omega
theorem atI_end {xs : List V} (h : 0 < xs.length) : atI xs (-1) = xs[xs.length - 1]? := by
  unfold atI
  have : ixN xs.length (-1) = some (xs.length - 1) := by
    unfold ixN
    rw [if_neg (by decide), if_pos (by omega)]
    congr 1
    omega
  rw [this]; rfl
theorem flat_nat (ns : List Nat) : (ns.map fun j => V.int (j : Nat)).all flatV = true := by
  rw [List.all_eq_true]
  intro x hx
  obtain ⟨j, _, rfl⟩ := List.mem_map.mp hx
  rfl
theorem in_nat (r : Nat) : ∀ ns : List Nat, inV (.int (r : Nat)) (ns.map fun j => V.int (j : Nat)) = decide (r ∈ ns)
  | [] => by simp [inV]
  | n :: ns => by
    have ih := in_nat r ns
    have e : inV (.int (r : Nat)) ((n :: ns).map fun j => V.int (j : Nat)) = (((n : Int) == (r : Int)) || inV (.int (r : Nat)) (ns.map fun j => V.int (j : Nat))) := rfl
    rw [e, ih]
    by_cases h : r = n
    · subst h; simp
    · have h2 : ¬ ((n : Int) = (r : Int)) := by omega
      have h3 : ((n : Int) == (r : Int)) = false := by simpa using h2
      rw [h3, Bool.false_or]
      by_cases h4 : r ∈ ns
      · rw [decide_eq_true h4, decide_eq_true (List.mem_cons_of_mem _ h4)]
      · rw [decide_eq_false h4, decide_eq_false (fun q => by rcases List.mem_cons.mp q with q | q; exact h q; exact h4 q)]
def lastOf (r : List Int) : Int := r.getD (r.length - 1) 0
def isStrD : D → Bool | .str _ => true | _ => false
theorem kitS (d : D) : kitB (tyOf d) "str" = some (isStrD d) := by
  cases d with
  | non => show kitB "NoneType" "str" = some false; decide +kernel
  | bl b => show kitB "bool" "str" = some false; decide +kernel
  | int i => show kitB "int" "str" = some false; decide +kernel
  | str x => show kitB "str" "str" = some true; decide +kernel
  | tup ds => show kitB "tuple" "str" = some false; decide +kernel
  | lst => show kitB "list" "str" = some false; decide +kernel
  | dct => show kitB "dict" "str" = some false; decide +kernel
def isSortD : D → Bool
  | .str x => inV (V.str x) [.str "hours", .str "turns"]
  | _ => false
/-- the items that are told -/
def toldL (L way : List Nat) (is : List Int) : List V := (way.zip is).map fun p => if p.1 ∈ L then V.int p.2 else .non
/-- a card at x -/
def CdOne (H : Hp) (h : Addr) (x : V) (L : List Nat) (l : Lt) (row is : List Int) : Prop := ∃ t w u, x = .ref t ∧ H t = some (.tup [w, .int l.2, .int (lastOf row), .ref u]) ∧ Rp H h w (nD l.1) ∧ H u = some (.tup (toldL L l.1 is))
theorem CdOne.same {H H' : Hp} {h : Addr} {x : V} {L : List Nat} {l : Lt} {row is : List Int} (c : CdOne H h x L l row is) (s : Same H H') : CdOne H' h x L l row is := by
  obtain ⟨t, w, u, e, e1, r, e2⟩ := c
  exact ⟨t, w, u, e, s _ _ e1, r.same s, s _ _ e2⟩
def CdAt (H : Hp) (h : Addr) (v : V) (L : List Nat) (ls : List Lt) (rows its : List (List Int)) : Prop := ∃ q xs, v = .ref q ∧ H q = some (.tup xs) ∧ xs.length = ls.length ∧
  ∀ (k : Nat) (l : Lt) (row is : List Int), ls[k]? = some l → rows[k]? = some row → its[k]? = some is → ∃ x, xs[k]? = some x ∧ CdOne H h x L l row is
theorem CdAt.same {H H' : Hp} {h : Addr} {v : V} {L : List Nat} {ls : List Lt} {rows its : List (List Int)} (c : CdAt H h v L ls rows its) (s : Same H H') : CdAt H' h v L ls rows its := by
  obtain ⟨q, xs, e, e1, l1, f⟩ := c
  refine ⟨q, xs, e, s _ _ e1, l1, fun k l row is a b d => ?_⟩
  obtain ⟨x, g1, g2⟩ := f k l row is a b d
  exact ⟨x, g1, g2.same s⟩
/-- rows of ints in a list -/
def RsAt (H : Hp) (a : Addr) (L : List (Addr × List Int)) : Prop := H a = some (.lst (L.map fun p => V.ref p.1)) ∧ ∀ p ∈ L, H p.1 = some (.tup (p.2.map V.int)) ∧ p.2 ≠ []
theorem RsAt.same {H H' : Hp} {a : Addr} {L : List (Addr × List Int)} (x : RsAt H a L) (s : Same H H') : RsAt H' a L := ⟨s _ _ x.1, fun p hp => ⟨s _ _ (x.2 p hp).1, (x.2 p hp).2⟩⟩
theorem RsAt.nil {H : Hp} {a : Addr} (e : H a = some (.lst [])) : RsAt H a [] := ⟨e, fun _ z => nomatch z⟩
theorem RsAt.snoc {H : Hp} {a u : Addr} {L : List (Addr × List Int)} {p : List Int} (x : RsAt H a L) (hu : H u = some (.tup (p.map V.int))) (hp : p ≠ []) : RsAt (upd H a (.lst ((L.map fun p => V.ref p.1) ++ [.ref u]))) a (L ++ [(u, p)]) := by
  have nt : ∀ {b : Addr} {ys : List V}, H b = some (.tup ys) → b ≠ a := fun e z => by subst z; rw [x.1] at e; cases e
  refine ⟨by rw [upd_same, List.map_append]; rfl, fun q hq => ?_⟩
  rcases List.mem_append.mp hq with hq | hq
  · obtain ⟨e, n⟩ := x.2 q hq
    exact ⟨by rw [upd_ne (nt e)]; exact e, n⟩
  · rw [List.mem_singleton] at hq
    subst hq
    exact ⟨by rw [upd_ne (nt hu)]; exact hu, hp⟩
def ival : V → Int | .int i => i | _ => 0
def aOf : V → Addr | .ref t => t | _ => 0
def kOf (H : Hp) (x : V) : List Int := match H (aOf x) with | some (.tup xs) => xs.map ival | _ => []
theorem kOf_of {H : Hp} {t : Addr} {p : List Int} (e : H t = some (.tup (p.map V.int))) : kOf H (.ref t) = p := by
  unfold kOf
  show (match H t with | some (.tup xs) => xs.map ival | _ => []) = p
  rw [e]
  show (p.map V.int).map ival = p
  rw [List.map_map]
  exact List.map_id' p
/-- the rows of one sorted are the other -/
def SrtOf (A B : List (List Int)) : Prop := B.Perm A ∧ B.Pairwise fun x y => Pl.lexI y x = false
theorem lexI_eq : ∀ x y : List Int, Pl.lexI x y = false → Pl.lexI y x = false → x = y
  | [], [], _, _ => rfl
  | [], _ :: _, h, _ => by cases h
  | _ :: _, [], _, h => by cases h
  | a :: as, b :: bs, h1, h2 => by
    rw [Pl.lexI_cons] at h1 h2
    by_cases e : a = b
    · rw [if_pos e] at h1
      rw [if_pos e.symm] at h2
      rw [e, lexI_eq as bs h1 h2]
    · rw [if_neg e] at h1
      rw [if_neg (Ne.symm e)] at h2
      have := of_decide_eq_false h1
      have := of_decide_eq_false h2
      omega
theorem SrtOf.uniq {A B C : List (List Int)} (x : SrtOf A B) (y : SrtOf A C) : B = C :=
  List.Perm.eq_of_pairwise (fun a b _ _ h1 h2 => lexI_eq a b h2 h1) x.2 y.2 (x.1.trans y.1.symm)
theorem sorted_rs {K : PySem.W.Frag} {H : Hp} {a : Addr} {L : List (Addr × List Int)} {Q : VK} (x : RsAt H a L) (k : ∀ p H' L', Same H H' → H p = none → RsAt H' p L' → SrtOf (L.map (·.2)) (L'.map (·.2)) → Q (.ref p) H') : rSortedR K [.ref a] H Q := by
  refine ⟨a, _, kOf H, rfl, SqL.of x.1, fun v hv => ?_, fun ys p h1 h2 hp => ?_⟩
  · obtain ⟨q, hq, rfl⟩ := List.mem_map.mp hv
    obtain ⟨e1, e2⟩ := x.2 q hq
    rw [kOf_of e1]
    match hq2 : q.2, e2 with
    | n0 :: ns, _ => exact ⟨q.1, n0, ns, rfl, by rw [← hq2]; exact e1, rfl⟩
    | [], z => exact absurd rfl z
  · have sp : Same H (upd H p (.lst ys)) := same_upd hp
    have hm : ∀ y ∈ ys, ∃ q ∈ L, y = V.ref q.1 := fun y hy => by
      obtain ⟨q, hq, e⟩ := List.mem_map.mp (h2.perm.mem_iff.mp hy)
      exact ⟨q, hq, e.symm⟩
    have ex : (ys.map fun y => (aOf y, kOf H y)).map (·.2) = ys.map (kOf H) := by rw [List.map_map]; rfl
    refine k p _ (ys.map fun y => (aOf y, kOf H y)) sp hp ⟨?_, fun z hz => ?_⟩ ⟨?_, ?_⟩
    · rw [upd_same, List.map_map]
      congr 2
      refine (List.map_id' ys).symm.trans (List.map_congr_left fun y hy => ?_)
      obtain ⟨q, _, rfl⟩ := hm y hy
      rfl
    · obtain ⟨y, hy, rfl⟩ := List.mem_map.mp hz
      obtain ⟨q, hq, rfl⟩ := hm y hy
      obtain ⟨e1, e2⟩ := x.2 q hq
      show upd H p _ q.1 = some (.tup ((kOf H (.ref q.1)).map V.int)) ∧ kOf H (.ref q.1) ≠ []
      rw [kOf_of e1]
      exact ⟨sp _ _ e1, e2⟩
    · rw [ex]
      have := h2.perm.map (kOf H)
      rw [List.map_map] at this
      refine this.trans (List.Perm.of_eq (List.map_congr_left fun q hq => ?_))
      exact kOf_of (x.2 q hq).1
    · rw [ex, List.pairwise_map]
      exact h1
/-- all but what stands in L -/
def MsL (L : List Addr) (H : Hp) : Hp := fun b => if b ∈ L then none else H b
theorem MsL.inv {L : List Addr} {H : Hp} {b : Addr} {o : HO} (e : MsL L H b = some o) : b ∉ L ∧ H b = some o := by
  unfold MsL at e
  by_cases q : b ∈ L
  · rw [if_pos q] at e; cases e
  · rw [if_neg q] at e; exact ⟨q, e⟩
theorem MsL.mk {L : List Addr} {H : Hp} {b : Addr} {o : HO} (q : b ∉ L) (e : H b = some o) : MsL L H b = some o := by
  unfold MsL
  rw [if_neg q]; exact e
/-- the grid of turns so far -/
def gRow (S : List (List Int)) (i k : Nat) (l : Lt) (r : List Int) : List V := (List.range l.1.length).map fun p => V.int ((if S.idxOf (pAt k l r p) < i then rk S (pAt k l r p) else 0 : Nat) : Int)
theorem gRow_zero (S : List (List Int)) (k : Nat) (l : Lt) (r : List Int) : gRow S 0 k l r = (List.range l.1.length).map fun _ => V.int 0 := by
  unfold gRow
  exact List.map_congr_left fun p _ => by rw [if_neg (Nat.not_lt_zero _)]; rfl
theorem gRow_len (S : List (List Int)) (i k : Nat) (l : Lt) (r : List Int) : (gRow S i k l r).length = l.1.length := by
  unfold gRow
  rw [List.length_map, List.length_range]
theorem gRow_same {S : List (List Int)} {i k k0 p0 : Nat} {l l0 : Lt} {r r0 : List Int} (e : S[i]? = some (pAt k0 l0 r0 p0)) (n : k ≠ k0) : gRow S (i + 1) k l r = gRow S i k l r := by
  unfold gRow
  refine List.map_congr_left fun p _ => ?_
  have hne : S.idxOf (pAt k l r p) ≠ i := fun z => by
    have hi : i < S.length := (List.getElem?_eq_some_iff.mp e).1
    have hm : S[S.idxOf (pAt k l r p)]'(by omega) = pAt k l r p := List.getElem_idxOf _
    have : S[i]? = some (pAt k l r p) := by
      rw [← z, List.getElem?_eq_getElem (by omega), hm]
    rw [e] at this
    exact n (pAt_inj (Option.some.inj this)).1.symm
  by_cases g : S.idxOf (pAt k l r p) < i
  · rw [if_pos g, if_pos (by omega)]
  · rw [if_neg g, if_neg (by omega)]
theorem gRow_set {S : List (List Int)} (nd : S.Nodup) {i k p0 : Nat} {l : Lt} {r : List Int} (e : S[i]? = some (pAt k l r p0)) (hp : p0 < l.1.length) : (gRow S i k l r).set p0 (V.int ((cnt S i ((l.1.getD p0 0 : Nat) : Int) : Nat) : Int)) = gRow S (i + 1) k l r := by
  refine List.ext_getElem (by rw [List.length_set, gRow_len, gRow_len]) fun p h1 h2 => ?_
  rw [gRow_len] at h2
  rw [List.getElem_set]
  have e0 : ∀ j, (gRow S j k l r)[p]'(by rw [gRow_len]; exact h2) = V.int ((if S.idxOf (pAt k l r p) < j then rk S (pAt k l r p) else 0 : Nat) : Int) := fun j => by
    unfold gRow
    rw [List.getElem_map, List.getElem_range]
  rw [e0 (i + 1)]
  by_cases g : p0 = p
  · subst g
    rw [if_pos rfl, idx_at nd e, if_pos (Nat.lt_succ_self i), rk_at nd e]; rfl
  · rw [if_neg g, e0 i]
    have hne : S.idxOf (pAt k l r p) ≠ i := fun z => by
      have hi : i < S.length := (List.getElem?_eq_some_iff.mp e).1
      have hm : S[S.idxOf (pAt k l r p)]'(by omega) = pAt k l r p := List.getElem_idxOf _
      have : S[i]? = some (pAt k l r p) := by
        rw [← z, List.getElem?_eq_getElem (by omega), hm]
      rw [e] at this
      exact g (pAt_inj (Option.some.inj this)).2
    by_cases g2 : S.idxOf (pAt k l r p) < i
    · rw [if_pos g2, if_pos (by omega)]
    · rw [if_neg g2, if_neg (by omega)]
def dRow (S : List (List Int)) (i m : Nat) : List V := (List.range m).map fun r => V.int ((cnt S i ((r : Nat) : Int) : Nat) : Int)
theorem dRow_len (S : List (List Int)) (i m : Nat) : (dRow S i m).length = m := by
  unfold dRow
  rw [List.length_map, List.length_range]
theorem dRow_zero (S : List (List Int)) (m : Nat) : dRow S 0 m = (List.range m).map fun _ => V.int 0 := by
  unfold dRow
  exact List.map_congr_left fun p _ => by show V.int ((cnt S 0 p : Nat) : Int) = _; unfold cnt; rfl
theorem dRow_at {S : List (List Int)} {i m r : Nat} (h : r < m) : (dRow S i m)[r]? = some (V.int ((cnt S i ((r : Nat) : Int) : Nat) : Int)) := by
  unfold dRow
  rw [List.getElem?_map, List.getElem?_range h]; rfl
theorem dRow_set {S : List (List Int)} {i m r0 : Nat} {q : List Int} (e : S[i]? = some q) (h : hdI q = ((r0 : Nat) : Int)) : (dRow S i m).set r0 (V.int (((cnt S i ((r0 : Nat) : Int) : Nat) : Int) + 1)) = dRow S (i + 1) m := by
  refine List.ext_getElem (by rw [List.length_set, dRow_len, dRow_len]) fun p h1 h2 => ?_
  rw [dRow_len] at h2
  rw [List.getElem_set]
  have e0 : ∀ j, (dRow S j m)[p]'(by rw [dRow_len]; exact h2) = V.int ((cnt S j ((p : Nat) : Int) : Nat) : Int) := fun j => by
    unfold dRow
    rw [List.getElem_map, List.getElem_range]
  rw [e0 (i + 1), cnt_succ e, h]
  by_cases g : r0 = p
  · subst g
    rw [if_pos rfl, if_pos rfl]; rfl
  · rw [if_neg g, e0 i, if_neg (by omega)]; rfl
/-- the final items -/
def itsOf (S : List (List Int)) (ls : List Lt) (rows : List (List Int)) : List (List Int) := (List.range ls.length).map fun k => (List.range (ls.getD k ([], 0)).1.length).map fun p => ((rk S (pAt k (ls.getD k ([], 0)) (rows.getD k []) p) : Nat) : Int)
theorem itsOf_len (S : List (List Int)) (ls : List Lt) (rows : List (List Int)) : (itsOf S ls rows).length = ls.length := by
  unfold itsOf
  rw [List.length_map, List.length_range]
theorem itsOf_at {S : List (List Int)} {ls : List Lt} {rows : List (List Int)} {k : Nat} {l : Lt} {r : List Int} (e1 : ls[k]? = some l) (e2 : rows[k]? = some r) : (itsOf S ls rows)[k]? = some ((List.range l.1.length).map fun p => ((rk S (pAt k l r p) : Nat) : Int)) := by
  have h1 : ls.getD k ([], 0) = l := by rw [List.getD_eq_getElem?_getD, e1]; rfl
  have h2 : rows.getD k [] = r := by rw [List.getD_eq_getElem?_getD, e2]; rfl
  unfold itsOf
  rw [List.getElem?_map, List.getElem?_range (List.getElem?_eq_some_iff.mp e1).1]
  show some ((List.range (ls.getD k ([], 0)).1.length).map fun p => ((rk S (pAt k (ls.getD k ([], 0)) (rows.getD k []) p) : Nat) : Int)) = _
  rw [h1, h2]
theorem gRow_end {S : List (List Int)} {ls : List Lt} {rows : List (List Int)} (h1 : S.Perm (pAll ls rows ls.length)) {k : Nat} {l : Lt} {r : List Int} (e1 : ls[k]? = some l) (e2 : rows[k]? = some r) : gRow S S.length k l r = ((List.range l.1.length).map fun p => ((rk S (pAt k l r p) : Nat) : Int)).map V.int := by
  unfold gRow
  rw [List.map_map]
  refine List.map_congr_left fun p hp => ?_
  have hm : pAt k l r p ∈ S := h1.mem_iff.mpr (mem_pAll.mpr ⟨k, p, (List.getElem?_eq_some_iff.mp e1).1, by rw [List.getD_eq_getElem?_getD, e1]; exact List.mem_range.mp hp, by rw [List.getD_eq_getElem?_getD, e1, List.getD_eq_getElem?_getD, e2]; rfl⟩)
  rw [if_pos (List.idxOf_lt_length_iff.mpr hm)]; rfl
section
variable {P : Program} {w : World} {K : PySem.W.Frag} {mg : Str → Option Value} {base : Heap}
def spSort : Sp := fun vs H Q _ => ∃ (h : Addr) (v : V) (d : D), vs = [v] ∧ Rp H h v d ∧ Q (.bl (isSortD d)) H
def spCheck (C CL CS : Addr) : Sp := fun vs H Q E => ∃ (h p : Addr) (n : Int) (rds : List D) (v s : V) (d ds : D), vs = [.ref p, v, s] ∧ WebO C H h p n rds ∧ Rp H h v d ∧ Rp H h s ds ∧
  (isLot rds d = false → ∀ H', Same H H' → E (.ref CL) none H') ∧ (isLot rds d = true → isSortD ds = false → ∀ H', Same H H' → E (.ref CS) none H') ∧ (isLot rds d = true → isSortD ds = true → ∀ H', Same H H' → Q .non H')
end
end Hc




set_option Elab.async false
set_option linter.all false
set_option pp.maxSteps 600
set_option maxRecDepth 100000
set_option maxHeartbeats 4000000
set_option autoImplicit false
namespace Hc
open PySem L2
theorem But.updN {h : Addr} {H H' : Hp} (x : But h H H') {D : Addr} (hD : H D = none) {o : HO} : But h H (L2.upd H' D o) := fun b u e n => by
  rw [upd_ne (ne_of_none e hD)]
  exact x _ _ e n
theorem noLs_at {ds : List D} (h : noLs ds = true) {d : D} (hd : d ∈ ds) : noL d = true := by
  induction ds with
  | nil => cases hd
  | cons e ds ih =>
    have h : (noL e && noLs ds) = true := h
    rw [Bool.and_eq_true] at h
    rcases List.mem_cons.mp hd with rfl | hd
    · exact h.1
    · exact ih h.2 hd
section
variable {P : Program} {w : World} {K : PySem.W.Frag} {mg : Str → Option Value} {base : Heap}
def spRoadsL : Sp := fun vs H Q _ => ∃ (h c : Addr) (n m : Int), vs = [.ref h, .int n, .int m] ∧ HandAt H h c ∧ 2 ≤ n ∧ n ≤ 12 ∧ 1 ≤ m ∧ m ≤ 24 ∧
  ∀ v rds H', HandAt H' h c → But h H H' → Rp H' h v (.tup rds) → rds.all (isBE n) = true → (rds.length : Int) = m → Q v H'
theorem ok__law_roads (T : Tx K mg) : FnOk P w K mg base CX0 2 T._law_roads.f T._law_roads.fd ["_law_hand_here", "_law_houses", "_law_many"] spRoadsL := by
  refine T._law_roads.F.ok sc_law_roads (fun vs H Q E h => ?_) (fun cdv A outer s H vs Q E hr h => ?_)
  · obtain ⟨_, _, _, _, rfl, _⟩ := h
    rfl
  · obtain ⟨h, c, n, m, rfl, hA, n0, n1, m0, m1, k⟩ := h
    refine ⟨_, (pss_cons (ps_set (i := 3) sc_law_roads.nd rfl (Or.inl rfl) (pe_lst pa_nil))
      (pss_cons (ps_for PassesOwn.never rfl (pi_range1 (by rfl) T.n_range (pa_cons (pv 2) pa_nil)) (pg_name (i := 4) sc_law_roads.nd rfl (Or.inl rfl))
      (pss_cons (ps_set (i := 5) sc_law_roads.nd rfl (Or.inl rfl) (pe_call (ok__law_draw T) (hr.mono (by decide)) rfl T._law_draw.g T._law_draw.F.kp T._law_draw.b .nil pass0 (pa_cons (pv 0) (pa_cons (pv 1) pa_nil))))
      (C8.pss_cut (ps_if (PW.pt (pw_and (pt_cmpR op_gt (pv 4) pe_int (nomark _)) (pw_and1 (pt_cmpR op_gt (pe_call (ok__law_draw T) (hr.mono (by decide)) rfl T._law_draw.g T._law_draw.F.kp T._law_draw.b .nil pass0 (pa_cons (pv 0) (pa_cons pe_int pa_nil))) pe_int (nomark _)))))
      (pss_one (ps_set (i := 5) sc_law_roads.nd rfl (Or.inl rfl) (pe_ix ix_tup (pe_ix ix_list (pv 3) (pe_call (ok__law_draw T) (hr.mono (by decide)) rfl T._law_draw.g T._law_draw.F.kp T._law_draw.b .nil pass0 (pa_cons (pv 0) (pa_cons (pe_callB call_len_seq (by rfl) T.n_len (by decide +kernel) (pa_cons (pv 3) pa_nil)) pa_nil))) (fun _ _ => rfl)) pe_int (fun _ _ => rfl))))
      pss_nil)
      (pss_one (ps_expr (pe_bm PySem.F.plainAttrs_list PySem.F.slot_list_append PySem.F.type_list_append mt_append (pv 3) (pa_cons (pe_tup (pa_cons (pv 5) (pa_cons (pe_op op_modN (pe_callTy call_int1 (by rfl) T.n_int (by decide +kernel) (pa_cons (pe_op op_add (pe_op op_add (pv 5) pe_int) (pe_call (ok__law_draw T) (hr.mono (by decide)) rfl T._law_draw.g T._law_draw.F.kp T._law_draw.b .nil pass0 (pa_cons (pv 0) (pa_cons (pe_op op_sub (pv 1) pe_int) pa_nil)))) pa_nil)) (pv 1)) pa_nil))) pa_nil)))))))
      (pss_one (ps_ret (pe_callTy call_tuple_of (by rfl) T.n_tuple (by decide +kernel) (pa_cons (pv 3) pa_nil)))))), ?_⟩
    refine ⟨by show 0 ≤ sizeLine; decide, fun p hp => ?_⟩
    obtain ⟨p1, p2⟩ := hA.ne hp
    refine ⟨_, rfl, m, rfl, by omega, by omega, for_range (lo := 0) (n := m.toNat) (fun i σ' H' => ∃ (rv bv : Option V) (vs : List V) (ds : List D), σ' = [some (.ref h), some (.int n), some (.int m), some (.ref p), rv, bv] ∧ HandAt H' h c ∧ But h H H' ∧ H' p = some (.lst vs) ∧ RpA H' h vs ds ∧ ds.length = i ∧ ds.all (isBE n) = true)
      ⟨none, none, [], [], rfl, hA.upd p1 p2, (But.refl h H).updN hp, upd_same, .nil, rfl, rfl⟩ ?_ ?_⟩
    · rintro i σ' H4 hi ⟨rv, bv, vs, ds, rfl, hA4, b4, hp4, ra, hl, hall⟩
      refine ⟨_, rfl, _, rfl, h, c, n, rfl, hA4, by omega, by omega, fun b H5 c0 c1 hA5 b5 => ?_⟩
      have ra5 := ra.nl (b5.nl hA4.lst) (noL_be hall)
      have hp5 := b5 _ _ hp4 p1
      have b05 := b4.trans b5
      refine ⟨fun σ'' H' => ∃ (b' : Int), σ'' = [some (.ref h), some (.int n), some (.int m), some (.ref p), some (.int (0 + i)), some (.int b')] ∧ 0 ≤ b' ∧ b' < n ∧ HandAt H' h c ∧ But h H H' ∧ H' p = some (.lst vs) ∧ RpA H' h vs ds, ?_, ?_⟩
      · refine ⟨_, rfl, _, _, rfl, rfl, _, rfl, ?_⟩
        by_cases g : (0 : Int) < 0 + (i : Int)
        · rw [decide_eq_true g]
          refine iteT ⟨_, rfl, h, c, 3, rfl, hA5, by decide, by decide, fun u H6 u0 u1 hA6 b6 => ⟨_, _, rfl, rfl, _, rfl, ?_⟩⟩
          have ra6 := ra5.nl (b6.nl hA5.lst) (noL_be hall)
          have hp6 := b6 _ _ hp5 p1
          refine ite2 (fun _ => ?_) (fun _ => ⟨b, rfl, c0, c1, hA6, b05.trans b6, hp6, ra6⟩)
          have lv := ra6.len
          refine ⟨_, rfl, _, rfl, _, rfl, p, _, rfl, .inl (SqL.of hp6), h, c, (vs.length : Int), rfl, hA6, by omega, by omega, fun x H7 x0 x1 hA7 b7 => ?_⟩
          have ra7 := ra6.nl (b7.nl hA6.lst) (noL_be hall)
          have hp7 := b7 _ _ hp6 p1
          obtain ⟨x', d, gx, hd, rd⟩ := ra7.of x0 x1
          rw [List.all_eq_true] at hall
          obtain ⟨aa, bb, rfl, q1, q2, q3, q4, q5⟩ := be_full (hall d hd)
          obtain ⟨qa, xs, rfl, ea, za, rA⟩ := tup_inv rd
          cases rA with
          | cons r1 rA =>
          cases rA with
          | cons r2 rA =>
          cases rA
          cases r1
          cases r2
          refine ⟨p, _, _, _, rfl, rfl, SqL.of hp7, gx, qa, _, 1, _, rfl, rfl, SqT.of ea, atI_nat (j := 1) rfl, ?_⟩
          exact ⟨bb, rfl, q3, q4, hA7, (b05.trans b6).trans b7, hp7, ra7⟩
        · rw [decide_eq_false g]
          exact iteF (iteF ⟨b, rfl, c0, c1, hA5, b05, hp5, ra5⟩)
      · rintro σ'' H6 ⟨b', rfl, c0', c1', hA6, b6, hp6, ra6⟩
        refine ⟨_, rfl, .inl ⟨rfl, _, SqL.of hp6⟩, _, rfl, _, rfl, _, _, rfl, rfl, _, rfl, _, rfl, _, _, rfl, rfl, h, c, n - 1, rfl, hA6, by omega, by omega, fun u H7 u0 u1 hA7 b7 => ?_⟩
        refine ⟨_, _, rfl, rfl, .inl ⟨_, rfl, _, rfl, _, _, rfl, rfl, by omega, by show 2 ≤ sizeLine; decide, fun q hq => ?_⟩⟩
        have hp7 := b7 _ _ hp6 p1
        have ra7 := ra6.nl (b7.nl hA6.lst) (noL_be hall)
        obtain ⟨s8, e8, n8, _, hA8⟩ := new_facts (o := .tup [.int b', .int ((b' + 1 + u).fmod n)]) hA7 hq rfl
        generalize upd H7 q (.tup [.int b', .int ((b' + 1 + u).fmod n)]) = H8 at s8 e8 hA8 ⊢
        have hvl := ra7.len
        have e9 := s8 _ _ hp7
        obtain ⟨f0, f1⟩ := mod_range (b' + 1 + u) (m := n) (by omega)
        have hall2 : (ds ++ [Hc.D.tup [.int b', .int ((b' + 1 + u).fmod n)]]).all (isBE n) = true := by
          rw [List.all_append, hall, Bool.true_and, List.all_cons, List.all_nil, Bool.and_true]
          exact be_of c0' c1' f0 f1 (ring_ne c0' c1' u0 (by omega))
        refine ⟨p, vs, _, rfl, rfl, e9, line_lt (by omega), ?_⟩
        refine ⟨_, _, _, ds ++ [Hc.D.tup [.int b', .int ((b' + 1 + u).fmod n)]], rfl, hA8.upd p1 p2, ((b6.trans b7).trans (But.of s8)).updN hp, upd_same, ?_, by rw [List.length_append, hl]; rfl, hall2⟩
        have rb : Rp H8 h (.ref q) (.tup [.int b', .int ((b' + 1 + u).fmod n)]) := .tup e8 (by show 2 ≤ 100000; decide) (.cons (.int _) (.cons (.int _) .nil))
        exact ((ra7.same s8).app (.cons rb .nil)).nl (NL.upd e9) (noL_be hall2)
    · rintro σ' H4 ⟨rv, bv, vs, ds, rfl, hA4, b4, hp4, ra, hl, hall⟩
      have hvl := ra.len
      refine ⟨_, rfl, p, vs, rfl, .inl ⟨SqL.of hp4, fun q hq => ?_⟩⟩
      obtain ⟨s5, e5, n5, _, hA5⟩ := new_facts (o := .tup vs) hA4 hq rfl
      generalize upd H4 q (.tup vs) = H5 at s5 e5 hA5 ⊢
      exact k _ ds H5 hA5 (b4.trans (But.of s5)) (.tup e5 (by omega) (ra.same s5)) hall (by omega)
def spCountsL : Sp := fun vs H Q _ => ∃ (h c : Addr) (m mo : Int), vs = [.ref h, .int m, .int mo] ∧ HandAt H h c ∧ 0 < m ∧ m ≤ 1000 ∧ 1 ≤ mo ∧ mo ≤ 3 ∧
  ∀ v (ns : List Int) H', HandAt H' h c → But h H H' → Rp H' h v (.tup (ns.map D.int)) → (ns.length : Int) = m → (∀ x ∈ ns, 1 ≤ x ∧ x ≤ 3) → Q v H'
theorem ok__law_counts (T : Tx K mg) : FnOk P w K mg base CX0 2 T._law_counts.f T._law_counts.fd ["_law_hand_here", "_law_many", "_law_most"] spCountsL := by
  refine T._law_counts.F.ok sc_law_counts (fun vs H Q E h => ?_) (fun cdv A outer s H vs Q E hr h => ?_)
  · obtain ⟨_, _, _, _, rfl, _⟩ := h
    rfl
  · obtain ⟨h, c, m, mo, rfl, hA1, m0, m1, o0, o1, k⟩ := h
    refine ⟨_, (pss_one (ps_ret (pe_callTy call_tuple_of (by rfl) T.n_tuple (by decide +kernel) (pa_cons (pe_lc (own := [("_law_k", 3)]) (g := (gName 3)) (tt := tYes) rfl sc_law_counts.nd (pi_range1 (by rfl) T.n_range (pa_cons (pv 1) pa_nil)) (blkOk_by (own := [("_law_k", 3)]) (N := ["_law_hand_here", "_law_many", "_law_most", "_law_k"]) (sc := defScope s_law_counts) (by decide +kernel)) (fun _ _ _ _ _ => (pg_name (i := 3) sc_law_counts.nd rfl (Or.inl rfl))) (fun _ _ _ _ _ => pts_nil) (fun _ _ _ _ _ => (by exact (pe_op op_add pe_int (pe_call (ok__law_draw T) (hr.mono (by decide)) rfl T._law_draw.g T._law_draw.F.kp T._law_draw.b .nil pass0 (pa_cons (pv 0) (pa_cons (pv 2) pa_nil))))))) pa_nil)))), ?_⟩
    refine ⟨_, rfl, m, rfl, by omega, by omega, fun D hD => ?_⟩
    obtain ⟨n1, n2⟩ := hA1.ne hD
    refine lc_range (lo := 0) (n := m.toNat) (fun i H' => ∃ ns : List Int, ns.length = i ∧ (∀ x ∈ ns, 1 ≤ x ∧ x ≤ 3) ∧ H' D = some (.lst (ns.map V.int)) ∧ HandAt H' h c ∧ But h H H')
      ⟨[], rfl, fun _ z => (nomatch z), upd_same, hA1.upd n1 n2, (But.refl h H).updN hD⟩ ?_ ?_
    · rintro i H2 hi ⟨ns, hl, hn, hd, hA2, b2⟩
      refine ⟨rfl, tyes ⟨_, rfl, _, rfl, h, c, mo, rfl, hA2, by omega, by omega, fun y H3 y0 y1 hA3 b3 => ⟨_, _, rfl, rfl, _, b3 _ _ hd n1, ?_, ns ++ [1 + y], ?_, ?_, ?_, hA3.upd n1 n2, (b2.trans b3).updN hD⟩⟩⟩
      · rw [List.length_map]; exact line_lt (by omega)
      · rw [List.length_append, hl]; rfl
      · intro z hz
        rcases List.mem_append.mp hz with q | q
        · exact hn z q
        · rw [List.mem_singleton] at q; subst q; omega
      · rw [upd_same, List.map_append]; rfl
    · rintro H2 ⟨ns, hl, hn, hd, hA2, b2⟩
      refine ⟨_, _, rfl, .inl ⟨SqL.of hd, fun q hq => ?_⟩⟩
      obtain ⟨s5, e5, n5, _, hA5⟩ := new_facts (o := .tup (ns.map V.int)) hA2 hq rfl
      generalize upd H2 q (.tup (ns.map V.int)) = H5 at s5 e5 hA5 ⊢
      exact k _ ns H5 hA5 (b2.trans (But.of s5)) (.tup e5 (by rw [List.length_map]; omega) (RpA.ints ns)) (by omega) hn
end
end Hc


set_option Elab.async false
set_option linter.all false
set_option pp.maxSteps 600
set_option maxRecDepth 100000
set_option maxHeartbeats 4000000
set_option autoImplicit false
namespace Hc
open PySem L2
/-- drawn roads as the law holds them -/
structure RdL (H : Hp) (h : Addr) (v : V) (n : Int) (rds : List D) : Prop where
  r : Rp H h v (.tup rds)
  all : rds.all (isBE n) = true
  l1 : 1 ≤ rds.length
  l2 : rds.length ≤ 24
theorem RdL.nl {H H' : Hp} {h : Addr} {v : V} {n : Int} {rds : List D} (w : RdL H h v n rds) (s : NL H H') : RdL H' h v n rds := ⟨w.r.nl s (noL_be w.all), w.all, w.l1, w.l2⟩
theorem RdL.same {H H' : Hp} {h : Addr} {v : V} {n : Int} {rds : List D} (w : RdL H h v n rds) (s : Same H H') : RdL H' h v n rds := w.nl (NL.of s)
section
variable {P : Program} {w : World} {K : PySem.W.Frag} {mg : Str → Option Value} {base : Heap}
def spNextR : Sp := fun vs H Q _ => ∃ (h : Addr) (v : V) (n : Int) (rds : List D) (j : Nat), vs = [v, .int j] ∧ RdL H h v n rds ∧ j < rds.length ∧
  ∀ a H', Same H H' → H a = none → H' a = some (.lst ((nextL rds j).map fun j => V.int (j : Nat))) → Q (.ref a) H'
theorem ok__law_next (T : Tx K mg) : FnOk P w K mg base CX0 1 T._law_next.f T._law_next.fd ["_law_roads_here", "_law_road"] spNextR := by
  refine T._law_next.F.ok sc_law_next (fun vs H Q E h => ?_) (fun cdv A outer s H vs Q E hr h => ?_)
  · obtain ⟨_, v, n, rds, j, rfl, _⟩ := h
    rfl
  · obtain ⟨h, v, n, rds, j, rfl, W, hj, k⟩ := h
    obtain ⟨q, xs, rfl, e2, _, ra⟩ := tup_inv W.r
    have hl := ra.len
    refine ⟨_, (pss_one (ps_ret (pe_lc (own := [("_law_other", 2)]) (g := (gName 2))  (tt := (tTest (tOp rEq (tOp (rIxT K) (tOp (rIxT K) (tVar 0) (tVar 2)) (tC (.int 0))) (tOp (rIxT K) (tOp (rIxT K) (tVar 0) (tVar 1)) (tC (.int 1)))))) rfl sc_law_next.nd (pi_range1 (by rfl) T.n_range (pa_cons (pe_callB call_len_seq (by rfl) T.n_len (by decide +kernel) (pa_cons (pv 0) pa_nil)) pa_nil)) (blkOk_by (own := [("_law_other", 2)]) (N := ["_law_roads_here", "_law_road", "_law_other"]) (sc := defScope s_law_next) (by decide +kernel)) (fun _ _ _ _ _ => (pg_name (i := 2) sc_law_next.nd rfl (Or.inl rfl))) (fun _ _ _ _ _ => (pts_one (by exact (pt_cmpR op_eq (pe_ix ix_tup (pe_ix ix_tup (pv 0) (pv 2) (fun _ _ => rfl)) pe_int (fun _ _ => rfl)) (pe_ix ix_tup (pe_ix ix_tup (pv 0) (pv 1) (fun _ _ => rfl)) pe_int (fun _ _ => rfl)) (nomark _))))) (fun _ _ _ _ _ => (by exact (pv 2)))))), ?_⟩
    have l2 := W.l2
    refine ⟨_, rfl, q, xs, rfl, .inr (SqT.of e2), (xs.length : Int), rfl, by omega, by omega, fun A hA => ?_⟩
    obtain ⟨qj, aj, bj, y1, y2, y3, y4⟩ := ra.road W.all hj
    have en1 : en (dAt rds (j : Nat)) = bj := by unfold dAt; rw [Int.toNat_natCast]; exact y4
    refine lc_range (lo := 0) (n := (xs.length : Int).toNat) (fun i H' => (∀ b o, H b = some o → H' b = some o) ∧ H' A = some (.lst (((List.range i).filter fun j' => decide (bg (rds.getD j' .non) = en (dAt rds j))).map fun j' => V.int (j' : Nat))))
      ⟨same_upd hA, upd_same⟩ ?_ ?_
    · rintro i H' hi ⟨s, hacc⟩
      have hi' : i < rds.length := by omega
      obtain ⟨q', a', b', z1, z2, z3, z4⟩ := ra.road W.all hi'
      refine ⟨rfl, _, rfl, _, rfl, q, xs, _, _, rfl, rfl, SqT.of (s _ _ e2), at_of (by omega) z1, q', _, 0, _, rfl, rfl, SqT.of (s _ _ z2), atI_nat (j := 0) rfl, ?_⟩
      refine ⟨_, rfl, _, rfl, q, xs, _, _, rfl, rfl, SqT.of (s _ _ e2), atI_nat y1, qj, _, 1, _, rfl, rfl, SqT.of (s _ _ y2), atI_nat (j := 1) rfl, rfl, _, rfl, ?_⟩
      rw [int_eqd]
      have step : ∀ (c : Bool), decide (bg (rds.getD i .non) = en (dAt rds j)) = c → (List.range (i + 1)).filter (fun j' => decide (bg (rds.getD j' .non) = en (dAt rds j))) = (List.range i).filter (fun j' => decide (bg (rds.getD j' .non) = en (dAt rds j))) ++ (if c = true then [i] else []) := fun c hc => by
        rw [List.range_succ, List.filter_append]
        congr 1
        rw [List.filter_cons, hc]
        rfl
      by_cases g : a' = bj
      · rw [decide_eq_true g]
        have st := step true (by rw [z3, en1]; exact decide_eq_true g)
        refine iteT ⟨_, rfl, _, hacc, ?_, fun b o q => ?_, ?_⟩
        · rw [List.length_map]
          have := List.length_filter_le (fun j' => decide (bg (rds.getD j' .non) = en (dAt rds j))) (List.range i)
          rw [List.length_range] at this
          exact line_lt (by omega)
        · rw [upd_ne (ne_of_none q hA)]
          exact s _ _ q
        · rw [upd_same, st, List.map_append, if_pos rfl, List.map_cons, List.map_nil, Int.zero_add]
      · rw [decide_eq_false g]
        have st := step false (by rw [z3, en1]; exact decide_eq_false g)
        refine iteF ⟨s, ?_⟩
        rw [hacc, st, if_neg (by decide), List.append_nil]
    · rintro H' ⟨s, hacc⟩
      have : (xs.length : Int).toNat = rds.length := by omega
      rw [this] at hacc
      exact k A H' s hA hacc
def spWayR : Sp := fun vs H Q _ => ∃ (h c : Addr) (v : V) (n : Int) (rds : List D) (mo : Int), vs = [.ref h, v, .int mo] ∧ HandAt H h c ∧ RdL H h v n rds ∧ 1 ≤ mo ∧ mo ≤ 1000 ∧
  ∀ v' ns H', HandAt H' h c → But h H H' → Rp H' h v' (nD ns) → 1 ≤ ns.length → (ns.length : Int) ≤ mo → (∀ j ∈ ns, j < rds.length) → wayOk rds ns → Q v' H'
theorem ok__law_way (T : Tx K mg) : FnOk P w K mg base CX0 2 T._law_way.f T._law_way.fd ["_law_hand_here", "_law_roads_here", "_law_most"] spWayR := by
  refine T._law_way.F.ok sc_law_way (fun vs H Q E h => ?_) (fun cdv A outer s H vs Q E hr h => ?_)
  · obtain ⟨h, c, v, n, rds, mo, rfl, _⟩ := h
    rfl
  · obtain ⟨h, c, v, n, rds, mo, rfl, hA, W, mo0, mo1, k⟩ := h
    obtain ⟨q, xs, rfl, e2, _, ra⟩ := tup_inv W.r
    have hl := ra.len
    have l1 := W.l1
    have l2 := W.l2
    refine ⟨_, (pss_cons (ps_set (i := 3) sc_law_way.nd rfl (Or.inl rfl) (pe_tup (pa_cons (pe_call (ok__law_draw T) (hr.mono (by decide)) rfl T._law_draw.g T._law_draw.F.kp T._law_draw.b .nil pass0 (pa_cons (pv 0) (pa_cons (pe_callB call_len_seq (by rfl) T.n_len (by decide +kernel) (pa_cons (pv 1) pa_nil)) pa_nil))) pa_nil)))
      (pss_cons (ps_for PassesOwn.never rfl (pi_range1 (by rfl) T.n_range (pa_cons (pe_call (ok__law_draw T) (hr.mono (by decide)) rfl T._law_draw.g T._law_draw.F.kp T._law_draw.b .nil pass0 (pa_cons (pv 0) (pa_cons (pv 2) pa_nil))) pa_nil)) (pg_name (i := 4) sc_law_way.nd rfl (Or.inl rfl))
      (pss_cons (ps_set (i := 5) sc_law_way.nd rfl (Or.inl rfl) (pe_call (ok__law_next T) (hr.mono (by decide)) rfl T._law_next.g T._law_next.F.kp T._law_next.b .nil pass0 (pa_cons (pv 1) (pa_cons (pe_ix ix_tup (pv 3) (pe_un un_neg pe_int) (fun _ _ => rfl)) pa_nil))))
      (pss_one (ps_if (pt_cmpR op_gt (pe_callB call_len_seq (by rfl) T.n_len (by decide +kernel) (pa_cons (pv 5) pa_nil)) pe_int (nomark _))
      (pss_one (ps_set (i := 3) sc_law_way.nd rfl (Or.inl rfl) (pe_op op_catA (pv 3) (pe_tup (pa_cons (pe_ix ix_list (pv 5) (pe_call (ok__law_draw T) (hr.mono (by decide)) rfl T._law_draw.g T._law_draw.F.kp T._law_draw.b .nil pass0 (pa_cons (pv 0) (pa_cons (pe_callB call_len_seq (by rfl) T.n_len (by decide +kernel) (pa_cons (pv 5) pa_nil)) pa_nil))) (fun _ _ => rfl)) pa_nil)))))
      pss_nil))))
      (pss_one (ps_ret (pv 3))))), ?_⟩
    refine ⟨_, rfl, _, rfl, q, xs, rfl, .inr (SqT.of e2), h, c, _, rfl, hA, by omega, by omega, fun m H1 m0 m1 hA1 b1 => ⟨by show 1 ≤ sizeLine; decide, fun p1 hp1 => ?_⟩⟩
    have W1 := W.nl (b1.nl hA.lst)
    obtain ⟨s2, e2', n2, _, hA2⟩ := new_facts (o := .tup [.int m]) hA1 hp1 rfl
    generalize upd H1 p1 (.tup [.int m]) = H2 at s2 e2' hA2 ⊢
    have W2 := W1.same s2
    obtain ⟨m', rfl⟩ := Int.eq_ofNat_of_zero_le m0
    refine ⟨_, rfl, _, rfl, h, c, mo, rfl, hA2, by omega, by omega, fun kk H3 k0 k1 hA3 b3 => ⟨kk, rfl, by omega, by omega, for_range (lo := 0) (n := kk.toNat) (fun i σ' H' => ∃ (wv : V) (ns : List Nat) (tv bv : Option V),
      σ' = [some (.ref h), some (.ref q), some (.int mo), some wv, tv, bv] ∧ HandAt H' h c ∧ But h H H' ∧ Rp H' h wv (nD ns) ∧ 1 ≤ ns.length ∧ ns.length ≤ i + 1 ∧ (∀ j ∈ ns, j < rds.length) ∧ RdL H' h (.ref q) n rds ∧ wayOk rds ns)
      ⟨.ref p1, [m'], none, none, rfl, hA3, (b1.trans (But.of s2)).trans b3, nD_mk (b3 _ _ e2' n2) (by simp), by simp, by simp, fun j hj => by rw [List.mem_singleton] at hj; omega, W2.nl (b3.nl hA2.lst), wayOk_one rds m'⟩ ?_ ?_⟩⟩
    · rintro i σ' H4 hi ⟨wv, ns, tv, bv, rfl, hA4, b4, r4, n1, n2', hn, W4, wo⟩
      obtain ⟨wa, rfl, ew, zw⟩ := nD_inv r4
      rcases List.eq_nil_or_concat ns with e | ⟨ns', jl, e⟩
      · subst e; simp at n1
      rw [List.concat_eq_append] at e
      have hjl : jl < rds.length := hn jl (by rw [e]; simp)
      have ela : atI (ns.map fun j => V.int (j : Nat)) (-1) = some (.int (jl : Nat)) := by
        rw [e, List.map_append]
        exact atI_last _ _
      refine ⟨_, rfl, _, rfl, _, rfl, wa, _, _, _, rfl, rfl, SqT.of ew, ela, h, .ref q, n, rds, jl, rfl, W4, hjl, fun b H5 s5 fb e5 => ?_⟩
      have hA5 := hA4.mono s5
      have nb := (hA4.ne fb).1
      have W5 := W4.same s5
      have r5 := r4.same s5
      refine ⟨_, rfl, b, _, rfl, .inl (SqL.of e5), _, _, rfl, rfl, _, rfl, ?_⟩
      have zl := List.length_filter_le (fun j' => decide (bg (rds.getD j' .non) = en (dAt rds jl))) (List.range rds.length)
      rw [List.length_range] at zl
      have zl' : (nextL rds jl).length ≤ rds.length := zl
      rw [List.length_map]
      by_cases g : (0 : Int) < ((nextL rds jl).length : Int)
      · rw [decide_eq_true g]
        refine iteT ⟨_, rfl, _, rfl, _, rfl, _, rfl, b, _, rfl, .inl (SqL.of e5), h, c, _, rfl, hA5, by rw [List.length_map]; exact g, by rw [List.length_map]; omega, fun x H6 x0 x1 hA6 b6 => ?_⟩
        rw [List.length_map] at x1
        obtain ⟨x', rfl⟩ := Int.eq_ofNat_of_zero_le x0
        have hx' : x' < (nextL rds jl).length := by omega
        have ex : ((nextL rds jl).map fun j => V.int (j : Nat))[x']? = some (.int ((nextL rds jl)[x'] : Nat)) := by rw [List.getElem?_map, List.getElem?_eq_getElem hx']; rfl
        have hin : (nextL rds jl)[x'] < rds.length := by
          have := List.getElem_mem hx'
          have := (List.mem_filter.mp this).1
          exact List.mem_range.mp this
        refine ⟨b, _, _, _, rfl, rfl, SqL.of (b6 _ _ e5 nb), atI_nat ex, by show 1 ≤ sizeLine; decide, fun p7 hp7 => ?_⟩
        have r6 := r5.monoB b6 hA5
        have W6 := W5.nl (b6.nl hA5.lst)
        obtain ⟨s7, e7, n7, _, hA7⟩ := new_facts (o := .tup [.int ((nextL rds jl)[x'] : Nat)]) hA6 hp7 rfl
        generalize upd H6 p7 (.tup [.int ((nextL rds jl)[x'] : Nat)]) = H7 at s7 e7 hA7 ⊢
        refine catA_rp (es := [.int ((nextL rds jl)[x'] : Nat)]) hA7 (r6.same s7) (.tup e7 (by simp) (.cons (.int _) .nil)) (by rw [List.length_map]; simp; omega) fun v8 H8 s8 hA8 r8 => ?_
        refine ⟨v8, ns ++ [(nextL rds jl)[x']], _, _, rfl, hA8, b4.trans ((But.of s5).trans (b6.trans (But.of (s7.trans s8)))), ?_, ?_, ?_, ?_, (W6.same s7).same s8, ?_⟩
        · unfold nD
          rw [List.map_append]
          exact r8
        · rw [List.length_append]; omega
        · rw [List.length_append, List.length_singleton]; omega
        · intro j hj
          rcases List.mem_append.mp hj with hj | hj
          · exact hn j hj
          · rw [List.mem_singleton] at hj
            subst hj
            exact hin
        · have g := of_decide_eq_true (List.mem_filter.mp (List.getElem_mem hx')).2
          rw [e] at wo ⊢
          refine wayOk_app wo ?_
          rw [← g]
          unfold dAt
          rw [Int.toNat_natCast]
      · rw [decide_eq_false g]
        exact iteF ⟨_, ns, _, _, rfl, hA5, b4.trans (But.of s5), r5, n1, by omega, hn, W5, wo⟩
    · rintro σ' H4 ⟨wv, ns, tv, bv, rfl, hA4, b4, r4, n1, n2', hn, W4, wo⟩
      exact ⟨_, rfl, k wv ns H4 hA4 b4 r4 n1 (by omega) hn wo⟩
def spLettersR : Sp := fun vs H Q _ => ∃ (h c : Addr) (v : V) (n : Int) (rds : List D) (m : Nat) (mo : Int), vs = [.ref h, v, .int (m : Nat), .int mo] ∧ HandAt H h c ∧ RdL H h v n rds ∧ m ≤ 60 ∧ 1 ≤ mo ∧ mo ≤ 8 ∧
  ∀ v' ls H', HandAt H' h c → But h H H' → Rp H' h v' (ltsD ls) → ls.length = m → LsOk rds ls → (∀ l ∈ ls, l.2 ≤ 8) → Q v' H'
end
end Hc


set_option Elab.async false
set_option linter.all false
set_option pp.maxSteps 600
set_option maxRecDepth 100000
set_option maxHeartbeats 4000000
set_option autoImplicit false
namespace Hc
open PySem L2
/-- a sized letter: its way, the tick at which it comes, its size -/
abbrev Sl := List Nat × Int × Int
def slD (s : Sl) : D := .tup [nD s.1, .int s.2.1, .int s.2.2]
def slsD (ls : List Sl) : D := .tup (ls.map slD)
def ltOf (s : Sl) : Lt := (s.1, s.2.1)
def isSz : D → Bool
  | .int i => decide (i = 1) || decide (i = 2)
  | _ => false
def isSl (rds : List D) : D → Bool
  | .tup [w, c, z] => isWay rds w && (isBtw 1 1000000 c && isSz z)
  | _ => false
def areSls (rds : List D) : D → Bool
  | .tup ds => decide (ds.length ≤ 60) && ds.all (isSl rds)
  | _ => false
theorem areSls_tup (rds ds : List D) : areSls rds (.tup ds) = (decide (ds.length ≤ 60) && ds.all (isSl rds)) := rfl
structure SOk (rds : List D) (ls : List Sl) : Prop where
  h : ∀ l ∈ ls, 1 ≤ l.1.length ∧ l.1.length ≤ 8 ∧ (∀ j ∈ l.1, j < rds.length) ∧ wayOk rds l.1 ∧ 1 ≤ l.2.1 ∧ l.2.1 ≤ 1000000 ∧ (l.2.2 = 1 ∨ l.2.2 = 2)
theorem three_of {d : D} (e : isTupN 3 d = true) : ∃ a b c, d = .tup [a, b, c] := by
  cases d with
  | tup ds =>
    have h := of_decide_eq_true (show decide ((ds.length : Int) = 3) = true from e)
    match ds, h with
    | [a, b, c], _ => exact ⟨a, b, c, rfl⟩
    | [], h => simp at h
    | [_], h => simp at h
    | [_, _], h => simp at h
    | _ :: _ :: _ :: _ :: _, h => simp at h; omega
  | _ => exact Bool.noConfusion e
theorem not_three {rds : List D} {d : D} (e : isTupN 3 d = false) : isSl rds d = false := by
  cases d with
  | tup ds =>
    have h := of_decide_eq_false (show decide ((ds.length : Int) = 3) = false from e)
    match ds, h with
    | [a, b, c], h => exact absurd rfl h
    | [], _ => rfl
    | [_], _ => rfl
    | [_, _], _ => rfl
    | _ :: _ :: _ :: _ :: _, _ => rfl
  | _ => rfl
theorem sz_inv {d : D} (e : isSz d = true) : ∃ i : Int, d = .int i ∧ (i = 1 ∨ i = 2) := by
  cases d with
  | int i =>
    have e : (decide (i = 1) || decide (i = 2)) = true := e
    rw [Bool.or_eq_true] at e
    exact ⟨i, rfl, e.imp of_decide_eq_true of_decide_eq_true⟩
  | _ => exact Bool.noConfusion e
theorem sls_inv {rds : List D} {d : D} (e : areSls rds d = true) : ∃ ls, d = slsD ls ∧ SOk rds ls ∧ ls.length ≤ 60 := by
  cases d with
  | tup ds =>
    rw [areSls_tup, Bool.and_eq_true] at e
    obtain ⟨h1, h2⟩ := e
    have h1 := of_decide_eq_true h1
    have key : ∀ ds : List D, ds.all (isSl rds) = true → ∃ ls : List Sl, ds = ls.map slD ∧ SOk rds ls := by
      intro ds
      induction ds with
      | nil => exact fun _ => ⟨[], rfl, ⟨fun _ z => nomatch z⟩⟩
      | cons d ds ih =>
        intro h
        rw [List.all_cons, Bool.and_eq_true] at h
        obtain ⟨ls, rfl, o⟩ := ih h.2
        have h0 := h.1
        have t2 : isTupN 3 d = true := by
          cases q : isTupN 3 d with
          | true => rfl
          | false => rw [not_three q] at h0; cases h0
        obtain ⟨a, b, z, rfl⟩ := three_of t2
        have h0 : (isWay rds a && (isBtw 1 1000000 b && isSz z)) = true := h0
        rw [Bool.and_eq_true, Bool.and_eq_true] at h0
        obtain ⟨ns, rfl, n1, n2, n3, n4⟩ := way_inv h0.1
        obtain ⟨c, rfl⟩ := btw_shape h0.2.1
        obtain ⟨i, rfl, hi⟩ := sz_inv h0.2.2
        have hc : (decide (1 ≤ c) && decide (c ≤ 1000000)) = true := h0.2.1
        rw [Bool.and_eq_true] at hc
        refine ⟨(ns, c, i) :: ls, rfl, ⟨fun l hl => ?_⟩⟩
        rcases List.mem_cons.mp hl with rfl | hl
        · exact ⟨n1, n2, n3, n4, of_decide_eq_true hc.1, of_decide_eq_true hc.2, hi⟩
        · exact o.h l hl
    obtain ⟨ls, rfl, o⟩ := key ds h2
    exact ⟨ls, rfl, o, by rw [List.length_map] at h1; exact h1⟩
  | _ => exact Bool.noConfusion e
theorem sls_ok {rds : List D} {ls : List Sl} (o : SOk rds ls) (h : ls.length ≤ 60) : areSls rds (slsD ls) = true := by
  show areSls rds (.tup (ls.map slD)) = true
  rw [areSls_tup, List.length_map, decide_eq_true h, Bool.true_and, List.all_eq_true]
  intro d hd
  obtain ⟨l, hl, rfl⟩ := List.mem_map.mp hd
  obtain ⟨a1, a2, a3, a4, a5, a6, a7⟩ := o.h l hl
  show (isWay rds (nD l.1) && (isBtw 1 1000000 (.int l.2.1) && (decide (l.2.2 = 1) || decide (l.2.2 = 2)))) = true
  rw [way_ok a1 a2 a3 a4, btw_of a5 a6]
  rcases a7 with a7 | a7 <;> rw [a7] <;> rfl
theorem noL_sl (s : Sl) : noL (slD s) = true := by
  show (noL (nD s.1) && true) = true
  rw [noL_nD]; rfl
theorem noL_sls (ls : List Sl) : noLs (ls.map slD) = true := by
  induction ls with
  | nil => rfl
  | cons l ls ih =>
    show (noL (slD l) && noLs (ls.map slD)) = true
    rw [noL_sl, ih]; rfl
theorem noL_slsD (ls : List Sl) : noL (slsD ls) = true := noL_sls ls
theorem sl_inv {H : Hp} {h : Addr} {v : V} {s : Sl} (r : Rp H h v (slD s)) : ∃ q a, v = .ref q ∧ H q = some (.tup [.ref a, .int s.2.1, .int s.2.2]) ∧ H a = some (.tup (s.1.map fun j => V.int (j : Nat))) := by
  obtain ⟨q, xs, rfl, e, _, ra⟩ := tup_inv r
  cases ra with
  | cons r1 ra =>
  cases ra with
  | cons r2 ra =>
  cases ra with
  | cons r3 ra =>
  cases ra
  cases r2
  cases r3
  obtain ⟨a, rfl, ea, _⟩ := nD_inv r1
  exact ⟨q, a, rfl, e, ea⟩
theorem sls_at {H : Hp} {h : Addr} {v : V} {ls : List Sl} (r : Rp H h v (slsD ls)) : ∃ q xs, v = .ref q ∧ H q = some (.tup xs) ∧ xs.length = ls.length ∧ ∀ (i : Nat) (l : Sl), ls[i]? = some l → ∃ x, xs[i]? = some x ∧ Rp H h x (slD l) := by
  obtain ⟨q, xs, rfl, e, _, ra⟩ := tup_inv r
  have lx := ra.len
  rw [List.length_map] at lx
  refine ⟨q, xs, rfl, e, lx, fun i l el => ?_⟩
  have hi : i < xs.length := by rw [lx]; exact (List.getElem?_eq_some_iff.mp el).1
  obtain ⟨d, hd, rd⟩ := ra.get (List.getElem?_eq_getElem hi)
  rw [List.getElem?_map, el] at hd
  cases hd
  exact ⟨_, List.getElem?_eq_getElem hi, rd⟩
section
variable {P : Program} {w : World} {K : PySem.W.Frag} {mg : Str → Option Value} {base : Heap}
theorem ok_is_size (T : Tx K mg) : FnOk P w K mg base CX0 2 T.is_size.f T.is_size.fd ["thing"] (spThing isSz) := by
  refine T.is_size.F.ok sc_is_size (fun vs H Q E h => ?_) (fun cdv A outer s H vs Q E hr h => ?_)
  · obtain ⟨_, v, d, rfl, _⟩ := h
    rfl
  · obtain ⟨h, v, d, rfl, r, k⟩ := h
    refine ⟨_, (pss_one (ps_ret (pe_and (pe_call (ok_is_integer T) (hr.mono (by decide)) rfl T.is_integer.g T.is_integer.F.kp T.is_integer.b .nil pass0 (pa_cons (pv 0) pa_nil)) (pe_one (pe_cmpR op_in_seq (pv 0) (pe_glob (v := .ref T.c_SIZES.choose) rfl T.c_SIZES.choose_spec.1 rfl) (by rfl)))))), ?_⟩
    refine ⟨_, rfl, h, v, d, rfl, r, _, rfl, ?_⟩
    cases g : isInt d with
    | false =>
      have : isSz d = false := by cases d <;> first | rfl | exact Bool.noConfusion g
      rw [this] at k
      exact iteF k
    | true =>
      obtain ⟨i, rfl⟩ : ∃ i, d = .int i := by cases d <;> first | exact ⟨_, rfl⟩ | exact Bool.noConfusion g
      cases r
      refine iteT ⟨_, rfl, _, _, rfl, .inr (T.c_SIZES.choose_spec.2 _), rfl, rfl, ?_⟩
      have e : inV (.int i) [.int 1, .int 2] = isSz (.int i) := by
        show (((1 : Int) == i) || (((2 : Int) == i) || false)) = (decide (i = 1) || decide (i = 2))
        rw [Bool.or_false]
        congr 1 <;> (rw [Bool.eq_iff_iff, beq_iff_eq, decide_eq_true_eq]; exact eq_comm)
      show Q (.bl (inV (.int i) [.int 1, .int 2])) H
      rw [e]
      exact k
theorem ok_is_sized_letter (T : Tx K mg) : FnOk P w K mg base CX0 5 T.is_sized_letter.f T.is_sized_letter.fd ["web", "thing"] (spJudge T.Web.C isSl) := by
  refine T.is_sized_letter.F.ok sc_is_sized_letter (fun vs H Q E h => ?_) (fun cdv A outer s H vs Q E hr h => ?_)
  · obtain ⟨_, p, n, rds, v, d, rfl, _⟩ := h
    rfl
  · obtain ⟨h, p, n, rds, v, d, rfl, W, r, k⟩ := h
    refine ⟨_, (pss_one (ps_ret (pe_and (pe_call (ok_is_tuple T) (hr.mono (by decide)) rfl T.is_tuple.g T.is_tuple.F.kp T.is_tuple.b .nil pass0 (pa_cons pe_int (pa_cons (pv 1) pa_nil))) (pe_and (pe_call (ok_is_way T) (hr.mono (by decide)) rfl T.is_way.g T.is_way.F.kp T.is_way.b .nil pass0 (pa_cons (pv 0) (pa_cons (pe_ix ix_tup (pv 1) pe_int (fun _ _ => rfl)) pa_nil))) (pe_and (pe_call (ok_is_between T) (hr.mono (by decide)) rfl T.is_between.g T.is_between.F.kp T.is_between.b .nil pass0 (pa_cons pe_int (pa_cons (pe_glob (v := .int 1000000) rfl T.c_LAST_TICK.choose_spec ⟨_, rfl⟩) (pa_cons (pe_ix ix_tup (pv 1) pe_int (fun _ _ => rfl)) pa_nil)))) (pe_one (pe_call (ok_is_size T) (hr.mono (by decide)) rfl T.is_size.g T.is_size.F.kp T.is_size.b .nil pass0 (pa_cons (pe_ix ix_tup (pv 1) pe_int (fun _ _ => rfl)) pa_nil)))))))), ?_⟩
    refine ⟨_, rfl, h, 3, v, d, rfl, r, _, rfl, ?_⟩
    cases e : isTupN 3 d with
    | false =>
      have := k H (Same.refl _)
      rw [not_three e] at this
      exact iteF this
    | true =>
      obtain ⟨a, b, c, rfl⟩ := three_of e
      obtain ⟨q, xs, rfl, eq, _, ra⟩ := tup_inv r
      cases ra with
      | cons r1 ra =>
      cases ra with
      | cons r2 ra =>
      cases ra with
      | cons r3 ra =>
      cases ra
      refine iteT ⟨_, rfl, _, rfl, q, _, 0, _, rfl, rfl, SqT.of eq, atI_nat (j := 0) rfl, h, p, n, rds, _, a, rfl, W, r1, fun H1 s1 => ⟨_, rfl, ?_⟩⟩
      have el : isSl rds (.tup [a, b, c]) = (isWay rds a && (isBtw 1 1000000 b && isSz c)) := rfl
      rw [el] at k
      cases g : isWay rds a with
      | false =>
        rw [g] at k
        exact iteF (k H1 s1)
      | true =>
        rw [g] at k
        refine iteT ⟨_, rfl, q, _, 1, _, rfl, rfl, SqT.of (s1 _ _ eq), atI_nat (j := 1) rfl, h, 1, 1000000, _, b, rfl, r2.same s1, _, rfl, ?_⟩
        cases g2 : isBtw 1 1000000 b with
        | false =>
          rw [g2] at k
          exact iteF (k H1 s1)
        | true =>
          rw [g2] at k
          exact iteT ⟨_, rfl, q, _, 2, _, rfl, rfl, SqT.of (s1 _ _ eq), atI_nat (j := 2) rfl, h, _, c, rfl, r3.same s1, k H1 s1⟩
theorem ok_are_sized_letters (T : Tx K mg) : FnOk P w K mg base CX0 6 T.are_sized_letters.f T.are_sized_letters.fd ["web", "thing"] (spJudge T.Web.C areSls) := by
  refine T.are_sized_letters.F.ok sc_are_sized_letters (fun vs H Q E h => ?_) (fun cdv A outer s H vs Q E hr h => ?_)
  · obtain ⟨_, p, n, rds, v, d, rfl, _⟩ := h
    rfl
  · obtain ⟨h, p, n, rds, v, d, rfl, W, r, k⟩ := h
    refine ⟨_, (pss_one (ps_ret (pe_and (pe_callB call_isi (by rfl) T.n_isinstance (by decide +kernel) (pa_cons (pv 1) (pa_cons (pe_bltn (v := .ty "tuple") (by rfl) T.n_tuple (by decide +kernel) rfl) pa_nil))) (pe_and (pe_cmpR op_le (pe_callB call_len_seq (by rfl) T.n_len (by decide +kernel) (pa_cons (pv 1) pa_nil)) (pe_glob (v := .int 60) rfl T.c_MOST_LETTERS.choose_spec ⟨_, rfl⟩) (nomark _)) (pe_one (pe_callB (cr_all rfl) (by rfl) T.n_all (by decide +kernel) (pa_cons (pe_lc (own := [("letter", 2)]) (g := (gName 2)) (tt := tYes) rfl sc_are_sized_letters.nd (pi_tup (pv 1)) (blkOk_by (own := [("letter", 2)]) (N := ["web", "thing", "letter"]) (sc := defScope s_are_sized_letters) (by decide +kernel)) (fun _ _ _ _ _ => (pg_name (i := 2) sc_are_sized_letters.nd rfl (Or.inl rfl))) (fun _ _ _ _ _ => pts_nil) (fun _ _ _ _ _ => (by exact (pe_call (ok_is_sized_letter T) (hr.mono (by decide)) rfl T.is_sized_letter.g T.is_sized_letter.F.kp T.is_sized_letter.b .nil pass0 (pa_cons (pv 0) (pa_cons (pv 2) pa_nil)))))) pa_nil))))))), ?_⟩
    refine ⟨_, rfl, _, _, _, _, _, rfl, .ty "tuple", r.ty, kit_ty (kitT d), _, rfl, ?_⟩
    cases r with
    | @tup _ xs ds e z ra =>
      refine iteT ⟨_, rfl, _, _, rfl, .inr (SqT.of e), _, _, rfl, rfl, _, rfl, ?_⟩
      rw [ra.len]
      by_cases h2 : ds.length ≤ 60
      · rw [decide_eq_true (show (ds.length : Int) ≤ 60 by omega)]
        refine iteT ⟨_, rfl, _, rfl, ⟨_, SqT.of e⟩, fun A hA => all_tup e z ra (isSl rds) hA (fun x => rfl) (fun x d H' Q' _ sm rp q => ?_) (fun H' sm sl => ?_)⟩
        · exact ⟨_, rfl, _, rfl, h, p, n, rds, _, _, rfl, W.same sm, rp, q⟩
        · refine ⟨_, _, rfl, sl, ?_⟩
          rw [map_all]
          have := k H' sm
          rw [areSls_tup, decide_eq_true h2] at this
          exact this
      · rw [decide_eq_false (show ¬ (ds.length : Int) ≤ 60 by omega)]
        have := k H (Same.refl _)
        rw [areSls_tup, decide_eq_false h2] at this
        exact iteF this
    | _ => exact iteF (k H (Same.refl _))
end
end Hc


set_option Elab.async false
set_option linter.all false
set_option pp.maxSteps 600
set_option maxRecDepth 100000
set_option maxHeartbeats 4000000
set_option autoImplicit false
namespace Hc
open PySem L2
def isOne : D → Bool
  | .int i => decide (i = 1)
  | _ => false
def plainB (rm tm : List Int) : Bool := (rm ++ tm).all fun i => decide (i = 1)
def firstS (l : Sl) (r : List Int) : List Int := l.2.1 :: (r.take (r.length - 1)).map fun x => x + l.2.2
def early1 (l : Sl) (r : List Int) : Bool := (r.zip (firstS l r)).any fun q => decide (q.1 < q.2)
def earlyS (ls : List Sl) (rows : List (List Int)) : Bool := (ls.zip rows).any fun p => early1 p.1 p.2
theorem ltOf_len {ls : List Sl} {rows : List (List Int)} (o : LenOk (ls.map ltOf) rows) : rows.length = ls.length ∧ ∀ (k : Nat) (l : Sl) (r : List Int), ls[k]? = some l → rows[k]? = some r → r.length = l.1.length :=
  ⟨by rw [o.1, List.length_map], fun k l r e1 e2 => o.2 k (ltOf l) r (by rw [List.getElem?_map, e1]; rfl) e2⟩
section
variable {P : Program} {w : World} {K : PySem.W.Frag} {mg : Str → Option Value} {base : Heap}
def spPlain (C : Addr) : Sp := fun vs H Q _ => ∃ (h p : Addr) (n : Int) (rds : List D) (rm tm : List Int), vs = [.ref p] ∧ WebR C H h p n rds rm tm ∧ ∀ H', Same H H' → Q (.bl (plainB rm tm)) H'
theorem ok_is_plain (T : Tx K mg) : FnOk P w K mg base CX0 1 T.is_plain.f T.is_plain.fd ["web"] (spPlain T.Web.C) := by
  refine T.is_plain.F.ok sc_is_plain (fun vs H Q E h => ?_) (fun cdv A outer s H vs Q E hr h => ?_)
  · obtain ⟨_, p, _, _, _, _, rfl, _⟩ := h
    rfl
  · obtain ⟨h, p, n, rds, rm, tm, rfl, W, k⟩ := h
    obtain ⟨dx, v1, v2, v3, v4, ep, _, r3, r4⟩ := W.ex
    obtain ⟨q3, x3, rfl, e3, _, ra3⟩ := tup_inv r3
    obtain ⟨q4, x4, rfl, e4, _, ra4⟩ := tup_inv r4
    have e30 := ra3.ints_inv
    have e40 := ra4.ints_inv
    have l1 := W.l1
    have l2 := W.l2
    have l3 := W.lr
    have l4 := W.lt
    refine ⟨_, (pss_one (ps_ret (pe_callB (cr_all rfl) (by rfl) T.n_all (by decide +kernel) (pa_cons (pe_lc (own := [("number", 1)]) (g := (gName 1)) (tt := tYes) (te := (tOp rEq (tVar 1) (tC (.int 1)))) rfl sc_is_plain.nd (pi_tup (pe_op op_catA (pe_fld (pv 0) rfl) (pe_fld (pv 0) rfl))) (blkOk_by (own := [("number", 1)]) (N := ["web", "number"]) (sc := defScope s_is_plain) (by decide +kernel)) (fun _ _ _ _ _ => (pg_name (i := 1) sc_is_plain.nd rfl (Or.inl rfl))) (fun _ _ _ _ _ => pts_nil) (fun _ _ _ _ _ => (by exact (pe_cmpR op_eq (pv 1) pe_int (nomark _))))) pa_nil)))), ?_⟩
    refine ⟨_, rfl, p, T.Web.C, dx, _, _, rfl, ep, T.Web.cl, T.Web.no _ (by simp), wF_m _ _ _ _, _, rfl, p, T.Web.C, dx, _, _, rfl, ep, T.Web.cl, T.Web.no _ (by simp), wF_t _ _ _ _, ?_⟩
    have n3 : x3.length = rm.length := by rw [e30, List.length_map]
    have n4 : x4.length = tm.length := by rw [e40, List.length_map]
    refine ⟨q3, q4, x3, x4, rfl, rfl, SqT.of e3, SqT.of e4, line_le (by omega), fun z => ?_, fun _ z => ?_, fun _ _ q hq => ?_⟩
    · rw [z] at n3; simp at n3; omega
    · rw [z] at n4; simp at n4; omega
    have s5 : Same H (upd H q (.tup (x3 ++ x4))) := same_upd hq
    have e5 : (upd H q (.tup (x3 ++ x4))) q = some (.tup ((rm ++ tm).map V.int)) := by rw [upd_same, e30, e40, List.map_append]
    generalize upd H q (.tup (x3 ++ x4)) = H5 at s5 e5 ⊢
    refine ⟨q, rfl, ⟨_, SqT.of e5⟩, fun A hA => all_tup (h := h) e5 (by rw [List.length_map, List.length_append]; omega) (RpA.ints (rm ++ tm)) isOne hA (fun x => rfl) (fun x d H' Q' hd sm rp q => ?_) (fun H' sm sl => ?_)⟩
    · obtain ⟨i, _, rfl⟩ := List.mem_map.mp hd
      cases rp
      have ei : decide (V.int i = V.int 1) = isOne (.int i) := int_eqd i 1
      refine ⟨_, rfl, rfl, ?_⟩
      show Q' (.bl (decide (V.int i = V.int 1))) H'
      rw [ei]
      exact q H' (Same.refl _)
    · refine ⟨_, _, rfl, sl, ?_⟩
      rw [map_all]
      have := k H' (s5.trans sm)
      have em : ((rm ++ tm).map D.int).all isOne = plainB rm tm := by rw [List.all_map]; rfl
      rw [em]
      exact this
def spAreHoursS : Sp := fun vs H Q _ => ∃ (h : Addr) (vl v : V) (ls : List Sl) (d : D), vs = [vl, v] ∧ Rp H h vl (slsD ls) ∧ Rp H h v d ∧ ls.length ≤ 1000 ∧ ∀ H', Same H H' → Q (.bl (areHours (ls.map ltOf) d)) H'
theorem ok_are_sized_hours (T : Tx K mg) : FnOk P w K mg base CX0 3 T.are_sized_hours.f T.are_sized_hours.fd ["letters", "thing"] spAreHoursS := by
  refine T.are_sized_hours.F.ok sc_are_sized_hours (fun vs H Q E h => ?_) (fun cdv A outer s H vs Q E hr h => ?_)
  · obtain ⟨_, _, _, _, _, rfl, _⟩ := h
    rfl
  · obtain ⟨h, vl, v, ls, d, rfl, rl, r, l1000, k⟩ := h
    obtain ⟨q, xs, rfl, eq, lx, at_⟩ := sls_at rl
    refine ⟨_, (pss_one (ps_ret (pe_and (pe_call (ok_is_tuple T) (hr.mono (by decide)) rfl T.is_tuple.g T.is_tuple.F.kp T.is_tuple.b .nil pass0 (pa_cons (pe_callB call_len_seq (by rfl) T.n_len (by decide +kernel) (pa_cons (pv 0) pa_nil)) (pa_cons (pv 1) pa_nil))) (pe_one (pe_callB (cr_all rfl) (by rfl) T.n_all (by decide +kernel) (pa_cons (pe_lc (own := [("letter", 2), ("row", 3)]) (g := (gTup K 2 (gCons (gName 2) (gCons (gName 3) gNil)))) (tt := tYes) (te := (tCall spInts [] E0 (tCons (tCB (rLenS K) (tCons (tOp (rIxT K) (tVar 2) (tC (.int 0))) tNil)) (tCons (tVar 3) tNil)))) rfl sc_are_sized_hours.nd (RZ.pi_zipA (by rfl) T.n_zip (pa_cons (pv 0) (pa_cons (pv 1) pa_nil))) (blkOk_by (own := [("letter", 2), ("row", 3)]) (N := ["letters", "thing", "letter", "row"]) (sc := defScope s_are_sized_hours) (by decide +kernel)) (fun _ _ _ _ _ => (pg_tup (by rfl) (pgs_cons (pg_name (i := 2) sc_are_sized_hours.nd rfl (Or.inl rfl)) (pgs_cons (pg_name (i := 3) sc_are_sized_hours.nd rfl (Or.inl rfl)) pgs_nil)))) (fun _ _ _ _ _ => pts_nil) (fun _ _ _ _ _ => (by exact (pe_call (ok_are_integers T) (hr.mono (by decide)) rfl T.are_integers.g T.are_integers.F.kp T.are_integers.b .nil pass0 (pa_cons (pe_callB call_len_seq (by rfl) T.n_len (by decide +kernel) (pa_cons (pe_ix ix_tup (pv 2) pe_int (fun _ _ => rfl)) pa_nil)) (pa_cons (pv 3) pa_nil)))))) pa_nil)))))), ?_⟩
    refine ⟨_, rfl, q, _, rfl, .inr (SqT.of eq), _, rfl, h, (xs.length : Nat), v, d, rfl, r, _, rfl, ?_⟩
    cases g : isTupN (xs.length : Nat) d with
    | false =>
      have e : areHours (ls.map ltOf) d = false := by
        cases d with
        | tup ds =>
          have g := of_decide_eq_false (show decide ((ds.length : Int) = (xs.length : Nat)) = false from g)
          rw [areHours_tup, decide_eq_false (by rw [List.length_map]; omega)]; rfl
        | _ => rfl
      rw [e] at k
      exact iteF (k H (Same.refl _))
    | true =>
    cases r with
    | @tup a ys ds e z ra =>
      have g := of_decide_eq_true (show decide ((ds.length : Int) = (xs.length : Nat)) = true from g)
      have ly := ra.len
      refine iteT ⟨_, rfl, _, rfl, q, a, xs, ys, rfl, .inr ⟨SqT.of eq, SqT.of e, fun D hD => ?_⟩⟩
      refine lc_zipT (xs := xs) (ys := ys) (fun i H' => Same H (fun b => if b = D then none else H' b) ∧ H' D = some (.lst (((((ls.map ltOf).zip ds).take i).map fun p => areInts (p.1.1.length : Nat) p.2).map V.bl)))
        ⟨mask_upd hD (Same.refl _), upd_same⟩ (fun i H' ⟨s, _⟩ => ⟨SqT.of (mask hD s _ _ eq), SqT.of (mask hD s _ _ e)⟩) ?_ ?_
      · rintro i x y TT H' hx hy ⟨s, hd⟩ hT
        have sm := mask hD s
        have hi : i < ls.length := by rw [← lx]; exact (List.getElem?_eq_some_iff.mp hx).1
        obtain ⟨l, el⟩ : ∃ l, ls[i]? = some l := ⟨_, List.getElem?_eq_getElem hi⟩
        obtain ⟨x', ex', rx⟩ := at_ i l el
        rw [hx] at ex'
        cases ex'
        obtain ⟨dy, edy, ry⟩ := ra.get hy
        obtain ⟨ql, al, rfl, eql, eal⟩ := sl_inv rx
        have s1 : Same H' (upd H' TT (.tup [.ref ql, y])) := same_upd hT
        have s2 := sm.trans s1
        have ez : ((ls.map ltOf).zip ds)[i]? = some (ltOf l, dy) := by rw [List.getElem?_zip_eq_some, List.getElem?_map, el]; exact ⟨rfl, edy⟩
        refine ⟨TT, _, rfl, SqT.of upd_same, rfl, _, _, rfl, _, _, rfl, rfl, rfl, tyes ⟨_, rfl, ql, _, 0, _, rfl, rfl, SqT.of (s2 _ _ eql), atI_nat (j := 0) rfl, al, _, rfl, .inr (SqT.of (s2 _ _ eal)), _, rfl, h, _, y, dy, rfl, ry.same s2, fun H3 s3 => ⟨_, s3 _ _ (s1 _ _ hd), ?_, ?_, ?_⟩⟩⟩
        · rw [List.length_map, List.length_map, List.length_take, List.length_zip, List.length_map]; exact line_lt (by omega)
        · exact mask_upd hD (s2.trans s3)
        · rw [upd_same, take_more ez, List.map_append, List.map_append, List.length_map]; rfl
      · rintro H' ⟨s, hd⟩
        have : min xs.length ys.length = ((ls.map ltOf).zip ds).length := by rw [List.length_zip, List.length_map]; omega
        rw [this, List.take_length] at hd
        refine ⟨_, _, rfl, SqL.of hd, ?_⟩
        have := k H' (mask hD s)
        rw [areHours_tup, decide_eq_true (by rw [List.length_map]; omega), Bool.true_and] at this
        have em : (((ls.map ltOf).zip ds).map fun p => areInts (p.1.1.length : Nat) p.2).all id = ((ls.map ltOf).zip ds).all fun p => areInts (p.1.1.length : Nat) p.2 := by rw [List.all_map]; rfl
        rw [em]
        exact this
    | _ => exact Bool.noConfusion g
end
end Hc


set_option Elab.async false
set_option linter.all false
set_option maxRecDepth 100000
set_option maxHeartbeats 1000000
set_option autoImplicit false
/-! ### walks over ranges of great numbers -/
namespace PySem.LR
open PySem PySem.F
theorem owner_ : Manifest.owners.lookup (String.ofList ['r', 'o', 't', 'a', 'r', 'e', 't', 'i', '_', 'e', 'g', 'n', 'a', 'r', 'g', 'n', 'o', 'l'].reverse) = some Manifest.sig_longrange_iterator := by kernel_rfl
theorem slot_next : Slot "longrange_iterator" "__next__" "longrange_iterator.__next__" :=
  .of (owner := "longrange_iterator") (n := "__next__") (by rw [typeLookup_type, builtinLookup_eq_fast]; kernel_rfl) (by decide +kernel) (by decide +kernel) (by decide +kernel)
    (by first | exact .inl (by decide +kernel) | exact .inr (by decide +kernel)) (by rw [isSubtype_type]; kernel_rfl)
theorem entry_next : entryFor table "longrange_iterator.__next__" = some Builtin.«longrange_iterator.__next__» := entryFor_of_tree (by kernel_rfl)
theorem args_next (a : Value) : argsOk "longrange_iterator.__next__" ⟨[a], []⟩ := by
  unfold argsOk; rw [signature?_of (id := "longrange_iterator.__next__") (n := ['_', '_', 't', 'x', 'e', 'n', '_', '_']) (o := ['r', 'o', 't', 'a', 'r', 'e', 't', 'i', '_', 'e', 'g', 'n', 'a', 'r', 'g', 'n', 'o', 'l']) (by kernel_rfl) owner_]; kernel_rfl
theorem slot_iter : Slot "longrange_iterator" "__iter__" "longrange_iterator.__iter__" :=
  .of (owner := "longrange_iterator") (n := "__iter__") (by rw [typeLookup_type, builtinLookup_eq_fast]; kernel_rfl) (by decide +kernel) (by decide +kernel) (by decide +kernel)
    (by first | exact .inl (by decide +kernel) | exact .inr (by decide +kernel)) (by rw [isSubtype_type]; kernel_rfl)
theorem entry_iter : entryFor table "longrange_iterator.__iter__" = some Builtin.«dict_keyiterator.__iter__» :=
  entryFor_alias (id' := "dict_keyiterator.__iter__") (by kernel_rfl) (by first | rfl | decide +kernel | (unfold String.splitOn; simp +decide [String.splitOnAux])) (by decide +kernel) (by kernel_rfl)
theorem args_iter (a : Value) : argsOk "longrange_iterator.__iter__" ⟨[a], []⟩ := by
  unfold argsOk; rw [signature?_of (id := "longrange_iterator.__iter__") (n := ['_', '_', 'r', 'e', 't', 'i', '_', '_']) (o := ['r', 'o', 't', 'a', 'r', 'e', 't', 'i', '_', 'e', 'g', 'n', 'a', 'r', 'g', 'n', 'o', 'l']) (by kernel_rfl) owner_]; kernel_rfl
abbrev IsL (h : Heap) (it : Addr) (x left step : Int) : Prop := h.get? it = some { cls := .type "longrange_iterator", dict := none, data := .fields #[rawInt x, rawInt left, rawInt step], slots := #[] }
theorem next_meets (it : Addr) (x left step : Int) (hc0 : ¬left ≤ 0) :
    Meets (Builtin.«longrange_iterator.__next__» ⟨[.ref it], []⟩) (fun _ R s => IsL s.heap it x left step ∧ R (.ok (.ret (Value.int x s.toks))) { s with heap := (s.heap.update it (Obj.mapFields fun y => y.setIfInBounds 0 (rawInt (x + step)))).update it (Obj.mapFields fun y => y.setIfInBounds 1 (rawInt (left - 1))), toks := s.toks + 1 }) :=
  .of_wp fun prog w A R s h => by obtain ⟨hp, g, d, tk, os⟩ := s; obtain ⟨hl, h⟩ := h; wp_walk; exact ⟨_, rfl, h⟩
section
variable {prog : Program} {w : World} {A : Around} {E : Value → Shared → Prop} {s : Shared}
theorem wpAny_iter_self {it : Addr} {x left step : Int} {Q : Value → Shared → Prop} (hit : IsL s.heap it x left step) (h : Q (.ref it) s) : wpAny (model prog w) A (pyIter (.ref it)) Q E s := by
  have hT : s.TypeIs (.ref it) "longrange_iterator" := ⟨_, hit, rfl⟩
  refine wpAny_pyIter_slot hT slot_iter (wpAny_call_entry slot_iter hT entry_iter ?_ (args_iter _))
  show wpAny _ _ (ret (.ref it)) _ _ s
  exact wpAny_pure ⟨_, rfl, "longrange_iterator", _, hT, slot_next.lookup, h⟩
theorem wpAny_iter {r : Addr} {a b c : Int} {t u v : Tok} {Q : Value → Shared → Prop} (hr : IsRange s.heap r a b c t u v) (hsmall : Builtin.Range.small a b c = false)
    (hQ : Q (.ref s.heap.objs.size) { s with heap := s.heap.push { cls := .type "longrange_iterator", data := .fields #[rawInt a, rawInt (Builtin.Range.rangeSize a b c), rawInt c] } }) :
    wpAny (model prog w) A (pyIter (.ref r)) Q E s := by
  have hT : s.TypeIs (.ref r) "range" := ⟨_, hr, rfl⟩
  unfold Builtin.Range.small at hsmall
  refine wpAny_pyIter_slot hT F.slot_range_iter (call_meets F.slot_range_iter hT F.entry_range_iter (F.args_range_iter_1 _)
    (AutoRange.range___iter___range_0 r a b c t u v (by rw [hsmall]; rfl)) ⟨hr, ?_⟩)
  simp only [hsmall]
  exact ⟨"longrange_iterator", _, ⟨_, Heap.get?_push_size _ rfl, rfl⟩, slot_next.lookup, hQ⟩
theorem wpAny_next_item {it : Addr} {x left step : Int} {Q : Option Value → Shared → Prop} (hit : IsL s.heap it x left step) (hleft : 0 < left)
    (hQ : ∀ h', IsL h' it (x + step) (left - 1) step → Heap.SameBut it s.heap h' → Q (some (.int x s.toks)) { s with heap := h', toks := s.toks + 1 }) :
    wpAny (model prog w) A (pyNext (.ref it)) Q E s := by
  have hT : s.TypeIs (.ref it) "longrange_iterator" := ⟨_, hit, rfl⟩
  unfold pyNext
  refine wpAny_bind (wpAny_attempt (wpAny_callSpecial?_slot (name := Str.ofString "__next__") hT slot_next
    (call_meets slot_next hT entry_next (args_next _) (next_meets it x left step (by omega)) ⟨hit, ?_⟩)))
  exact wpAny_pure (hQ _ (Heap.get?_update_self _ (Heap.get?_update_self _ hit rfl) rfl) ((Heap.SameBut.update ..).trans (Heap.SameBut.update ..)))
theorem wpAny_next_end {it : Addr} {x left step : Int} {Q : Option Value → Shared → Prop} (hh : A.handled = none) (hit : IsL s.heap it x left step) (hleft : left ≤ 0)
    (hQ : ∀ h', Heap.ExtBut it s.heap h' → Q none { s with heap := h' }) : wpAny (model prog w) A (pyNext (.ref it)) Q E s := by
  have hT : s.TypeIs (.ref it) "longrange_iterator" := ⟨_, hit, rfl⟩
  unfold pyNext
  refine wpAny_bind (wpAny_attempt (wpAny_callSpecial?_slot (name := Str.ofString "__next__") hT slot_next
    (wpAny_call_entry slot_next hT entry_next ?_ (args_next _))))
  unfold Builtin.«longrange_iterator.__next__»
  repeat wp_step
  refine (?_ : wpAny _ _ (raiseNew _) _ _ _)
  simp only [raiseNew]
  refine wpAny_bind (wpAny_handled ?_)
  first | rw [show A.in1.handled = none from hh] | rw [hh]
  refine wpAny_bind (wpAny_pure (wpAny_throw ?_))
  refine wpAny_bind (wpAny_isInstance (T := "StopIteration") (b := true) ⟨_, Heap.get?_push_size _ rfl, rfl⟩ isSubtype_stop ?_)
  exact wpAny_pure (hQ _ (((Heap.ExtBut.refl it s.heap).push _).push _))
end
end PySem.LR
namespace L2
open PySem PySem.Spec PyProof.Rows
theorem turn_long {P : Program} {w : World} {K : PySem.W.Frag} {tg : Expr} (it : Addr) (lo : Int) (n : Nat) : Turn P w K tg (Itr lo n) [it] it (fun i h => LR.IsL h it (lo + (i : Nat)) ((n : Int) - (i : Nat)) 1) where
  mem := by simp
  obj := fun i h st b hb => by
    have e : b = it := by simpa using hb
    subst e
    exact ⟨_, st, fun v z => by
      have z' : Data.fields _ = Data.cell v := z
      cases z'⟩
  keep := fun i h h' st k => k it (by simp) _ st
  item := by
    intro X hP hw hK hc i pins s σ H E I hf st hg
    subst hP hw hK
    obtain ⟨f0, f1, f2, f3, f4, f5⟩ := hf it (by simp)
    have hg' : i < n := hg
    refine LR.wpAny_next_item st (by omega) fun h' hit' hs' => ?_
    have I1 : Inv X pins σ H { s with heap := h', toks := s.toks + 1 } := I.turned (fun b o hb e => hs'.extBut b o (by simpa using hb) e) f0 f1 f3 f4 f5
    have e1 : lo + ((i + 1 : Nat) : Int) = lo + (i : Int) + 1 := by push_cast; omega
    have e2 : (n : Int) - ((i + 1 : Nat) : Int) = (n : Int) - (i : Int) - 1 := by push_cast; omega
    rw [← e1, ← e2] at hit'
    exact ⟨_, rfl, go_of (s := { s with heap := h', toks := s.toks + 1 }) (n := "longrange_iterator") hit' rfl rfl (by decide) ⟨.int (lo + i), H, I1, ⟨s.toks, rfl⟩, ⟨rfl, rfl⟩, hit', fun b hb => (hf b hb).1⟩⟩
  done := by
    intro X hP hw hK hc i pins s σ H E I hf st hg
    subst hP hw hK
    obtain ⟨f0, f1, f2, f3, f4, f5⟩ := hf it (by simp)
    exact LR.wpAny_next_end (I.ok.hd hc) st (by have : n ≤ i := hg; omega) fun h' eb => ⟨rfl, I.turned (t' := s.toks) (fun b o hb e => eb b o hb e) f0 f1 f3 f4 f5⟩
  self := fun _ _ _ _ _ st h => LR.wpAny_iter_self st h
section
variable {X : Cx} {tg : Expr}
theorem range_itW {pins : List (Addr × Obj)} {σ : St} {H : Hp} {s : Shared} {R : It → Hp → Prop} {E : Value → Shared → Prop} {lo hi : Int} {t u v : Tok} {tk : Nat} (I : Inv X pins σ H s)
    (q : R (Itr lo (hi - lo).toNat) H) : wpAny (model X.prog X.w) X.A (pyIter (.ref s.heap.objs.size)) (PIE X pins σ tg R) E { s with heap := s.heap.push { cls := .type "range", data := .fields #[.int lo t, .int hi u, .int 1 v] }, toks := tk } := by
  have I1 : Inv X pins σ H { s with heap := s.heap.push { cls := .type "range", data := .fields #[.int lo t, .int hi u, .int 1 v] }, toks := tk } := I.kept fun b o e => Heap.get?_push_of_some _ e
  have e2 : (((hi - lo).toNat : Nat) : Int) - ((0 : Nat) : Int) = Builtin.Range.rangeSize lo hi 1 := by rw [rangeSize_one]; split <;> omega
  cases sm : Builtin.Range.small lo hi 1 with
  | true =>
    refine wpAny_pyIter_range (IsRange.new ..) sm ?_
    refine ⟨(s.heap.push { cls := .type "range", data := .fields #[.int lo t, .int hi u, .int 1 v] }).objs.size, [(s.heap.push { cls := .type "range", data := .fields #[.int lo t, .int hi u, .int 1 v] }).objs.size], _, _, H, rfl,
      I1.kept (t' := tk) fun b o e => Heap.get?_push_of_some _ e, turn_range _ lo (hi - lo).toNat, ?_, fun b hb => ?_, q⟩
    · have e1 : lo + ((0 : Nat) : Int) * 1 = lo := by simp
      show IsRangeIter _ _ (lo + ((0 : Nat) : Int) * 1) ((((hi - lo).toNat : Nat) : Int) - ((0 : Nat) : Int)) 1
      rw [e1, e2]
      exact Heap.get?_push_size _ rfl
    · have e : b = (s.heap.push { cls := .type "range", data := .fields #[.int lo t, .int hi u, .int 1 v] }).objs.size := by simpa using hb
      subst e
      exact I1.fpOk (Nat.le_refl _) (I1.hok.fresh (Nat.le_refl _))
  | false =>
    refine LR.wpAny_iter (IsRange.new ..) sm ?_
    refine ⟨(s.heap.push { cls := .type "range", data := .fields #[.int lo t, .int hi u, .int 1 v] }).objs.size, [(s.heap.push { cls := .type "range", data := .fields #[.int lo t, .int hi u, .int 1 v] }).objs.size], _, _, H, rfl,
      I1.kept (t' := tk) fun b o e => Heap.get?_push_of_some _ e, turn_long _ lo (hi - lo).toNat, ?_, fun b hb => ?_, q⟩
    · have e1 : lo + ((0 : Nat) : Int) = lo := by simp
      show LR.IsL _ _ (lo + ((0 : Nat) : Int)) ((((hi - lo).toNat : Nat) : Int) - ((0 : Nat) : Int)) 1
      rw [e1, e2]
      exact Heap.get?_push_size _ rfl
    · have e : b = (s.heap.push { cls := .type "range", data := .fields #[.int lo t, .int hi u, .int 1 v] }).objs.size := by simpa using hb
      subst e
      exact I1.fpOk (Nat.le_refl _) (I1.hok.fresh (Nat.le_refl _))
def iRng2W (ta : TA) : TI := fun σ H R => ta σ H fun vs H1 => ∃ i j : Int, vs = [.int i, .int j] ∧ R (Itr i (j - i).toNat) H1
theorem pi_range2W {a b : Expr} {ta : TA} {p pos : Pos} (hg : Gl X "range") (hm : X.mg "range" = none) (ha : PA X [a, b] ta) (hs : starEach [a, b] X.env = [(false, eval a X.env), (false, eval b X.env)] := by rfl) (hs2 : starEach [b] X.env = [(false, eval b X.env)] := by rfl) :
    PI X tg (.Call (.Name "range" p) [a, b] [] pos) (iRng2W ta) := by
  refine ⟨fun pins s σ H R I h => ?_⟩
  refine Call_ (ld_blt I hg hm boot_range (PyProof.Rows.callWith_type1 (thn (ha.run pos pins s σ H _ I h) fun us s1 ⟨vs, H1, I1, r1, q1⟩ => ?_) (by rw [hs, hs2]) (by rw [hs2]; rfl)))
  obtain ⟨i, j, e, q⟩ := q1
  subst e
  cases r1 with
  | cons r rr =>
    cases rr with
    | cons r' rr =>
      cases rr
      obtain ⟨t, rfl⟩ := r
      obtain ⟨t', rfl⟩ := r'
      exact call_range_2 (range_itW I1 q)
end
end L2


set_option Elab.async false
set_option linter.all false
set_option pp.maxSteps 600
set_option maxRecDepth 100000
set_option maxHeartbeats 4000000
set_option autoImplicit false
namespace Hc
open PySem L2
def prsOf (l : Sl) (r : List Int) : List (Nat × Int) := (l.1.zip r).flatMap fun p => (List.range l.2.2.toNat).map fun (k : Nat) => (p.1, p.2 + (k : Int))
def prs (ls : List Sl) (rows : List (List Int)) : List (Nat × Int) := (ls.zip rows).flatMap fun p => prsOf p.1 p.2
def fullS (ls : List Sl) (rows : List (List Int)) : Bool := !decide (prs ls rows).Nodup
/-- the dict has just these keys -/
structure Ks (kvs : List (List L2.Key × V)) (pf : List (Nat × Int)) : Prop where
  get : ∀ e, (valV kvs (keyOf e)).isSome = decide (e ∈ pf)
  nd : pf.Nodup
  len : kvs.length ≤ pf.length
theorem Ks.nil : Ks [] [] := ⟨fun e => rfl, List.nodup_nil, Nat.le_refl _⟩
theorem Ks.put {kvs : List (List L2.Key × V)} {pf : List (Nat × Int)} (c : Ks kvs pf) {e : Nat × Int} (h : e ∉ pf) (v : V) : Ks (putK kvs (keyOf e) v) (pf ++ [e]) := by
  refine ⟨fun x => ?_, ?_, ?_⟩
  · rw [valV_put]
    by_cases q : e = x
    · subst q
      rw [if_pos rfl, decide_eq_true (List.mem_append_right _ (List.mem_singleton_self _))]; rfl
    · rw [if_neg (fun z => q (keyOf_inj z).symm), c.get]
      rw [decide_eq_decide]
      exact ⟨fun z => List.mem_append_left _ z, fun z => by
        rcases List.mem_append.mp z with z | z
        · exact z
        · exact absurd (List.mem_singleton.mp z).symm q⟩
  · rw [List.nodup_append]
    exact ⟨c.nd, by simp, fun a ha b hb => by rw [List.mem_singleton] at hb; subst hb; exact fun z => h (by rw [← z]; exact ha)⟩
  · have := length_putK kvs (keyOf e) v
    have := c.len
    rw [List.length_append, List.length_singleton]; omega
theorem dup_not {pf rest : List (Nat × Int)} {e : Nat × Int} (h : e ∈ pf) : ¬ (pf ++ e :: rest).Nodup := fun z => by
  rw [List.nodup_append] at z
  exact z.2.2 e h e List.mem_cons_self rfl
theorem size_len {l : Sl} (h : l.2.2 = 1 ∨ l.2.2 = 2) : l.2.2.toNat ≤ 2 := by omega
theorem prsOf_len {l : Sl} {r : List Int} (h : l.2.2 = 1 ∨ l.2.2 = 2) : (prsOf l r).length ≤ 2 * (l.1.zip r).length := by
  unfold prsOf
  exact flat_len _ fun p _ => by rw [List.length_map, List.length_range]; exact size_len h
section
variable {P : Program} {w : World} {K : PySem.W.Frag} {mg : Str → Option Value} {base : Heap}
def spEarlyS : Sp := fun vs H Q _ => ∃ (h b : Addr) (vl : V) (ls : List Sl) (rows : List (List Int)), vs = [vl, .ref b] ∧ Rp H h vl (slsD ls) ∧ Rp H h (.ref b) (rowsD rows) ∧ rows.length = ls.length ∧
  (∀ r ∈ rows, r.length ≤ 1000) ∧ ∀ H', Same H H' → Q (.bl (earlyS ls rows)) H'
theorem ok_some_sized_early (T : Tx K mg) : FnOk P w K mg base CX0 2 T.some_sized_early.f T.some_sized_early.fd ["letters", "hours"] spEarlyS := by
  refine T.some_sized_early.F.ok sc_some_sized_early (fun vs H Q E h => ?_) (fun cdv A outer s H vs Q E hr h => ?_)
  · obtain ⟨_, _, _, _, _, rfl, _⟩ := h
    rfl
  · obtain ⟨h, b, vl, ls, rows, rfl, rl, rr, ll, r1000, k⟩ := h
    obtain ⟨q, xs, rfl, eq, lx, at_⟩ := sls_at rl
    obtain ⟨_, ys, eb, er, ly, rat⟩ := rows_at rr
    cases eb
    refine ⟨_, (pss_cons (ps_for PassesOwn.never rfl (RZ.pi_zipA (by rfl) T.n_zip (pa_cons (pv 0) (pa_cons (pv 1) pa_nil))) (pg_tup (by rfl) (pgs_cons (by exact (pg_tup (by rfl) (pgs_cons (pg_name (i := 2) sc_some_sized_early.nd rfl (Or.inl rfl)) (pgs_cons (pg_name (i := 3) sc_some_sized_early.nd rfl (Or.inl rfl)) (pgs_cons (pg_name (i := 4) sc_some_sized_early.nd rfl (Or.inr rfl)) pgs_nil))))) (pgs_cons (pg_name (i := 5) sc_some_sized_early.nd rfl (Or.inl rfl)) pgs_nil)))
      (pss_cons (ps_set (i := 6) sc_some_sized_early.nd rfl (Or.inl rfl) (pe_op op_cat (pe_lst (pa_cons (pv 3) pa_nil)) (pe_lc (own := [("hour", 7)]) (g := (gName 7)) (tt := tYes) rfl sc_some_sized_early.nd (pi_tup (pe_slice sl_tupA (pv 5) po_none (po_some (pe_un un_neg pe_int)))) (blkOk_by (own := [("hour", 7)]) (N := ["letters", "hours", "_", "come", "size", "row", "firsts", "hour", "first"]) (sc := defScope s_some_sized_early) (by decide +kernel)) (fun _ _ _ _ _ => (pg_name (i := 7) sc_some_sized_early.nd rfl (Or.inl rfl))) (fun _ _ _ _ _ => pts_nil) (fun _ _ _ _ _ => (by exact (pe_op op_add (pv 7) (pv 4)))))))
      (pss_one (ps_if (pt_val (pe_callB (cr_any rfl) (by rfl) T.n_any (by decide +kernel) (pa_cons (pe_lc (own := [("hour", 7), ("first", 8)]) (g := (gTup K 2 (gCons (gName 7) (gCons (gName 8) gNil)))) (tt := tYes) rfl sc_some_sized_early.nd (pi_zipM (by rfl) T.n_zip (pa_cons (pv 5) (pa_cons (pv 6) pa_nil))) (blkOk_by (own := [("hour", 7), ("first", 8)]) (N := ["letters", "hours", "_", "come", "size", "row", "firsts", "hour", "first"]) (sc := defScope s_some_sized_early) (by decide +kernel)) (fun _ _ _ _ _ => (pg_tup (by rfl) (pgs_cons (pg_name (i := 7) sc_some_sized_early.nd rfl (Or.inl rfl)) (pgs_cons (pg_name (i := 8) sc_some_sized_early.nd rfl (Or.inl rfl)) pgs_nil)))) (fun _ _ _ _ _ => pts_nil) (fun _ _ _ _ _ => (by exact (pe_cmpR op_lt (pv 7) (pv 8) (nomark _))))) pa_nil)))
      (pss_one (ps_ret pe_bl))
      pss_nil))))
      (pss_one (ps_ret pe_bl))), ?_⟩
    refine ⟨_, rfl, _, rfl, q, b, xs, ys, rfl, .inr ⟨SqT.of eq, SqT.of er, RZ.for_zipT (xs := xs) (ys := ys) (by omega) (fun i σ' H' => ∃ o2 o3 o4 o5 o6 : Option V, σ' = [some (.ref q), some (.ref b), o2, o3, o4, o5, o6, none, none] ∧ Same H H' ∧ ((ls.zip rows).take i).any (fun p => early1 p.1 p.2) = false)
      ⟨_, _, _, _, _, rfl, Same.refl _, rfl⟩ (fun i σ' H' ⟨_, _, _, _, _, _, s, _⟩ => ⟨SqT.of (s _ _ eq), SqT.of (s _ _ er)⟩) ?_ ?_⟩⟩
    · rintro i x y TT σ' H1 hx hy ⟨o2, o3, o4, o5, o6, rfl, s1, hb⟩ hT
      have hi : i < ls.length := by rw [← lx]; exact (List.getElem?_eq_some_iff.mp hx).1
      obtain ⟨l, el⟩ : ∃ l, ls[i]? = some l := ⟨_, List.getElem?_eq_getElem hi⟩
      obtain ⟨r, er'⟩ : ∃ r, rows[i]? = some r := ⟨_, List.getElem?_eq_getElem (by omega)⟩
      obtain ⟨x', ex', rx⟩ := at_ i l el
      rw [hx] at ex'
      cases ex'
      obtain ⟨b2, eb2, ey⟩ := rat i r er'
      rw [hy] at eb2
      cases eb2
      obtain ⟨ql, al, rfl, eql, eal⟩ := sl_inv rx
      have st : Same H1 (upd H1 TT (.tup [.ref ql, .ref b2])) := same_upd hT
      have s2 := s1.trans st
      have ez : (ls.zip rows)[i]? = some (l, r) := by rw [List.getElem?_zip_eq_some]; exact ⟨el, er'⟩
      have hr1000 := r1000 r (List.mem_of_getElem? er')
      refine ⟨TT, _, rfl, SqT.of upd_same, rfl, _, _, rfl, ⟨ql, _, rfl, SqT.of (s2 _ _ eql), rfl, _, _, rfl, _, _, rfl, _, _, rfl, rfl, _, _, rfl, rfl, ?_⟩⟩
      generalize upd H1 TT (.tup [.ref ql, .ref b2]) = H2 at st s2 ⊢
      refine ⟨_, rfl, by show 1 ≤ sizeLine; decide, fun p1 hp1 => ?_⟩
      have s3 : Same H2 (upd H2 p1 (.lst [.int l.2.1])) := same_upd hp1
      have e3 : (upd H2 p1 (.lst [.int l.2.1])) p1 = some (.lst [.int l.2.1]) := upd_same
      generalize upd H2 p1 (.lst [.int l.2.1]) = H3 at s3 e3 ⊢
      have s23 := s2.trans s3
      refine ⟨_, rfl, _, rfl, _, rfl, ?_⟩
      refine slLast (s23 _ _ ey) fun q4 H4 s4 e4 => ?_
      rw [List.length_map, ← List.map_take] at e4
      have s24 := s23.trans s4
      refine ⟨q4, rfl, ⟨_, SqT.of e4⟩, fun D hD => ?_⟩
      refine lc_tup (K := K) (a := q4) (xs := (r.take (r.length - 1)).map V.int) (fun j H' => Same H4 (fun b => if b = D then none else H' b) ∧ H' D = some (.lst ((((r.take (r.length - 1)).take j).map fun x => x + l.2.2).map V.int)))
        ⟨mask_upd hD (Same.refl _), upd_same⟩ (fun j H' _ ⟨s, _⟩ => SqT.of (mask hD s _ _ e4)) ?_ ?_
      · rintro j x H' hx ⟨s, hd⟩
        obtain ⟨z, ez2, rfl⟩ : ∃ z, (r.take (r.length - 1))[j]? = some z ∧ x = .int z := by
          rw [List.getElem?_map] at hx
          cases e : (r.take (r.length - 1))[j]? with
          | none => rw [e] at hx; cases hx
          | some z => rw [e] at hx; exact ⟨z, rfl, (Option.some.inj hx).symm⟩
        refine ⟨rfl, tyes ⟨_, rfl, _, rfl, _, _, rfl, rfl, _, hd, ?_, mask_upd hD (mask hD s), ?_⟩⟩
        · rw [List.length_map, List.length_map, List.length_take, List.length_take]; exact line_lt (by omega)
        · rw [upd_same, take_more ez2, List.map_append, List.map_append]; rfl
      rintro H5 ⟨s5', hd⟩
      have s5 := mask hD s5'
      rw [List.length_map, List.take_length] at hd
      refine ⟨p1, D, _, _, rfl, rfl, s5 _ _ (s4 _ _ e3), hd, by rw [List.length_map, List.length_map, List.length_take]; exact line_le (by show 1 + _ ≤ 100000; omega), fun F hF => ?_⟩
      have s6 : Same H5 (upd H5 F (.lst ([V.int l.2.1] ++ (((r.take (r.length - 1)).map fun x => x + l.2.2).map V.int)))) := same_upd hF
      have eF : (upd H5 F (.lst ([V.int l.2.1] ++ (((r.take (r.length - 1)).map fun x => x + l.2.2).map V.int)))) F = some (.lst ((firstS l r).map V.int)) := upd_same
      generalize upd H5 F (.lst ([V.int l.2.1] ++ (((r.take (r.length - 1)).map fun x => x + l.2.2).map V.int))) = H6 at s6 eF ⊢
      have s26 := (s24.trans s5).trans s6
      clear hd s5 s5' e3 e4 s3 s4 s23 s24 s6 hD hF hp1
      refine ⟨_, rfl, _, rfl, b2, F, _, _, rfl, SqT.of (s26 _ _ ey), SqL.of eF, fun D hD => ?_⟩
      refine lc_zipM (xs := r.map V.int) (ys := (firstS l r).map V.int) (fun i H' => Same H6 (fun b => if b = D then none else H' b) ∧ H' D = some (.lst ((((r.zip (firstS l r)).take i).map fun q => decide (q.1 < q.2)).map V.bl)))
        ⟨mask_upd hD (Same.refl _), upd_same⟩ (fun i H' ⟨s, _⟩ => ⟨SqT.of (mask hD s _ _ (s26 _ _ ey)), SqL.of (mask hD s _ _ eF)⟩) ?_ ?_
      · rintro j x y TT' H' hx hy ⟨s, hd⟩ hT'
        have sm := mask hD s
        have hi1 : j < r.length := by
          have := (List.getElem?_eq_some_iff.mp hx).1
          rwa [List.length_map] at this
        have hi2 : j < (firstS l r).length := by
          have := (List.getElem?_eq_some_iff.mp hy).1
          rwa [List.length_map] at this
        have ex : x = .int r[j] := by
          rw [List.getElem?_map, List.getElem?_eq_getElem hi1] at hx
          exact (Option.some.inj hx).symm
        have ey : y = .int (firstS l r)[j] := by
          rw [List.getElem?_map, List.getElem?_eq_getElem hi2] at hy
          exact (Option.some.inj hy).symm
        subst ex ey
        have st' : Same H' (upd H' TT' (.tup [.int r[j], .int (firstS l r)[j]])) := same_upd hT'
        have ez' : (r.zip (firstS l r))[j]? = some (r[j], (firstS l r)[j]) := by rw [List.getElem?_zip_eq_some]; exact ⟨List.getElem?_eq_getElem hi1, List.getElem?_eq_getElem hi2⟩
        refine ⟨TT', _, rfl, SqT.of upd_same, rfl, _, _, rfl, _, _, rfl, rfl, rfl, tyes ⟨_, rfl, _, rfl, _, _, rfl, rfl, _, st' _ _ hd, ?_, ?_, ?_⟩⟩
        · rw [List.length_map, List.length_map, List.length_take, List.length_zip]; exact line_lt (by omega)
        · exact mask_upd hD (sm.trans st')
        · rw [upd_same, take_more ez', List.map_append, List.map_append]; rfl
      · rintro H' ⟨s, hd⟩
        rw [show min (r.map V.int).length ((firstS l r).map V.int).length = (r.zip (firstS l r)).length by rw [List.length_map, List.length_map, List.length_zip], List.take_length] at hd
        have sm := mask hD s
        refine ⟨_, _, rfl, SqL.of hd, _, rfl, ?_⟩
        have em : ((r.zip (firstS l r)).map fun q => decide (q.1 < q.2)).any id = early1 l r := by rw [List.any_map]; rfl
        rw [em]
        cases g : early1 l r with
        | true =>
          refine iteT ?_
          have := k H' (s26.trans sm)
          have e2 : earlyS ls rows = true := by
            unfold earlyS
            rw [List.any_eq_true]
            exact ⟨(l, r), List.mem_of_getElem? ez, g⟩
          rw [e2] at this
          exact this
        | false =>
          refine iteF ⟨_, _, _, _, _, rfl, s26.trans sm, ?_⟩
          rw [any_take _ ez, hb, Bool.false_or]
          exact g
    · rintro σ' H1 ⟨_, _, _, _, _, rfl, s1, hb⟩
      rw [show xs.length = (ls.zip rows).length by rw [List.length_zip]; omega, List.take_length] at hb
      have := k H1 s1
      unfold earlyS at this
      rw [hb] at this
      exact this
end
end Hc


set_option Elab.async false
set_option linter.all false
set_option pp.maxSteps 600
set_option maxRecDepth 100000
set_option maxHeartbeats 4000000
set_option autoImplicit false
namespace Hc
open PySem L2
theorem take_nodup {α β : Type} {f : α → List β} {l : List α} {i : Nat} (h : ((l.take i).flatMap f).Nodup → False) : ¬ (l.flatMap f).Nodup := fun z => by
  have e : l.flatMap f = (l.take i).flatMap f ++ (l.drop i).flatMap f := by rw [← List.flatMap_append, List.take_append_drop]
  rw [e, List.nodup_append] at z
  exact h z.1
section
variable {P : Program} {w : World} {K : PySem.W.Frag} {mg : Str → Option Value} {base : Heap}
def spFullS : Sp := fun vs H Q _ => ∃ (h b : Addr) (vl : V) (ls : List Sl) (rows : List (List Int)), vs = [vl, .ref b] ∧ Rp H h vl (slsD ls) ∧ Rp H h (.ref b) (rowsD rows) ∧ ls.length ≤ 60 ∧ (∀ l ∈ ls, l.1.length ≤ 8 ∧ (l.2.2 = 1 ∨ l.2.2 = 2)) ∧ rows.length = ls.length ∧
  (∀ (k : Nat) (l : Sl) (r : List Int), ls[k]? = some l → rows[k]? = some r → r.length = l.1.length) ∧ ∀ H', Same H H' → Q (.bl (fullS ls rows)) H'
theorem ok_some_sized_full (T : Tx K mg) : FnOk P w K mg base CX0 2 T.some_sized_full.f T.some_sized_full.fd ["letters", "hours"] spFullS := by
  refine T.some_sized_full.F.ok sc_some_sized_full (fun vs H Q E h => ?_) (fun cdv A outer s H vs Q E hr h => ?_)
  · obtain ⟨_, _, _, _, _, rfl, _⟩ := h
    rfl
  · obtain ⟨h, b, vl, ls, rows, rfl, rl, rr, l60, ok8, ll, lk, k⟩ := h
    obtain ⟨q, xs, rfl, eq, lx, at_⟩ := sls_at rl
    obtain ⟨_, ys, eb, er, ly, rat⟩ := rows_at rr
    cases eb
    have bad : ¬ (prs ls rows).Nodup → ∀ H', Same H H' → Q (.bl true) H' := fun g H' s => by
      have := k H' s
      unfold fullS at this
      rw [decide_eq_false g] at this
      exact this
    have sz : ∀ i, ((ls.zip rows).take i).length ≤ 60 := fun i => by rw [List.length_take, List.length_zip]; omega
    have bd : ∀ p ∈ ls.zip rows, (prsOf p.1 p.2).length ≤ 16 := fun p hp => by
      have hm := List.of_mem_zip (a := p.1) (b := p.2) hp
      have h1 := prsOf_len (r := p.2) (ok8 p.1 hm.1).2
      have h2 := (ok8 p.1 hm.1).1
      rw [List.length_zip] at h1
      omega
    refine ⟨_, (pss_cons (ps_set (i := 2) sc_some_sized_full.nd rfl (Or.inl rfl) pe_dnewT)
      (pss_cons (ps_for PassesOwn.never rfl (RZ.pi_zipA (by rfl) T.n_zip (pa_cons (pv 0) (pa_cons (pv 1) pa_nil))) (pg_tup (by rfl) (pgs_cons (by exact (pg_tup (by rfl) (pgs_cons (pg_name (i := 3) sc_some_sized_full.nd rfl (Or.inl rfl)) (pgs_cons (pg_name (i := 4) sc_some_sized_full.nd rfl (Or.inl rfl)) (pgs_cons (pg_name (i := 5) sc_some_sized_full.nd rfl (Or.inl rfl)) pgs_nil))))) (pgs_cons (pg_name (i := 6) sc_some_sized_full.nd rfl (Or.inl rfl)) pgs_nil)))
      (pss_one (ps_for PassesOwn.never rfl (RZ.pi_zipA (by rfl) T.n_zip (pa_cons (pv 3) (pa_cons (pv 6) pa_nil))) (pg_tup (by rfl) (pgs_cons (pg_name (i := 7) sc_some_sized_full.nd rfl (Or.inl rfl)) (pgs_cons (pg_name (i := 8) sc_some_sized_full.nd rfl (Or.inl rfl)) pgs_nil)))
      (pss_one (ps_for PassesOwn.never rfl (pi_range2W (by rfl) T.n_range (pa_cons (pv 8) (pa_cons (pe_op op_add (pv 8) (pv 5)) pa_nil))) (pg_name (i := 9) sc_some_sized_full.nd rfl (Or.inl rfl))
      (pss_cons (ps_if (pt_cmp (pc_din (units1 hr) (pe_tup (pa_cons (pv 7) (pa_cons (pv 9) pa_nil))) (pv 2)))
      (pss_one (ps_ret pe_bl))
      pss_nil)
      (pss_one (ps_dput (units1 hr) (pv 2) (pe_tup (pa_cons (pv 7) (pa_cons (pv 9) pa_nil))) pe_bl rfl))))))))
      (pss_one (ps_ret pe_bl)))), ?_⟩
    refine fun dd hdd => ?_
    refine ⟨_, rfl, _, rfl, q, b, xs, ys, rfl, .inr ⟨SqT.of (same_upd hdd _ _ eq), SqT.of (same_upd hdd _ _ er), RZ.for_zipT (xs := xs) (ys := ys) (by omega) (fun i σ' H' => ∃ (o3 o4 o5 o6 o7 o8 o9 : Option V) (kvs : List (List L2.Key × V)), σ' = [some (.ref q), some (.ref b), some (.ref dd), o3, o4, o5, o6, o7, o8, o9] ∧ Same H (fun b => if b = dd then none else H' b) ∧ H' dd = some (.dT kvs) ∧ Ks kvs (((ls.zip rows).take i).flatMap fun p => prsOf p.1 p.2))
      ⟨_, _, _, _, _, _, _, [], rfl, mask_upd hdd (Same.refl _), upd_same, Ks.nil⟩ (fun i σ' H' ⟨_, _, _, _, _, _, _, _, _, s, _⟩ => ⟨SqT.of (mask hdd s _ _ eq), SqT.of (mask hdd s _ _ er)⟩) ?_ ?_⟩⟩
    · rintro i x y TT σ' H1 hx hy ⟨o3, o4, o5, o6, o7, o8, o9, kvs, rfl, s1, hd1, c1⟩ hT
      have hi : i < ls.length := by rw [← lx]; exact (List.getElem?_eq_some_iff.mp hx).1
      obtain ⟨l, el⟩ : ∃ l, ls[i]? = some l := ⟨_, List.getElem?_eq_getElem hi⟩
      obtain ⟨r, er'⟩ : ∃ r, rows[i]? = some r := ⟨_, List.getElem?_eq_getElem (by omega)⟩
      obtain ⟨x', ex', rx⟩ := at_ i l el
      rw [hx] at ex'
      cases ex'
      obtain ⟨b2, eb2, ey⟩ := rat i r er'
      rw [hy] at eb2
      cases eb2
      obtain ⟨ql, al, rfl, eql, eal⟩ := sl_inv rx
      have st : Same H1 (upd H1 TT (.tup [.ref ql, .ref b2])) := same_upd hT
      have hd2 := st _ _ hd1
      have s2 : Same H (fun b => if b = dd then none else upd H1 TT (.tup [.ref ql, .ref b2]) b) := fun b u z => by
        have nb := ne_of_none z hdd
        show (if b = dd then none else upd H1 TT _ b) = _
        rw [if_neg nb]
        exact st _ _ (mask hdd s1 _ _ z)
      have m2 := mask hdd s2
      have ez : (ls.zip rows)[i]? = some (l, r) := by rw [List.getElem?_zip_eq_some]; exact ⟨el, er'⟩
      have hlr := lk i l r el er'
      obtain ⟨hl8, hsz⟩ := ok8 l (List.mem_of_getElem? el)
      refine ⟨TT, _, rfl, SqT.of upd_same, rfl, _, _, rfl, ⟨ql, _, rfl, SqT.of (m2 _ _ eql), rfl, _, _, rfl, _, _, rfl, _, _, rfl, rfl, _, _, rfl, rfl, ?_⟩⟩
      generalize upd H1 TT (.tup [.ref ql, .ref b2]) = H2 at st hd2 s2 m2 ⊢
      clear hd1 s1
      obtain ⟨E0, eE⟩ : ∃ E0, E0 = ((ls.zip rows).take i).flatMap fun p => prsOf p.1 p.2 := ⟨_, rfl⟩
      rw [← eE] at c1
      have lE : E0.length ≤ 960 := by
        rw [eE]
        have := flat_len (f := fun p : Sl × List Int => prsOf p.1 p.2) (c := 16) ((ls.zip rows).take i) fun p hp => bd p (List.mem_of_mem_take hp)
        have := sz i
        omega
      have cut1 : ¬ (E0 ++ prsOf l r).Nodup → ¬ (prs ls rows).Nodup := fun g => by
        refine take_nodup (i := i + 1) fun z => g ?_
        rw [take_more ez, List.flatMap_append, List.flatMap_cons, List.flatMap_nil, List.append_nil, ← eE] at z
        exact z
      refine ⟨_, rfl, _, rfl, al, b2, _, _, rfl, .inr ⟨SqT.of (m2 _ _ eal), SqT.of (m2 _ _ ey), RZ.for_zipT (xs := l.1.map fun j => V.int (j : Nat)) (ys := r.map V.int) (by rw [List.length_map, List.length_map]; exact hlr.symm) (fun j σ' H' => ∃ (o7 o8 o9 : Option V) (kvs : List (List L2.Key × V)), σ' = [some (.ref q), some (.ref b), some (.ref dd), some (.ref al), some (.int l.2.1), some (.int l.2.2), some (.ref b2), o7, o8, o9] ∧ Same H (fun b => if b = dd then none else H' b) ∧ H' dd = some (.dT kvs) ∧ Ks kvs (E0 ++ ((l.1.zip r).take j).flatMap fun p => (List.range l.2.2.toNat).map fun (k : Nat) => (p.1, p.2 + (k : Int))))
        ⟨_, _, _, kvs, rfl, s2, hd2, by rw [List.take_zero, List.flatMap_nil, List.append_nil]; exact c1⟩ (fun i σ' H' ⟨_, _, _, _, _, s, _⟩ => ⟨SqT.of (mask hdd s _ _ eal), SqT.of (mask hdd s _ _ ey)⟩) ?_ ?_⟩⟩
      · clear c1 hd2 s2 m2 st kvs
        rintro j x y T2 σ' H3 hx hy ⟨o7, o8, o9, kvs, rfl, s3, hd3, c3⟩ hT2
        have hj1 : j < l.1.length := by
          have := (List.getElem?_eq_some_iff.mp hx).1
          rwa [List.length_map] at this
        have hj2 : j < r.length := by omega
        have ex : x = .int (l.1[j] : Nat) := by
          rw [List.getElem?_map, List.getElem?_eq_getElem hj1] at hx
          exact (Option.some.inj hx).symm
        have ey2 : y = .int r[j] := by
          rw [List.getElem?_map, List.getElem?_eq_getElem hj2] at hy
          exact (Option.some.inj hy).symm
        subst ex ey2
        have ez2 : (l.1.zip r)[j]? = some (l.1[j], r[j]) := by rw [List.getElem?_zip_eq_some]; exact ⟨List.getElem?_eq_getElem hj1, List.getElem?_eq_getElem hj2⟩
        have m3 := mask hdd s3
        have s4 : Same H3 (upd H3 T2 (.tup [.int (l.1[j] : Nat), .int r[j]])) := same_upd hT2
        refine ⟨T2, _, rfl, SqT.of upd_same, rfl, _, _, rfl, _, _, rfl, rfl, ?_⟩
        generalize upd H3 T2 (.tup [.int (l.1[j] : Nat), .int r[j]]) = H4 at s4 ⊢
        have hd4 := s4 _ _ hd3
        have m4 := m3.trans s4
        obtain ⟨E1, eE1⟩ : ∃ E1, E1 = E0 ++ ((l.1.zip r).take j).flatMap fun p => (List.range l.2.2.toNat).map fun (k : Nat) => (p.1, p.2 + (k : Int)) := ⟨_, rfl⟩
        rw [← eE1] at c3
        have lE1 : E1.length ≤ 976 := by
          rw [eE1, List.length_append]
          have h1 := flat_len (f := fun p : Nat × Int => (List.range l.2.2.toNat).map fun (k : Nat) => (p.1, p.2 + (k : Int))) (c := 2) ((l.1.zip r).take j) fun p hp => by rw [List.length_map, List.length_range]; exact size_len hsz
          rw [List.length_take] at h1
          omega
        have cut2 : ¬ (E1 ++ (List.range l.2.2.toNat).map fun (k : Nat) => (l.1[j], r[j] + (k : Int))).Nodup → ¬ (prs ls rows).Nodup := fun g => cut1 fun z => g (by
          have e : E0 ++ prsOf l r = (E1 ++ (List.range l.2.2.toNat).map fun (k : Nat) => (l.1[j], r[j] + (k : Int))) ++ ((l.1.zip r).drop (j + 1)).flatMap fun p => (List.range l.2.2.toNat).map fun (k : Nat) => (p.1, p.2 + (k : Int)) := by
            rw [eE1, List.append_assoc, List.append_assoc]
            congr 1
            unfold prsOf
            conv => lhs; rw [← List.take_append_drop (j + 1) (l.1.zip r), take_more ez2]
            rw [List.flatMap_append, List.flatMap_append, List.flatMap_cons, List.flatMap_nil, List.append_nil, List.append_assoc]
          rw [e, List.nodup_append] at z
          exact z.1)
        have e1 : (r[j] + l.2.2 - r[j]).toNat = l.2.2.toNat := by congr 1; omega
        refine ⟨_, rfl, _, rfl, _, rfl, _, _, rfl, rfl, r[j], _, rfl, ?_⟩
        rw [e1]
        refine for_range (lo := r[j]) (n := l.2.2.toNat) (fun m σ' H' => ∃ (o9 : Option V) (kvs : List (List L2.Key × V)), σ' = [some (.ref q), some (.ref b), some (.ref dd), some (.ref al), some (.int l.2.1), some (.int l.2.2), some (.ref b2), some (.int (l.1[j] : Nat)), some (.int r[j]), o9] ∧ Same H (fun b => if b = dd then none else H' b) ∧ H' dd = some (.dT kvs) ∧ Ks kvs (E1 ++ ((List.range l.2.2.toNat).take m).map fun (k : Nat) => (l.1[j], r[j] + (k : Int))))
          ⟨_, kvs, rfl, fun b u z => by
            have nb := ne_of_none z hdd
            show (if b = dd then none else H4 b) = _
            rw [if_neg nb]
            exact m4 _ _ z, hd4, by rw [List.take_zero, List.map_nil, List.append_nil]; exact c3⟩ ?_ ?_
        · clear hd4 c3 hd3 s3 m3 s4 m4 kvs
          rintro m σ' H5 hm ⟨o9, kvs, rfl, s5, hd5, c5⟩
          have m5 := mask hdd s5
          have em : (List.range l.2.2.toNat)[m]? = some m := by rw [List.getElem?_range hm]
          have em2 : (((List.range l.2.2.toNat).take (m + 1)).map fun (k : Nat) => (l.1[j], r[j] + (k : Int))) = (((List.range l.2.2.toNat).take m).map fun (k : Nat) => (l.1[j], r[j] + (k : Int))) ++ [(l.1[j], r[j] + (m : Int))] := by
            rw [take_more em, List.map_append]; rfl
          have lE5 : (E1 ++ ((List.range l.2.2.toNat).take m).map fun (k : Nat) => (l.1[j], r[j] + (k : Int))).length ≤ 978 := by
            rw [List.length_append, List.length_map, List.length_take, List.length_range]
            have := size_len hsz
            omega
          have lk5 := c5.len
          refine ⟨_, rfl, _, rfl, by show 2 ≤ sizeLine; decide, fun t1 ht1 => ?_⟩
          have s6 : Same H5 (upd H5 t1 (.tup [.int (l.1[j] : Nat), .int (r[j] + (m : Nat))])) := same_upd ht1
          have e6 : (upd H5 t1 (.tup [.int (l.1[j] : Nat), .int (r[j] + (m : Nat))])) t1 = some (.tup ((keyOf (l.1[j], r[j] + (m : Int))).map kV)) := upd_same
          generalize upd H5 t1 (.tup [.int (l.1[j] : Nat), .int (r[j] + (m : Nat))]) = H6 at s6 e6 ⊢
          have hd6 := s6 _ _ hd5
          refine ⟨_, rfl, dd, _, rfl, DGet.t hd6 e6, ?_⟩
          rw [c5.get]
          by_cases g : (l.1[j], r[j] + (m : Int)) ∈ E1 ++ ((List.range l.2.2.toNat).take m).map fun (k : Nat) => (l.1[j], r[j] + (k : Int))
          · rw [decide_eq_true g]
            refine ⟨_, rfl, iteT (bad (cut2 ?_) _ (m5.trans s6))⟩
            rw [← List.take_append_drop m (List.range l.2.2.toNat), List.map_append, ← List.append_assoc]
            have ed : (List.range l.2.2.toNat).drop m = m :: (List.range l.2.2.toNat).drop (m + 1) := by
              rw [List.drop_eq_getElem_cons (by rw [List.length_range]; exact hm), List.getElem_range]
            rw [ed, List.map_cons]
            exact dup_not g
          · rw [decide_eq_false g]
            refine ⟨_, rfl, iteF ⟨_, rfl, _, rfl, _, rfl, by show 2 ≤ sizeLine; decide, fun t2 ht2 => ?_⟩⟩
            have s7 : Same H6 (upd H6 t2 (.tup [.int (l.1[j] : Nat), .int (r[j] + (m : Nat))])) := same_upd ht2
            have e7 : (upd H6 t2 (.tup [.int (l.1[j] : Nat), .int (r[j] + (m : Nat))])) t2 = some (.tup ((keyOf (l.1[j], r[j] + (m : Int))).map kV)) := upd_same
            generalize upd H6 t2 (.tup [.int (l.1[j] : Nat), .int (r[j] + (m : Nat))]) = H7 at s7 e7 ⊢
            have hd7 := s7 _ _ hd6
            refine ⟨dd, _, rfl, DPut.t hd7 e7 (line_lt (by omega)), ?_⟩
            refine ⟨_, _, rfl, mask_upd hdd (m5.trans (s6.trans s7)), upd_same, ?_⟩
            rw [em2, ← List.append_assoc]
            exact c5.put g _
        · rintro σ' H5 ⟨o9, kvs, rfl, s5, hd5, c5⟩
          rw [show (List.range l.2.2.toNat).take l.2.2.toNat = List.range l.2.2.toNat from List.take_of_length_le (by rw [List.length_range]; exact Nat.le_refl _)] at c5
          refine ⟨_, _, _, kvs, rfl, s5, hd5, ?_⟩
          rw [take_more ez2, List.flatMap_append, List.flatMap_cons, List.flatMap_nil, List.append_nil, ← List.append_assoc, ← eE1]
          exact c5
      · rintro σ' H3 ⟨o7, o8, o9, kvs, rfl, s3, hd3, c3⟩
        rw [show (l.1.map fun j => V.int (j : Nat)).length = (l.1.zip r).length by rw [List.length_map, List.length_zip]; omega, List.take_length] at c3
        refine ⟨_, _, _, _, _, _, _, kvs, rfl, s3, hd3, ?_⟩
        rw [take_more ez, List.flatMap_append, List.flatMap_cons, List.flatMap_nil, List.append_nil, ← eE]
        exact c3
    · rintro σ' H1 ⟨o3, o4, o5, o6, o7, o8, o9, kvs, rfl, s1, hd1, c1⟩
      rw [show xs.length = (ls.zip rows).length by rw [List.length_zip]; omega, List.take_length] at c1
      have := k H1 (mask hdd s1)
      unfold fullS at this
      rw [decide_eq_true (show (prs ls rows).Nodup from c1.nd)] at this
      exact this
end
end Hc


set_option Elab.async false
set_option linter.all false
set_option pp.maxSteps 600
set_option maxRecDepth 100000
set_option maxHeartbeats 4000000
set_option autoImplicit false
namespace Hc
open PySem L2
/-- the part of a sized day that is not as told -/
inductive DueS (rds : List D) (rm tm : List Int) : D → D → Str → Prop
  | web {d2 d3 : D} : plainB rm tm = false → DueS rds rm tm d2 d3 "web"
  | letters {d2 d3 : D} : plainB rm tm = true → areSls rds d2 = false → DueS rds rm tm d2 d3 "letters"
  | hours {ls : List Sl} {d3 : D} : plainB rm tm = true → SOk rds ls → ls.length ≤ 60 → areHours (ls.map ltOf) d3 = false → DueS rds rm tm (slsD ls) d3 "hours"
  | early {ls : List Sl} {rows : List (List Int)} : plainB rm tm = true → SOk rds ls → ls.length ≤ 60 → LenOk (ls.map ltOf) rows → earlyS ls rows = true → DueS rds rm tm (slsD ls) (rowsD rows) "early"
  | full {ls : List Sl} {rows : List (List Int)} : plainB rm tm = true → SOk rds ls → ls.length ≤ 60 → LenOk (ls.map ltOf) rows → earlyS ls rows = false → fullS ls rows = true → DueS rds rm tm (slsD ls) (rowsD rows) "full"
/-- a right sized day's parts -/
structure SdOk (rds : List D) (rm tm : List Int) (ls : List Sl) (rows : List (List Int)) : Prop where
  p : plainB rm tm = true
  o : SOk rds ls
  l : ls.length ≤ 60
  n : LenOk (ls.map ltOf) rows
  e : earlyS ls rows = false
  f : fullS ls rows = false
theorem sls_inj : ∀ {a b : List Sl}, a.map slD = b.map slD → a = b
  | [], [], _ => rfl
  | [], _ :: _, e => by cases e
  | _ :: _, [], e => by cases e
  | x :: a, y :: b, e => by
    rw [List.map_cons, List.map_cons] at e
    obtain ⟨e1, e2⟩ := List.cons.inj e
    have e1 := D.tup.inj e1
    obtain ⟨e3, e4⟩ := List.cons.inj e1
    obtain ⟨e4, e5⟩ := List.cons.inj e4
    obtain ⟨e5, _⟩ := List.cons.inj e5
    rw [sls_inj e2, Prod.ext (nat_map_inj (D.tup.inj e3)) (Prod.ext (D.int.inj e4) (D.int.inj e5))]
theorem isIn_sl (l : Sl) : isIn 2 (slD l) = true := by
  show ((isIn 1 (nD l.1)) && (isIn 1 (.int l.2.1) && (isIn 1 (.int l.2.2) && true))) = true
  have h : isIn 1 (nD l.1) = true := by
    show (l.1.map fun j => D.int (j : Nat)).all (isIn 0) = true
    rw [List.all_eq_true]
    intro d hd
    obtain ⟨j, _, rfl⟩ := List.mem_map.mp hd
    rfl
  rw [h]; rfl
theorem isIn_sls (ls : List Sl) : isIn 3 (slsD ls) = true := by
  show (ls.map slD).all (isIn 2) = true
  rw [List.all_eq_true]
  intro d hd
  obtain ⟨l, _, rfl⟩ := List.mem_map.mp hd
  exact isIn_sl l
section
variable {P : Program} {w : World} {K : PySem.W.Frag} {mg : Str → Option Value} {base : Heap}
def spSday (C CW CB : Addr) : Sp := fun vs H Q E => ∃ (h p dx pw : Addr) (v2 v3 : V) (d2 d3 : D) (n : Int) (rds : List D) (rm tm : List Int), vs = [.ref p, .ref pw, v2, v3] ∧ H p = some (.ins C dx []) ∧ WebR CW H h pw n rds rm tm ∧ Rp H h v2 d2 ∧ Rp H h v3 d3 ∧
  (∀ ls rows, d2 = slsD ls → d3 = rowsD rows → SdOk rds rm tm ls rows → ∀ H', But p H H' → H' p = some (.ins C dx (dayF (.ref pw) v2 v3)) → Q .non H') ∧
  (∀ part, DueS rds rm tm d2 d3 part → ∀ H' d, Same H H' → H' d = some (.xd [("part", .str part)]) → E (.ref CB) (some d) H')
theorem ok_SizedDay___init (T : Tx K mg) : FnOk P w K mg base (L2.CX P w) 8 T.SizedDay.f T.SizedDay.fd ["self", "web", "letters", "hours"] (spSday T.SizedDay.C T.Web.C T.x_BadDay.C) := by
  refine T.SizedDay.F.okX sc_SizedDay___init (fun vs H Q E h => ?_) (fun cdv A outer s H vs Q E hr h => ?_)
  · obtain ⟨_, _, _, _, _, _, _, _, _, _, _, _, rfl, _⟩ := h
    rfl
  · obtain ⟨h, p, dx, pw, v2, v3, d2, d3, n, rds, rm, tm, rfl, hp, W, r2, r3, kq, ke⟩ := h
    refine ⟨_, (pss_cons (ps_if (pt_not (pt_val (pe_call (ok_is_plain T) (hr.mono (by decide)) rfl T.is_plain.g T.is_plain.F.kp T.is_plain.b .nil pass0 (pa_cons (pv 1) pa_nil))))
      (pss_one (ps_raise rfl (takes_of rfl rfl rfl rfl) (pmk_oex T.x_BadDay.T T.x_BadDay.iC T.x_BadDay.tI (ok_BadDay___init T) (hr.mono (by decide)) T.x_BadDay.b .nil passL rfl T.x_BadDay.g (pa_cons pe_str pa_nil))))
      pss_nil)
      (pss_cons (ps_if (pt_not (pt_val (pe_call (ok_are_sized_letters T) (hr.mono (by decide)) rfl T.are_sized_letters.g T.are_sized_letters.F.kp T.are_sized_letters.b .nil pass0 (pa_cons (pv 1) (pa_cons (pv 2) pa_nil)))))
      (pss_one (ps_raise rfl (takes_of rfl rfl rfl rfl) (pmk_oex T.x_BadDay.T T.x_BadDay.iC T.x_BadDay.tI (ok_BadDay___init T) (hr.mono (by decide)) T.x_BadDay.b .nil passL rfl T.x_BadDay.g (pa_cons pe_str pa_nil))))
      pss_nil)
      (pss_cons (ps_if (pt_not (pt_val (pe_call (ok_are_sized_hours T) (hr.mono (by decide)) rfl T.are_sized_hours.g T.are_sized_hours.F.kp T.are_sized_hours.b .nil pass0 (pa_cons (pv 2) (pa_cons (pv 3) pa_nil)))))
      (pss_one (ps_raise rfl (takes_of rfl rfl rfl rfl) (pmk_oex T.x_BadDay.T T.x_BadDay.iC T.x_BadDay.tI (ok_BadDay___init T) (hr.mono (by decide)) T.x_BadDay.b .nil passL rfl T.x_BadDay.g (pa_cons pe_str pa_nil))))
      pss_nil)
      (pss_cons (ps_if (pt_val (pe_call (ok_some_sized_early T) (hr.mono (by decide)) rfl T.some_sized_early.g T.some_sized_early.F.kp T.some_sized_early.b .nil pass0 (pa_cons (pv 2) (pa_cons (pv 3) pa_nil))))
      (pss_one (ps_raise rfl (takes_of rfl rfl rfl rfl) (pmk_oex T.x_BadDay.T T.x_BadDay.iC T.x_BadDay.tI (ok_BadDay___init T) (hr.mono (by decide)) T.x_BadDay.b .nil passL rfl T.x_BadDay.g (pa_cons pe_str pa_nil))))
      pss_nil)
      (pss_cons (ps_if (pt_val (pe_call (ok_some_sized_full T) (hr.mono (by decide)) rfl T.some_sized_full.g T.some_sized_full.F.kp T.some_sized_full.b .nil pass0 (pa_cons (pv 2) (pa_cons (pv 3) pa_nil))))
      (pss_one (ps_raise rfl (takes_of rfl rfl rfl rfl) (pmk_oex T.x_BadDay.T T.x_BadDay.iC T.x_BadDay.tI (ok_BadDay___init T) (hr.mono (by decide)) T.x_BadDay.b .nil passL rfl T.x_BadDay.g (pa_cons pe_str pa_nil))))
      pss_nil)
      (pss_cons (ps_fld (pv 0) (pv 1) rfl)
      (pss_cons (ps_fld (pv 0) (pv 2) rfl)
      (pss_one (ps_fld (pv 0) (pv 3) rfl))))))))), ?_⟩
    have raise : ∀ (part : Str) (H1 : Hp), Same H H1 → DueS rds rm tm d2 d3 part → ∀ a, H1 a = none →
        spInitE T.x_BadDay.C "part" [.ref a, .str part] (upd H1 a (exo a T.x_BadDay.C none)) (fun v H2 => v = .non ∧ ∃ (d : Addr) (fs : List (Str × V)), H2 a = some (exo a T.x_BadDay.C (some d)) ∧ H2 d = some (exd d fs) ∧ H1 d = none ∧
          E (.ref T.x_BadDay.C) (some d) (upd (del H2 a) d (.xd fs))) (fun _ _ _ => False) := by
      intro part H1 s1 hdue a hA
      refine ⟨a, _, rfl, upd_same, fun d hd nd => ⟨rfl, d, [("part", .str part)], upd_same, ?_, ?_, ?_⟩⟩
      · rw [upd_ne nd, upd_same]
      · rw [upd_ne nd] at hd; exact hd
      · exact ke part hdue _ d (err_same s1 hA hd nd) upd_same
    refine ⟨_, rfl, h, pw, n, rds, rm, tm, rfl, W, fun H0 s0 => ⟨_, rfl, ?_⟩⟩
    cases e0 : plainB rm tm with
    | false => exact iteT ⟨by show 1 ≤ 1000; decide, fun a hA => raise _ H0 s0 (.web e0) a hA⟩
    | true =>
    refine iteF ?_
    refine ⟨_, rfl, _, rfl, h, pw, n, rds, v2, d2, rfl, (W.same s0).o, r2.same s0, fun H1 s01 => ⟨_, rfl, ?_⟩⟩
    have s1 := s0.trans s01
    cases e1 : areSls rds d2 with
    | false => exact iteT ⟨by show 1 ≤ 1000; decide, fun a hA => raise _ H1 s1 (.letters e0 e1) a hA⟩
    | true =>
    refine iteF ?_
    obtain ⟨ls, rfl, o, l60⟩ := sls_inv e1
    refine ⟨_, rfl, _, rfl, h, v2, v3, ls, d3, rfl, r2.same s1, r3.same s1, by omega, fun H2 s2 => ⟨_, rfl, ?_⟩⟩
    have s12 := s1.trans s2
    cases e2 : areHours (ls.map ltOf) d3 with
    | false => exact iteT ⟨by show 1 ≤ 1000; decide, fun a hA => raise _ H2 s12 (.hours e0 o l60 e2) a hA⟩
    | true =>
    refine iteF ?_
    obtain ⟨rows, rfl, ln⟩ := hours_inv e2
    obtain ⟨lr, lk⟩ := ltOf_len ln
    obtain ⟨q3, _, rfl, _, _, _⟩ := rows_at r3
    have r1000 : ∀ r ∈ rows, r.length ≤ 1000 := fun r hr => by
      obtain ⟨k, hk, e⟩ := List.mem_iff_getElem.mp hr
      have hk2 : k < ls.length := by rw [← lr]; exact hk
      have := lk k ls[k] r (List.getElem?_eq_getElem hk2) (by rw [List.getElem?_eq_getElem hk, e])
      have := (o.h ls[k] (List.getElem_mem hk2)).2.1
      omega
    refine ⟨_, rfl, _, rfl, h, q3, v2, ls, rows, rfl, r2.same s12, r3.same s12, lr, r1000, fun H3 s3 => ⟨_, rfl, ?_⟩⟩
    have s13 := s12.trans s3
    cases e3 : earlyS ls rows with
    | true => exact iteT ⟨by show 1 ≤ 1000; decide, fun a hA => raise _ H3 s13 (.early e0 o l60 ln e3) a hA⟩
    | false =>
    refine iteF ?_
    refine ⟨_, rfl, _, rfl, h, q3, v2, ls, rows, rfl, r2.same s13, r3.same s13, l60, fun l hl => ⟨(o.h l hl).2.1, (o.h l hl).2.2.2.2.2.2⟩, lr, lk, fun H4 s4 => ⟨_, rfl, ?_⟩⟩
    have sm := s13.trans s4
    cases e4 : fullS ls rows with
    | true => exact iteT ⟨by show 1 ≤ 1000; decide, fun a hA => raise _ H4 sm (.full e0 o l60 ln e3 e4) a hA⟩
    | false =>
    refine iteF ?_
    have no : ∀ f ∈ (["web", "letters", "hours"] : List Str), NoAttr K T.SizedDay.C f := T.SizedDay.no
    refine ⟨_, rfl, _, rfl, p, T.SizedDay.C, dx, _, rfl, sm _ _ hp, T.SizedDay.cl, no _ (by simp), (by decide), ?_⟩
    refine ⟨_, rfl, _, rfl, p, T.SizedDay.C, dx, _, rfl, upd_same, T.SizedDay.cl, no _ (by simp), (putF_lt (n := 999) (by decide)), ?_⟩
    refine ⟨_, rfl, _, rfl, p, T.SizedDay.C, dx, _, rfl, upd_same, T.SizedDay.cl, no _ (by simp), (putF_lt (n := 999) (putF_lt (n := 998) (by decide))), ?_⟩
    refine kq ls rows rfl rfl ⟨e0, o, l60, ln, e3, e4⟩ _ (fun b o q n => ?_) upd_same
    rw [upd_ne n, upd_ne n, upd_ne n]
    exact sm _ _ q
theorem sdayTy (T : Tx K mg) {H : Hp} {h p : Addr} {n : Int} {rds : List D} {rm tm : List Int} {dl dh : D} (O : DayX T.SizedDay.C T.Web.C H h p n rds rm tm dl dh) : TyX K H (.ref p) (.ref T.SizedDay.C) := by
  obtain ⟨dx, fs, pw, v2, v3, ep, _⟩ := O.ex
  exact .base (.ins ep T.SizedDay.cl T.e_SizedDay.ha T.e_SizedDay.hn T.e_SizedDay.ht T.e_SizedDay.hm)
theorem ok_SizedDay___eq (T : Tx K mg) : FnOk P w K mg base CX0 2 T.e_SizedDay.f T.e_SizedDay.fd ["self", "other"] (spDayEq K T.SizedDay.C T.Web.C) := by
  refine T.e_SizedDay.F.ok sc_SizedDay___eq (fun vs H Q E h => ?_) (fun cdv A outer s H vs Q E hr h => ?_)
  · rcases h with ⟨_, _, _, _, _, _, _, _, _, _, _, _, _, _, _, rfl, _⟩ | ⟨_, _, _, rfl, _⟩ <;> rfl
  · rcases h with ⟨h, p, q, n, n', rds, rds', rm, tm, rm', tm', dl, dh, dl', dh', rfl, O, O', k⟩ | ⟨p, y, t, rfl, ty, hk, k⟩
    · obtain ⟨dx, fs, pw, v2, v3, ep, _, fw, fl, fh, W, r2, r3⟩ := O.ex
      obtain ⟨dx', fs', pw', v2', v3', ep', _, fw', fl', fh', W', r2', r3'⟩ := O'.ex
      refine ⟨_, (pss_one (ps_ret (pe_and (pe_callB call_isi (by rfl) T.n_isinstance (by decide +kernel) (pa_cons (pv 1) (pa_cons (pe_glob (v := .ref T.SizedDay.C) rfl T.SizedDay.g rfl) pa_nil))) (pe_and (pe_cmpR (op_eqO (webEqR T) T.e_Web.i T.e_Web.t (hr.mono (by decide)) pass0) (pe_fld (pv 0) rfl) (pe_fld (pv 1) rfl) (nomark _)) (pe_and (pe_cmpR (op_eqD hr.units) (pe_fld (pv 0) rfl) (pe_fld (pv 1) rfl) (nomark _)) (pe_one (pe_cmpR (op_eqD hr.units) (pe_fld (pv 0) rfl) (pe_fld (pv 1) rfl) (nomark _)))))))), ?_⟩
      have no : ∀ f ∈ (["web", "letters", "hours"] : List Str), NoAttr K T.SizedDay.C f := T.SizedDay.no
      refine ⟨_, rfl, _, _, _, _, _, rfl, .own _, sdayTy T O', T.e_SizedDay.k, _, rfl, iteT ?_⟩
      refine ⟨_, rfl, p, T.SizedDay.C, dx, _, _, rfl, ep, T.SizedDay.cl, no _ (by simp), fw, _, rfl, q, T.SizedDay.C, dx', _, _, rfl, ep', T.SizedDay.cl, no _ (by simp), fw', ?_⟩
      refine eqWW T W W' fun c1 h1 => ⟨_, rfl, ?_⟩
      cases c1 with
      | false => exact iteF (k false ⟨fun z => (by cases z), fun z => h1.mpr z.1⟩)
      | true =>
      have h1 := h1.mp rfl
      refine iteT ⟨_, rfl, p, T.SizedDay.C, dx, _, _, rfl, ep, T.SizedDay.cl, no _ (by simp), fl, _, rfl, q, T.SizedDay.C, dx', _, _, rfl, ep', T.SizedDay.cl, no _ (by simp), fl', ?_⟩
      refine eqDP (n := 3) (by decide) r2 r2' O.il O'.il fun c2 h2 => ⟨_, rfl, ?_⟩
      cases c2 with
      | false => exact iteF (k false ⟨fun z => (by cases z), fun z => h2.mpr z.2.1⟩)
      | true =>
      have h2 := h2.mp rfl
      refine iteT ⟨_, rfl, p, T.SizedDay.C, dx, _, _, rfl, ep, T.SizedDay.cl, no _ (by simp), fh, _, rfl, q, T.SizedDay.C, dx', _, _, rfl, ep', T.SizedDay.cl, no _ (by simp), fh', ?_⟩
      exact eqDP (n := 3) (by decide) r3 r3' O.ih O'.ih fun c3 h3 => k c3 ⟨fun z => ⟨h1, h2, h3.mp z⟩, fun z => h3.mpr z.2.2⟩
    · refine ⟨_, (pss_one (ps_ret (pe_and (pe_callB call_isi (by rfl) T.n_isinstance (by decide +kernel) (pa_cons (pv 1) (pa_cons (pe_glob (v := .ref T.SizedDay.C) rfl T.SizedDay.g rfl) pa_nil))) (pe_and (pe_cmpR (op_eqO (webEqR T) T.e_Web.i T.e_Web.t (hr.mono (by decide)) pass0) (pe_fld (pv 0) rfl) (pe_fld (pv 1) rfl) (nomark _)) (pe_and (pe_cmpR (op_eqD hr.units) (pe_fld (pv 0) rfl) (pe_fld (pv 1) rfl) (nomark _)) (pe_one (pe_cmpR (op_eqD hr.units) (pe_fld (pv 0) rfl) (pe_fld (pv 1) rfl) (nomark _)))))))), ?_⟩
      exact ⟨_, rfl, _, _, _, _, _, rfl, .own _, ty, hk, _, rfl, iteF k⟩
theorem sdayEqR (T : Tx K mg) : FnR P w K mg base CX0 2 T.e_SizedDay.f (spDayEq K T.SizedDay.C T.Web.C) := by
  exact (FnOk.raw (ok_SizedDay___eq (P := P) (w := w) (base := base) T) T.e_SizedDay.b .nil).imp fun vs H Q E q => by rw [List.append_nil]; exact q
theorem eqSS (T : Tx K mg) {H : Hp} {h p q : Addr} {n n' : Int} {rds rds' : List D} {rm tm rm' tm' : List Int} {dl dh dl' dh' : D} {Q : VK} {E : XK} (W : DayX T.SizedDay.C T.Web.C H h p n rds rm tm dl dh) (W' : DayX T.SizedDay.C T.Web.C H h q n' rds' rm' tm' dl' dh')
    (k : ∀ c : Bool, (c = true ↔ DSame n n' rds rds' rm tm rm' tm' dl dh dl' dh') → Q (.bl c) H) : rEqO K T.SizedDay.C (spDayEq K T.SizedDay.C T.Web.C) E (.ref p) (.ref q) H Q := by
  obtain ⟨dx, fs, pw, v2, v3, ep, _⟩ := W.ex
  exact ⟨p, dx, _, _, rfl, ep, sdayTy T W', nfSelf, .inl ⟨h, p, q, n, n', rds, rds', rm, tm, rm', tm', dl, dh, dl', dh', rfl, W, W', k⟩⟩
theorem neSS (T : Tx K mg) {H : Hp} {h p q : Addr} {n n' : Int} {rds rds' : List D} {rm tm rm' tm' : List Int} {dl dh dl' dh' : D} {Q : VK} {E : XK} (W : DayX T.SizedDay.C T.Web.C H h p n rds rm tm dl dh) (W' : DayX T.SizedDay.C T.Web.C H h q n' rds' rm' tm' dl' dh')
    (k : ∀ c : Bool, (c = true ↔ DSame n n' rds rds' rm tm rm' tm' dl dh dl' dh') → Q (.bl (!c)) H) : rNeO K T.SizedDay.C (spDayEq K T.SizedDay.C T.Web.C) E (.ref p) (.ref q) H Q := by
  obtain ⟨dx, fs, pw, v2, v3, ep, _⟩ := W.ex
  exact ⟨p, dx, _, _, rfl, ep, sdayTy T W', nfSelf, .inl ⟨h, p, q, n, n', rds, rds', rm, tm, rm', tm', dl, dh, dl', dh', rfl, W, W', fun c hc => ⟨c, rfl, k c hc⟩⟩⟩
theorem eqSO (T : Tx K mg) {H : Hp} {h p : Addr} {y : V} {t : Value} {n : Int} {rds : List D} {rm tm : List Int} {dl dh : D} {Q : VK} {E : XK} (W : DayX T.SizedDay.C T.Web.C H h p n rds rm tm dl dh) (ty : TyX K H y t) (f : PySem.W.subIn K t (.ref T.SizedDay.C) = some false ∧ PySem.W.kitOne K t (.ref T.SizedDay.C) = some false)
    (k : Q (.bl false) H) : rEqO K T.SizedDay.C (spDayEq K T.SizedDay.C T.Web.C) E (.ref p) y H Q := by
  obtain ⟨dx, fs, pw, v2, v3, ep, _⟩ := W.ex
  exact ⟨p, dx, _, _, rfl, ep, ty, nfOf f.1, .inr ⟨p, y, t, rfl, ty, f.2, k⟩⟩
theorem neSO (T : Tx K mg) {H : Hp} {h p : Addr} {y : V} {t : Value} {n : Int} {rds : List D} {rm tm : List Int} {dl dh : D} {Q : VK} {E : XK} (W : DayX T.SizedDay.C T.Web.C H h p n rds rm tm dl dh) (ty : TyX K H y t) (f : PySem.W.subIn K t (.ref T.SizedDay.C) = some false ∧ PySem.W.kitOne K t (.ref T.SizedDay.C) = some false)
    (k : Q (.bl true) H) : rNeO K T.SizedDay.C (spDayEq K T.SizedDay.C T.Web.C) E (.ref p) y H Q := by
  obtain ⟨dx, fs, pw, v2, v3, ep, _⟩ := W.ex
  exact ⟨p, dx, _, _, rfl, ep, ty, nfOf f.1, .inr ⟨p, y, t, rfl, ty, f.2, false, rfl, k⟩⟩
end
end Hc


namespace Hc
open PySem L2
theorem road_d {rds : List D} {d : D} (e : isRoad rds d = true) : ∃ j : Nat, d = .int (j : Nat) ∧ j < rds.length := road_in e
end Hc


set_option Elab.async false
set_option linter.all false
set_option pp.maxSteps 600
set_option maxRecDepth 100000
set_option maxHeartbeats 4000000
set_option autoImplicit false
namespace Hc
open PySem L2
theorem eqvInts : ∀ xs ys : List Int, PyData.eqvAll (xs.map PyData.int) (ys.map PyData.int) = true ↔ xs = ys
  | [], [] => by simp [PyData.eqvAll]
  | [], _ :: _ => by simp [PyData.eqvAll]
  | _ :: _, [] => by simp [PyData.eqvAll]
  | x :: xs, y :: ys => by
    rw [List.map_cons, List.map_cons]
    simp only [PyData.eqvAll, PyData.eqv, Bool.and_eq_true, List.cons.injEq]
    rw [eqvInts xs ys]
    simp
theorem layInts : ∀ xs : List Int, PyData.canLayAll0 (xs.map PyData.int) = true ∧ PyData.depthAll (xs.map PyData.int) = 0
  | [] => ⟨rfl, rfl⟩
  | x :: xs => by
    obtain ⟨h1, h2⟩ := layInts xs
    refine ⟨?_, ?_⟩
    · show ((PyData.int x).canLay0 && PyData.canLayAll0 (xs.map PyData.int)) = true
      rw [h1]; rfl
    · show max (PyData.int x).depth (PyData.depthAll (xs.map PyData.int)) = 0
      rw [h2]; rfl
theorem shInts (xs : List Int) : SeqAt.shaped (.list (xs.map PyData.int)) = true := by
  obtain ⟨h1, h2⟩ := layInts xs
  show (PyData.canLayAll0 (xs.map PyData.int) && decide (PyData.depthAll (xs.map PyData.int) + 1 ≤ 64)) = true
  rw [h1, h2]; rfl
theorem dp_intsL {K : PySem.W.Frag} {H : Hp} : ∀ p : List Int, DpAll K H (p.map V.int) (p.map PyData.int)
  | [] => .nil
  | x :: p => .cons (.int x) (dp_intsL p)
theorem neInts {K : PySem.W.Frag} {H : Hp} {a b : Addr} {xs ys : List Int} {Q : VK} (e1 : SqL K H a (xs.map V.int)) (e2 : SqL K H b (ys.map V.int)) (k : ∀ c : Bool, (c = true ↔ xs ≠ ys) → Q (.bl c) H) : rNeD K (.ref a) (.ref b) H Q := by
  refine ⟨_, _, .lst e1 (dp_intsL xs), .lst e2 (dp_intsL ys), shInts xs, shInts ys, k _ ?_⟩
  have e : PyData.eqv (.list (xs.map PyData.int)) (.list (ys.map PyData.int)) = PyData.eqvAll (xs.map PyData.int) (ys.map PyData.int) := by simp only [PyData.eqv]
  rw [e, Bool.not_eq_true']
  have := eqvInts xs ys
  constructor
  · intro z g
    rw [this.mpr g] at z; cases z
  · intro z
    cases g : PyData.eqvAll (xs.map PyData.int) (ys.map PyData.int) with
    | false => rfl
    | true => exact absurd (this.mp g) z
def cutD (ds : List D) (lo hi : Option Int) : List D := (ds.drop (HT.sIx ds.length 0 lo)).take (HT.sIx ds.length ds.length hi - HT.sIx ds.length 0 lo)
theorem slS {K : PySem.W.Frag} {H : Hp} {h : Addr} {x : V} {lo hi : Option Int} {Q : VK} {ds : List D} (r : Rp H h x (.tup ds))
    (k : ∀ v H', Same H H' → Rp H' h v (.tup (cutD ds lo hi)) → Q v H') : rSlA K x lo hi H Q := by
  obtain ⟨a, xs, rfl, e, z, ra⟩ := tup_inv r
  have l := ra.len
  refine ⟨a, xs, rfl, SqT.of e, fun hw => ?_, fun _ p hp => ?_⟩
  · rw [l] at hw
    have : cutD ds lo hi = ds := by
      unfold cutD
      rw [hw.1, hw.2, List.drop_zero, Nat.sub_zero, List.take_length]
    have k' := k (.ref a) H (Same.refl _)
    rw [this] at k'
    exact k' r
  · have s2 := same_upd (o := .tup (cutV xs lo hi)) hp
    refine k _ _ s2 (.tup upd_same (Nat.le_trans (cutV_length _ _ _) z) ?_)
    have : RpA H h (cutV xs lo hi) (cutD ds lo hi) := by
      unfold cutV cutD
      rw [l]
      exact RpA.take _ (RpA.drop _ ra)
    exact this.same s2
theorem catS {K : PySem.W.Frag} {H : Hp} {h : Addr} {x y : V} {Q : VK} {ds es : List D} (r1 : Rp H h x (.tup ds)) (r2 : Rp H h y (.tup es)) (z : ds.length + es.length ≤ 50000)
    (k : ∀ v H', Same H H' → Rp H' h v (.tup (ds ++ es)) → Q v H') : rCatA K x y H Q := by
  obtain ⟨a, xs, rfl, e1, z1, ra⟩ := tup_inv r1
  obtain ⟨b, ys, rfl, e2, z2, rb⟩ := tup_inv r2
  have l1 := ra.len
  have l2 := rb.len
  refine ⟨a, b, xs, ys, rfl, rfl, SqT.of e1, SqT.of e2, line_le (by omega), fun ex => ?_, fun _ ey => ?_, fun _ _ p hp => ?_⟩
  · subst ex
    cases ra
    exact k _ _ (Same.refl _) r2
  · subst ey
    cases rb
    refine k _ _ (Same.refl _) ?_
    rw [List.append_nil]
    exact r1
  · have s3 := same_upd (o := .tup (xs ++ ys)) hp
    exact k _ _ s3 (.tup upd_same (by rw [List.length_append]; omega) ((ra.app rb).same s3))
/-- a list that is sorted has its members once each -/
theorem sorted_same {xs ys : List Int} (hy : ys.Pairwise (· < ·)) (hm : ∀ k, k ∈ ys ↔ k ∈ xs) : xs = ys ↔ xs.Pairwise (· < ·) := by
  constructor
  · intro e; rw [e]; exact hy
  · intro hx
    have nd : ∀ {l : List Int}, l.Pairwise (· < ·) → l.Nodup := fun h => h.imp fun h => by omega
    exact List.Perm.eq_of_pairwise (le := (· < ·)) (fun a b _ _ h1 h2 => by omega) hx hy ((List.perm_ext_iff_of_nodup (nd hx) (nd hy)).mpr fun k => (hm k).symm)
section
variable {P : Program} {w : World} {K : PySem.W.Frag} {mg : Str → Option Value} {base : Heap}
def spFlag : Sp := fun vs H Q _ => ∃ a b : Bool, vs = [.bl a, .bl b] ∧ Q (.bl (decide (V.bl a = V.bl b))) H
theorem ok__law_is_integer (T : Tx K mg) : FnOk P w K mg base CX0 1 T._law_is_integer.f T._law_is_integer.fd ["_law_thing"] (spThing isInt) := by
  refine T._law_is_integer.F.ok sc_law_is_integer (fun vs H Q E h => ?_) (fun cdv A outer s H vs Q E hr h => ?_)
  · obtain ⟨_, _, _, rfl, _⟩ := h
    rfl
  · obtain ⟨h, v, d, rfl, r, k⟩ := h
    refine ⟨_, (pss_one (ps_ret (pe_and (pe_callB call_isi (by rfl) T.n_isinstance (by decide +kernel) (pa_cons (pv 0) (pa_cons (pe_bltn (v := .ty "int") (by rfl) T.n_int (by decide +kernel) rfl) pa_nil))) (pe_one (pe_not (pe_callB call_isi (by rfl) T.n_isinstance (by decide +kernel) (pa_cons (pv 0) (pa_cons (pe_bltn (v := .ty "bool") (by rfl) T.n_bool (by decide +kernel) rfl) pa_nil)))))))), ?_⟩
    refine ⟨_, rfl, _, _, _, _, _, rfl, .ty "int", r.ty, kit_ty (kitI d), _, rfl, ?_⟩
    cases e : isIB d with
    | false =>
      refine iteF ?_
      have : isInt d = false := by cases d <;> first | rfl | exact Bool.noConfusion e
      rw [this] at k
      exact k
    | true =>
      refine iteT ?_
      refine ⟨_, rfl, _, _, _, _, _, rfl, .ty "bool", r.ty, kit_ty (kitBo d), _, rfl, ?_⟩
      have : (!isB d) = isInt d := by cases d <;> first | rfl | exact Bool.noConfusion e
      rw [this]
      exact k
def spPut : Sp := fun vs H Q _ => ∃ (h : Addr) (v x : V) (ds : List D) (d : D) (at_ : Nat), vs = [v, .int (at_ : Nat), x] ∧ Rp H h v (.tup ds) ∧ Rp H h x d ∧ ds.length ≤ 1000 ∧
  ∀ t H', Same H H' → Rp H' h t (.tup (cutD ds none (some (at_ : Int)) ++ [d] ++ cutD ds (some ((at_ : Int) + 1)) none)) → Q t H'
theorem cutD_len (ds : List D) (lo hi : Option Int) : (cutD ds lo hi).length ≤ ds.length := by
  unfold cutD
  rw [List.length_take, List.length_drop]; omega
theorem ok__law_put (T : Tx K mg) : FnOk P w K mg base CX0 1 T._law_put.f T._law_put.fd ["_law_thing", "_law_at", "_law_item"] spPut := by
  refine T._law_put.F.ok sc_law_put (fun vs H Q E h => ?_) (fun cdv A outer s H vs Q E hr h => ?_)
  · obtain ⟨_, _, _, _, _, _, rfl, _⟩ := h
    rfl
  · obtain ⟨h, v, x, ds, d, i, rfl, rv, rx, l1000, k⟩ := h
    refine ⟨_, (pss_one (ps_ret (pe_op op_catA (pe_op op_catA (pe_slice sl_tupA (pv 0) po_none (po_some (pv 1))) (pe_tup (pa_cons (pv 2) pa_nil))) (pe_slice sl_tupA (pv 0) (po_some (pe_op op_add (pv 1) pe_int)) po_none)))), ?_⟩
    delta tNoPart
    refine ⟨_, rfl, _, rfl, _, rfl, slS rv fun v1 H1 s1 r1 => ?_⟩
    refine ⟨_, rfl, by show 1 ≤ sizeLine; decide, fun u hu => ?_⟩
    have s2 := same_upd (o := .tup [x]) hu
    have eu : (upd H1 u (.tup [x])) u = some (.tup [x]) := upd_same
    generalize upd H1 u (.tup [x]) = H2 at s2 eu ⊢
    have l1 := cutD_len ds none (some (i : Int))
    have l2 := cutD_len ds (some ((i : Int) + 1)) none
    refine catS (r1.same s2) (.tup eu (by simp) (.cons (rx.same (s1.trans s2)) .nil)) (by rw [List.length_singleton]; omega) fun v3 H3 s3 r3 => ?_
    have s13 := (s1.trans s2).trans s3
    refine ⟨_, rfl, _, rfl, _, _, rfl, rfl, _, rfl, slS (rv.same s13) fun v4 H4 s4 r4 => ?_⟩
    exact catS (r3.same s4) r4 (by rw [List.length_append, List.length_singleton]; omega) fun v5 H5 s5 r5 => k v5 H5 ((s13.trans s4).trans s5) r5
end
end Hc


set_option Elab.async false
set_option linter.all false
set_option pp.maxSteps 700
set_option maxRecDepth 100000
set_option maxHeartbeats 4000000
set_option autoImplicit false
namespace Hc
open PySem L2
section
variable {P : Program} {w : World} {K : PySem.W.Frag} {mg : Str → Option Value} {base : Heap}
def spIsWayL : Sp := fun vs H Q _ => ∃ (h : Addr) (v x : V) (n : Int) (rds : List D) (d : D), vs = [v, x] ∧ RdL H h v n rds ∧ Rp H h x d ∧ ∀ H', Same H H' → Q (.bl (isWay rds d)) H'
theorem ok__law_is_way (T : Tx K mg) : FnOk P w K mg base CX0 2 T._law_is_way.f T._law_is_way.fd ["_law_roads_here", "_law_thing"] spIsWayL := by
  refine T._law_is_way.F.ok sc_law_is_way (fun vs H Q E h => ?_) (fun cdv A outer s H vs Q E hr h => ?_)
  · obtain ⟨_, _, _, _, _, _, rfl, _⟩ := h
    rfl
  · obtain ⟨h, v, x, n, rds, d, rfl, W, r, k⟩ := h
    obtain ⟨pr, xr, rfl, er, _, rr⟩ := tup_inv W.r
    have lr := rr.len
    refine ⟨_, (pss_cons (ps_if (PW.pt (pw_or (pt_not (pt_val (pe_callB call_isi (by rfl) T.n_isinstance (by decide +kernel) (pa_cons (pv 1) (pa_cons (pe_bltn (v := .ty "tuple") (by rfl) T.n_tuple (by decide +kernel) rfl) pa_nil))))) (pw_or1 (pt_not (pt_chain op_le op_le pe_int (pe_callB call_len_seq (by rfl) T.n_len (by decide +kernel) (pa_cons (pv 1) pa_nil)) pe_int)))))
      (pss_one (ps_ret pe_bl))
      pss_nil)
      (pss_cons (ps_for PassesOwn.never rfl (pi_range1 (by rfl) T.n_range (pa_cons (pe_callB call_len_seq (by rfl) T.n_len (by decide +kernel) (pa_cons (pv 1) pa_nil)) pa_nil)) (pg_name (i := 2) sc_law_is_way.nd rfl (Or.inl rfl))
      (pss_cons (ps_if (PW.pt (pw_or (pt_not (pt_val (pe_call (ok__law_is_integer T) (hr.mono (by decide)) rfl T._law_is_integer.g T._law_is_integer.F.kp T._law_is_integer.b .nil pass0 (pa_cons (pe_ix ix_tup (pv 1) (pv 2) (fun _ _ => rfl)) pa_nil)))) (pw_or1 (pt_not (pt_chain op_le op_lt pe_int (pe_ix ix_tup (pv 1) (pv 2) (fun _ _ => rfl)) (pe_callB call_len_seq (by rfl) T.n_len (by decide +kernel) (pa_cons (pv 0) pa_nil)))))))
      (pss_one (ps_ret pe_bl))
      pss_nil)
      (pss_one (ps_if (PW.pt (pw_and (pt_cmpR op_gt (pv 2) pe_int (nomark _)) (pw_and1 (pt_cmpR op_ne (pe_ix ix_tup (pe_ix ix_tup (pv 0) (pe_ix ix_tup (pv 1) (pe_op op_sub (pv 2) pe_int) (fun _ _ => rfl)) (fun _ _ => rfl)) pe_int (fun _ _ => rfl)) (pe_ix ix_tup (pe_ix ix_tup (pv 0) (pe_ix ix_tup (pv 1) (pv 2) (fun _ _ => rfl)) (fun _ _ => rfl)) pe_int (fun _ _ => rfl)) (nomark _)))))
      (pss_one (ps_ret pe_bl))
      pss_nil))))
      (pss_one (ps_ret pe_bl)))), ?_⟩
    refine ⟨_, rfl, _, _, _, _, _, rfl, .ty "tuple", r.ty, kit_ty (kitT d), _, rfl, ?_⟩
    cases r with
    | @tup pa xs ts e z ra =>
      have lx := ra.len
      refine iteF ⟨_, rfl, _, _, rfl, .inr (SqT.of e), _, _, rfl, rfl, _, rfl, ?_⟩
      rw [lx]
      have no : isWay rds (.tup ts) = false → ∀ H', Same H H' → Q (.bl false) H' := fun g H' s => by
        have := k H' s
        rw [g] at this
        exact this
      by_cases h1 : 1 ≤ ts.length
      rotate_left 1
      · rw [decide_eq_false (show ¬ (1 : Int) ≤ (ts.length : Int) by omega)]
        exact iteF ⟨_, rfl, iteT (no (by rw [isWay_tup, decide_eq_false h1]; rfl) _ (Same.refl _))⟩
      rw [decide_eq_true (show (1 : Int) ≤ (ts.length : Int) by omega)]
      refine iteT ⟨_, _, rfl, rfl, _, rfl, ?_⟩
      by_cases h2 : ts.length ≤ 8
      rotate_left 1
      · rw [decide_eq_false (show ¬ (ts.length : Int) ≤ 8 by omega)]
        exact iteT (no (by rw [isWay_tup, decide_eq_false h2, Bool.and_false]; rfl) _ (Same.refl _))
      rw [decide_eq_true (show (ts.length : Int) ≤ 8 by omega)]
      refine iteF ⟨_, rfl, pa, xs, rfl, .inr (SqT.of e), ((xs.length : Nat) : Int), rfl, by omega, by omega, for_range (lo := 0) (n := ((xs.length : Nat) : Int).toNat) (fun i σ' H' => ∃ o2 : Option V, σ' = [some (.ref pr), some (.ref pa), o2] ∧ Same H H' ∧ ∀ j < i, isRoad rds (ts.getD j .non) = true ∧ (0 < j → en (dAt rds (num (ts.getD (j - 1) .non))) = bg (dAt rds (num (ts.getD j .non)))))
        ⟨_, rfl, Same.refl _, fun j hj => absurd hj (Nat.not_lt_zero _)⟩ ?_ ?_⟩
      · rintro i σ' H1 hi ⟨o2, rfl, s1, gd⟩
        have hi' : i < ts.length := by omega
        obtain ⟨x, hx⟩ : ∃ x, xs[i]? = some x := ⟨_, List.getElem?_eq_getElem (by omega)⟩
        obtain ⟨d, hd, rx⟩ := ra.get hx
        have gD : ts.getD i .non = d := by rw [List.getD_eq_getElem?_getD, hd]; rfl
        have bad : isRoad rds d = false → isWay rds (.tup ts) = false := fun g => by
          have : ts.all (isRoad rds) = false := by
            cases c : ts.all (isRoad rds) with
            | false => rfl
            | true => rw [List.all_eq_true.mp c d (List.mem_of_getElem? hd)] at g; cases g
          rw [isWay_tup, this, Bool.and_false]; rfl
        refine ⟨_, rfl, _, rfl, pa, _, _, x, rfl, rfl, SqT.of (s1 _ _ e), at_of (j := i) (by omega) hx, h, x, d, rfl, rx.same s1, _, rfl, ?_⟩
        have rno : isInt d = false → isRoad rds d = false := fun h => by cases d <;> first | rfl | exact Bool.noConfusion h
        cases g1 : isInt d with
        | false => exact iteT (iteT (no (bad (rno g1)) _ s1))
        | true =>
          obtain ⟨j, rfl⟩ : ∃ i, d = .int i := by cases d <;> first | exact ⟨_, rfl⟩ | exact Bool.noConfusion g1
          cases rx
          have rint : isRoad rds (.int j) = (decide (0 ≤ j) && decide (j < (rds.length : Nat))) := by
            show (decide (0 ≤ j) && decide (j ≤ (rds.length : Int) - 1)) = _
            congr 1
            rw [decide_eq_decide]
            omega
          refine iteF ⟨_, rfl, _, rfl, pa, _, _, _, rfl, rfl, SqT.of (s1 _ _ e), at_of (j := i) (by omega) hx, _, _, rfl, rfl, _, rfl, ?_⟩
          by_cases g2 : 0 ≤ j
          rotate_left 1
          · rw [decide_eq_false g2]
            exact iteF ⟨_, rfl, iteT (no (bad (by rw [rint, decide_eq_false g2]; rfl)) _ s1)⟩
          rw [decide_eq_true g2]
          refine iteT ⟨_, rfl, pr, _, rfl, .inr (SqT.of (s1 _ _ er)), _, _, rfl, rfl, _, rfl, ?_⟩
          rw [lr]
          by_cases g3 : j < (rds.length : Nat)
          rotate_left 1
          · rw [decide_eq_false g3]
            exact iteT (no (bad (by rw [rint, decide_eq_false g3, Bool.and_false])) _ s1)
          rw [decide_eq_true g3]
          have ir : isRoad rds (.int j) = true := by rw [rint, decide_eq_true g2, decide_eq_true g3]; rfl
          refine iteF ⟨_, rfl, _, _, rfl, rfl, _, rfl, ?_⟩
          have more : (0 < i → en (dAt rds (num (ts.getD (i - 1) .non))) = bg (dAt rds j)) → ∀ m < i + 1, isRoad rds (ts.getD m .non) = true ∧ (0 < m → en (dAt rds (num (ts.getD (m - 1) .non))) = bg (dAt rds (num (ts.getD m .non)))) := fun hm m hm1 => by
            by_cases z : m = i
            · subst z
              rw [gD]
              exact ⟨ir, hm⟩
            · exact gd m (by omega)
          by_cases i0 : i = 0
          · rw [decide_eq_false (show ¬ (0 : Int) < 0 + ((i : Nat) : Int) by omega)]
            exact iteF (iteF ⟨_, rfl, s1, more fun z => absurd z (by omega)⟩)
          rw [decide_eq_true (show (0 : Int) < 0 + ((i : Nat) : Int) by omega)]
          obtain ⟨y, hy⟩ : ∃ y, xs[i - 1]? = some y := ⟨_, List.getElem?_eq_getElem (by omega)⟩
          obtain ⟨d', hd', ry⟩ := ra.get hy
          have gD' : ts.getD (i - 1) .non = d' := by rw [List.getD_eq_getElem?_getD, hd']; rfl
          have ir' := (gd (i - 1) (by omega)).1
          rw [gD'] at ir'
          obtain ⟨jp, rfl, hjp⟩ := road_d ir'
          cases ry
          obtain ⟨jn, rfl⟩ := Int.eq_ofNat_of_zero_le g2
          have hjn : jn < rds.length := by omega
          obtain ⟨qa, aa, ba, u1, u2, u3, u4⟩ := rr.road W.all hjp
          obtain ⟨qb, ab, bb, t1, t2, t3, t4⟩ := rr.road W.all hjn
          refine iteT ⟨_, rfl, _, rfl, _, rfl, _, _, rfl, rfl, pa, _, _, _, rfl, rfl, SqT.of (s1 _ _ e), at_of (j := i - 1) (by omega) hy, pr, _, _, _, rfl, rfl, SqT.of (s1 _ _ er), atI_nat u1, qa, _, 1, _, rfl, rfl, SqT.of (s1 _ _ u2), atI_nat (j := 1) rfl, ?_⟩
          refine ⟨_, rfl, _, rfl, _, rfl, pa, _, _, _, rfl, rfl, SqT.of (s1 _ _ e), at_of (j := i) (by omega) hx, pr, _, _, _, rfl, rfl, SqT.of (s1 _ _ er), atI_nat t1, qb, _, 0, _, rfl, rfl, SqT.of (s1 _ _ t2), atI_nat (j := 0) rfl, rfl, _, rfl, ?_⟩
          have ea : en (dAt rds ((jp : Nat) : Int)) = ba := by unfold dAt; rw [Int.toNat_natCast]; exact u4
          have eb : bg (dAt rds ((jn : Nat) : Int)) = ab := by unfold dAt; rw [Int.toNat_natCast]; exact t3
          by_cases g : ba = ab
          · rw [show (!decide (V.int ba = V.int ab)) = false by rw [g, decide_eq_true rfl]; rfl]
            exact iteF ⟨_, rfl, s1, more fun _ => by rw [gD']; show en (dAt rds ((jp : Nat) : Int)) = _; rw [ea, eb]; exact g⟩
          · rw [show (!decide (V.int ba = V.int ab)) = true by rw [decide_eq_false (fun z => g (V.int.inj z))]; rfl]
            refine iteT (no ?_ _ s1)
            cases c : isWay rds (.tup ts) with
            | false => rfl
            | true =>
              rw [isWay_tup, Bool.and_eq_true] at c
              have c := c.2
              unfold adj at c
              rw [List.all_eq_true, List.length_map] at c
              have := of_decide_eq_true (c (i - 1) (List.mem_range.mpr (by omega)))
              have gn : ∀ j, j < ts.length → (ts.map num).getD j 0 = num (ts.getD j .non) := fun j hj => by
                rw [List.getD_eq_getElem?_getD, List.getElem?_map, List.getElem?_eq_getElem hj, List.getD_eq_getElem?_getD, List.getElem?_eq_getElem hj]; rfl
              rw [gn _ (by omega), show i - 1 + 1 = i by omega, gn _ (by omega), gD, gD'] at this
              have this : en (dAt rds ((jp : Nat) : Int)) = bg (dAt rds ((jn : Nat) : Int)) := this
              rw [ea, eb] at this
              exact absurd this g
      · rintro σ' H1 ⟨o2, rfl, s1, gd⟩
        have gd : ∀ j < ts.length, isRoad rds (ts.getD j .non) = true ∧ (0 < j → en (dAt rds (num (ts.getD (j - 1) .non))) = bg (dAt rds (num (ts.getD j .non)))) := fun j hj => gd j (by omega)
        have g : isWay rds (.tup ts) = true := by
          rw [isWay_tup, decide_eq_true h1, decide_eq_true h2, Bool.true_and, Bool.and_eq_true]
          refine ⟨by
            rw [Bool.true_and, List.all_eq_true]
            intro d hd
            obtain ⟨j, hj, rfl⟩ := List.mem_iff_getElem.mp hd
            have := (gd j (by omega)).1
            rwa [List.getD_eq_getElem?_getD, List.getElem?_eq_getElem hj] at this, ?_⟩
          unfold adj
          rw [List.all_eq_true]
          intro j hj
          rw [List.mem_range, List.length_map] at hj
          have := (gd (j + 1) (by omega)).2 (by omega)
          rw [Nat.add_sub_cancel] at this
          have gn : ∀ j, j < ts.length → (ts.map num).getD j 0 = num (ts.getD j .non) := fun j hj => by
            rw [List.getD_eq_getElem?_getD, List.getElem?_map, List.getElem?_eq_getElem hj, List.getD_eq_getElem?_getD, List.getElem?_eq_getElem hj]; rfl
          rw [gn j (by omega), gn (j + 1) (by omega)]
          exact decide_eq_true this
        have := k H1 s1
        rw [g] at this
        exact this
    | _ => exact iteT (k H (Same.refl _))
end
end Hc


set_option Elab.async false
set_option linter.all false
set_option pp.maxSteps 600
set_option maxRecDepth 100000
set_option maxHeartbeats 4000000
set_option autoImplicit false
namespace Hc
open PySem L2
theorem isTup_not {d : D} (h : ∀ ts, d ≠ .tup ts) (rds : List D) : isSl rds d = false := by
  cases d with
  | tup ts => exact absurd rfl (h ts)
  | _ => rfl
theorem neq_len {a b : Nat} : (!decide (V.int (a : Nat) = V.int (b : Nat))) = !decide (a = b) := by
  congr 1
  rw [int_eqd, decide_eq_decide]; omega
section
variable {P : Program} {w : World} {K : PySem.W.Frag} {mg : Str → Option Value} {base : Heap}
def spLettersL : Sp := fun vs H Q _ => ∃ (h : Addr) (v x : V) (n : Int) (rds : List D) (d : D), vs = [v, x] ∧ RdL H h v n rds ∧ Rp H h x d ∧ ∀ H', Same H H' → Q (.bl (areSls rds d)) H'
theorem ok__law_are_letters (T : Tx K mg) : FnOk P w K mg base CX0 3 T._law_are_letters.f T._law_are_letters.fd ["_law_roads_here", "_law_thing"] spLettersL := by
  refine T._law_are_letters.F.ok sc_law_are_letters (fun vs H Q E h => ?_) (fun cdv A outer s H vs Q E hr h => ?_)
  · obtain ⟨_, _, _, _, _, _, rfl, _⟩ := h
    rfl
  · obtain ⟨h, v, x, n, rds, d, rfl, W, r, k⟩ := h
    refine ⟨_, (pss_cons (ps_if (PW.pt (pw_or (pt_not (pt_val (pe_callB call_isi (by rfl) T.n_isinstance (by decide +kernel) (pa_cons (pv 1) (pa_cons (pe_bltn (v := .ty "tuple") (by rfl) T.n_tuple (by decide +kernel) rfl) pa_nil))))) (pw_or1 (pt_cmpR op_gt (pe_callB call_len_seq (by rfl) T.n_len (by decide +kernel) (pa_cons (pv 1) pa_nil)) pe_int (nomark _)))))
      (pss_one (ps_ret pe_bl))
      pss_nil)
      (pss_cons (ps_for PassesOwn.never rfl (pi_tup (pv 1)) (pg_name (i := 2) sc_law_are_letters.nd rfl (Or.inl rfl))
      (pss_cons (ps_if (PW.pt (pw_or (pt_not (pt_val (pe_callB call_isi (by rfl) T.n_isinstance (by decide +kernel) (pa_cons (pv 2) (pa_cons (pe_bltn (v := .ty "tuple") (by rfl) T.n_tuple (by decide +kernel) rfl) pa_nil))))) (pw_or (pt_cmpR op_ne (pe_callB call_len_seq (by rfl) T.n_len (by decide +kernel) (pa_cons (pv 2) pa_nil)) pe_int (nomark _)) (pw_or1 (pt_not (pt_val (pe_call (ok__law_is_way T) (hr.mono (by decide)) rfl T._law_is_way.g T._law_is_way.F.kp T._law_is_way.b .nil pass0 (pa_cons (pv 0) (pa_cons (pe_ix ix_tup (pv 2) pe_int (fun _ _ => rfl)) pa_nil)))))))))
      (pss_one (ps_ret pe_bl))
      pss_nil)
      (pss_cons (ps_if (PW.pt (pw_or (pt_not (pt_val (pe_call (ok__law_is_integer T) (hr.mono (by decide)) rfl T._law_is_integer.g T._law_is_integer.F.kp T._law_is_integer.b .nil pass0 (pa_cons (pe_ix ix_tup (pv 2) pe_int (fun _ _ => rfl)) pa_nil)))) (pw_or1 (pt_not (pt_val (pe_call (ok__law_is_integer T) (hr.mono (by decide)) rfl T._law_is_integer.g T._law_is_integer.F.kp T._law_is_integer.b .nil pass0 (pa_cons (pe_ix ix_tup (pv 2) pe_int (fun _ _ => rfl)) pa_nil)))))))
      (pss_one (ps_ret pe_bl))
      pss_nil)
      (pss_one (ps_if (PW.pt (pw_or (pt_not (pt_chain op_le op_le pe_int (pe_ix ix_tup (pv 2) pe_int (fun _ _ => rfl)) (pe_op op_pow pe_int pe_int))) (pw_or1 (pt_not (pt_chain op_le op_le pe_int (pe_ix ix_tup (pv 2) pe_int (fun _ _ => rfl)) pe_int)))))
      (pss_one (ps_ret pe_bl))
      pss_nil)))))
      (pss_one (ps_ret pe_bl)))), ?_⟩
    refine ⟨_, rfl, _, _, _, _, _, rfl, .ty "tuple", r.ty, kit_ty (kitT d), _, rfl, ?_⟩
    cases r with
    | @tup pa xs ts e z ra =>
      have lx := ra.len
      refine iteF ⟨_, rfl, _, _, rfl, .inr (SqT.of e), _, _, rfl, rfl, _, rfl, ?_⟩
      rw [lx]
      by_cases h1 : ts.length ≤ 60
      rotate_left 1
      · rw [decide_eq_true (show (60 : Int) < (ts.length : Int) by omega)]
        have := k H (Same.refl _)
        rw [areSls_tup, decide_eq_false h1] at this
        exact iteT this
      rw [decide_eq_false (show ¬ (60 : Int) < (ts.length : Int) by omega)]
      have bad : ∀ d ∈ ts, isSl rds d = false → ∀ H', Same H H' → Q (.bl false) H' := fun d hd g H' s => by
        have := k H' s
        have e0 : ts.all (isSl rds) = false := by
          cases c : ts.all (isSl rds) with
          | false => rfl
          | true => rw [List.all_eq_true.mp c d hd] at g; cases g
        rw [areSls_tup, e0, Bool.and_false] at this
        exact this
      refine iteF ⟨_, rfl, pa, rfl, ⟨xs, SqT.of e⟩, ?_⟩
      refine for_tup (K := K) (a := pa) (xs := xs) (fun i σ' H' => ∃ o2 : Option V, σ' = [some v, some (.ref pa), o2] ∧ Same H H' ∧ (ts.take i).all (isSl rds) = true)
        ⟨_, rfl, Same.refl _, rfl⟩ (fun i σ' H' _ ⟨_, _, s, _⟩ => SqT.of (s _ _ e)) ?_ ?_
      · rintro i x σ' H1 hx ⟨o2, rfl, s1, gd⟩
        obtain ⟨d, hd, rx0⟩ := ra.get hx
        have rx := rx0.same s1
        have hm := List.mem_of_getElem? hd
        have hb := bad d hm
        refine ⟨_, rfl, _, _, _, _, _, rfl, .ty "tuple", rx.ty, kit_ty (kitT d), _, rfl, ?_⟩
        cases rx with
        | @tup pb ys us e2 z2 rb =>
          have ly := rb.len
          refine iteF ⟨_, rfl, _, _, rfl, .inr (SqT.of e2), rfl, _, rfl, ?_⟩
          rw [show (!decide (V.int (ys.length : Nat) = V.int 3)) = !decide (ys.length = 3) from neq_len (b := 3)]
          by_cases h3 : us.length = 3
          rotate_left 1
          · rw [show (!decide (ys.length = 3)) = true by rw [decide_eq_false (by omega)]; rfl]
            exact iteT (iteT (hb (not_three (decide_eq_false (by omega))) _ s1))
          rw [show (!decide (ys.length = 3)) = false by rw [decide_eq_true (by omega)]; rfl]
          obtain ⟨wd, cd, zd, rfl⟩ : ∃ a b c, us = [a, b, c] := by
            match us, h3 with
            | [a, b, c], _ => exact ⟨a, b, c, rfl⟩
          cases rb with
          | cons r1 rb =>
          cases rb with
          | cons r2 rb =>
          cases rb with
          | cons r3 rb =>
          cases rb
          have el : isSl rds (.tup [wd, cd, zd]) = (isWay rds wd && (isBtw 1 1000000 cd && isSz zd)) := rfl
          rw [el] at hb
          refine iteF ⟨_, rfl, _, rfl, pb, _, 0, _, rfl, rfl, SqT.of e2, atI_nat (j := 0) rfl, h, v, _, n, rds, wd, rfl, W.same s1, r1, fun H2 s2 => ⟨_, rfl, ?_⟩⟩
          have s12 := s1.trans s2
          cases g1 : isWay rds wd with
          | false =>
            rw [g1] at hb
            exact iteT (hb rfl _ s12)
          | true =>
          rw [g1] at hb
          refine iteF ⟨_, rfl, pb, _, 1, _, rfl, rfl, SqT.of (s2 _ _ e2), atI_nat (j := 1) rfl, h, _, cd, rfl, r2.same s2, _, rfl, ?_⟩
          cases g2 : isInt cd with
          | false =>
            have : isBtw 1 1000000 cd = false := by cases cd <;> first | rfl | exact Bool.noConfusion g2
            rw [this] at hb
            exact iteT (iteT (hb rfl _ s12))
          | true =>
          obtain ⟨c, rfl⟩ : ∃ i, cd = .int i := by cases cd <;> first | exact ⟨_, rfl⟩ | exact Bool.noConfusion g2
          cases r2
          refine iteF ⟨_, rfl, pb, _, 2, _, rfl, rfl, SqT.of (s2 _ _ e2), atI_nat (j := 2) rfl, h, _, zd, rfl, r3.same s2, _, rfl, ?_⟩
          cases g3 : isInt zd with
          | false =>
            have : isSz zd = false := by cases zd <;> first | rfl | exact Bool.noConfusion g3
            rw [this, Bool.and_false] at hb
            exact iteT (hb rfl _ s12)
          | true =>
          obtain ⟨z, rfl⟩ : ∃ i, zd = .int i := by cases zd <;> first | exact ⟨_, rfl⟩ | exact Bool.noConfusion g3
          cases r3
          have ec : isBtw 1 1000000 (.int c) = (decide (1 ≤ c) && decide (c ≤ 1000000)) := rfl
          have ezz : isSz (.int z) = (decide (1 ≤ z) && decide (z ≤ 2)) := by
            show (decide (z = 1) || decide (z = 2)) = _
            rw [Bool.eq_iff_iff, Bool.or_eq_true, Bool.and_eq_true, decide_eq_true_eq, decide_eq_true_eq, decide_eq_true_eq, decide_eq_true_eq]
            omega
          rw [ec, ezz] at hb
          refine iteF ⟨_, rfl, pb, _, 1, _, rfl, rfl, SqT.of (s2 _ _ e2), atI_nat (j := 1) rfl, _, _, rfl, rfl, _, rfl, ?_⟩
          by_cases q1 : 1 ≤ c
          rotate_left 1
          · rw [decide_eq_false q1]
            rw [decide_eq_false q1] at hb
            exact iteF ⟨_, rfl, iteT (iteT (hb rfl _ s12))⟩
          rw [decide_eq_true q1]
          refine iteT ⟨_, _, rfl, rfl, ⟨by decide, by decide, by decide⟩, _, _, rfl, rfl, _, rfl, ?_⟩
          rw [show (10 : Int) ^ (6 : Int).toNat = 1000000 by decide]
          by_cases q2 : c ≤ 1000000
          rotate_left 1
          · rw [decide_eq_false q2]
            rw [decide_eq_false q2, Bool.and_false] at hb
            exact iteT (iteT (hb rfl _ s12))
          rw [decide_eq_true q2]
          refine iteF ⟨_, rfl, pb, _, 2, _, rfl, rfl, SqT.of (s2 _ _ e2), atI_nat (j := 2) rfl, _, _, rfl, rfl, _, rfl, ?_⟩
          by_cases q3 : 1 ≤ z
          rotate_left 1
          · rw [decide_eq_false q3]
            rw [decide_eq_false q3, Bool.false_and, Bool.and_false] at hb
            exact iteF ⟨_, rfl, iteT (hb rfl _ s12)⟩
          rw [decide_eq_true q3]
          refine iteT ⟨_, _, rfl, rfl, _, rfl, ?_⟩
          by_cases q4 : z ≤ 2
          rotate_left 1
          · rw [decide_eq_false q4]
            rw [decide_eq_false q4, Bool.and_false, Bool.and_false] at hb
            exact iteT (hb rfl _ s12)
          rw [decide_eq_true q4]
          refine iteF ⟨_, rfl, s12, ?_⟩
          rw [take_more hd, List.all_append, gd, Bool.true_and, List.all_cons, List.all_nil, Bool.and_true, el, g1, ec, ezz, decide_eq_true q1, decide_eq_true q2, decide_eq_true q3, decide_eq_true q4]
          rfl
        | _ => exact iteT (iteT (hb rfl _ s1))
      · rintro σ' H1 ⟨o2, rfl, s1, gd⟩
        rw [show xs.length = ts.length from lx, List.take_length] at gd
        have := k H1 s1
        rw [areSls_tup, decide_eq_true h1, gd] at this
        exact this
    | _ => exact iteT (k H (Same.refl _))
end
end Hc


set_option Elab.async false
set_option linter.all false
set_option maxRecDepth 100000
set_option maxHeartbeats 1000000
set_option autoImplicit false
namespace L2
open PySem PySem.Spec PyProof.Rows
/-! ### len(set(xs)), xs a list of tuples of ints -/
section
variable {X : Cx}
def tLenSetT (K : PySem.W.Frag) (ta : TE) : TE := fun σ H Q => ta σ H fun x H1 => ∃ (l : Addr) (ks : List (Addr × List Int)), x = V.ref l ∧ SqL K H1 l (ks.map fun p => V.ref p.1) ∧ (∀ p ∈ ks, SqT K H1 p.1 (p.2.map V.int)) ∧ ks.length < 64 ∧
  ∀ L : List (List Int), L.Nodup → (∀ k ∈ L, k ∈ ks.map (·.2)) → (∀ p ∈ ks, p.2 ∈ L) → Q (.int L.length) H1
theorem pe_lenSetT {a : Expr} {ta : TE} {p p2 q pos : Pos} (hc : X.calm = true) (hu : X.A.units + 64 < cLine) (hg : Gl X "len") (hm : X.mg "len" = none) (hg2 : Gl X "set") (hm2 : X.mg "set" = none) (ha : PE X a ta)
    (na : starEach [a] X.env = (false, eval a X.env) :: starEach [] X.env := by rfl) : PE X (.Call (.Name "len" p) [.Call (.Name "set" p2) [a] [] q] [] pos) (tLenSetT X.K ta) := by
  refine ⟨fun pins s σ H Q I h => ?_⟩
  refine Call_ (ld_blt I hg hm PySem.boot_len ?_)
  refine PyProof.Rows.callWith_builtin1 (PyProof.Rows.args_cons ?_ rfl) rfl rfl
  refine Call_ (ld_blt I hg2 hm2 PyProof.Rows.boot_set ?_)
  refine PyProof.Rows.callWith_type1 (PyProof.Rows.args_cons (thn (ha.run pins s σ H _ I h) fun v s1 ⟨x, H1, I1, r1, q1⟩ => PyProof.Rows.args_nil ?_) na) na rfl
  obtain ⟨l, ks, rfl, hl, hk, hf, q1⟩ := q1
  rw [show v = Value.ref l from r1]
  obtain ⟨its, rv, pl, hz⟩ := I1.list hl
  refine call_set_tups (P := X.prog) (w := X.w) ks (I1.ok.hd hc) pl.isList (by simpa using refs_of_vals rv) (fun p hp => I1.isT (hk p hp)) hf (by omega) fun h' tk L es ep t R g k => ?_
  refine PyProof.Rows.args_nil ?_
  obtain ⟨o, ho, hex, hd⟩ := R.ob
  have I2 : Inv X pins σ H1 { s1 with heap := h', toks := tk } := I1.kept fun b o e => k b o e
  have sz := R.size (s := { s1 with heap := h', toks := tk })
  have hfew := R.few
  refine call_len_set ho hex hd (R.fits (s := { s1 with heap := h', toks := tk })) (by rw [sz] <;> omega) ⟨.int L.length, H1, I2.tok _, ⟨_, by rw [sz]⟩, ?_⟩
  have := q1 (L.map (·.2)) R.nd (fun x hx => by
    obtain ⟨p, hp, rfl⟩ := List.mem_map.mp hx
    exact List.mem_map.mpr ⟨p, List.mem_of_mem_take (g.sub p hp), rfl⟩) (fun p hp => g.all p (by rw [List.take_length]; exact hp))
  rw [List.length_map] at this
  exact this
end
end L2


set_option Elab.async false
set_option linter.all false
set_option pp.maxSteps 600
set_option maxRecDepth 100000
set_option maxHeartbeats 4000000
set_option autoImplicit false
namespace Hc
open PySem L2
theorem units64 {k : Nat} {A : Around} (r : Room (k + 1) A) : A.units + 64 < cLine := by have := r.un; omega
theorem all_not {ds : List D} {i : Nat} {d : D} (h : ds[i]? = some d) (f : D → Bool) : (ds.take (i + 1)).all f = ((ds.take i).all f && f d) := by
  rw [take_more h, List.all_append, List.all_cons, List.all_nil, Bool.and_true]
section
variable {P : Program} {w : World} {K : PySem.W.Frag} {mg : Str → Option Value} {base : Heap}
def spHoursL : Sp := fun vs H Q _ => ∃ (h : Addr) (vl v : V) (ls : List Sl) (d : D), vs = [vl, v] ∧ Rp H h vl (slsD ls) ∧ Rp H h v d ∧ ls.length ≤ 1000 ∧ (∀ l ∈ ls, l.1.length ≤ 8) ∧ ∀ H', Same H H' → Q (.bl (areHours (ls.map ltOf) d)) H'
theorem ok__law_are_hours (T : Tx K mg) : FnOk P w K mg base CX0 2 T._law_are_hours.f T._law_are_hours.fd ["_law_letters", "_law_thing"] spHoursL := by
  refine T._law_are_hours.F.ok sc_law_are_hours (fun vs H Q E h => ?_) (fun cdv A outer s H vs Q E hr h => ?_)
  · obtain ⟨_, _, _, _, _, rfl, _⟩ := h
    rfl
  · obtain ⟨h, vl, v, ls, d, rfl, rl, r, l1000, l8, k⟩ := h
    obtain ⟨q, xs, rfl, eq, lx, at_⟩ := sls_at rl
    refine ⟨_, (pss_cons (ps_if (PW.pt (pw_or (pt_not (pt_val (pe_callB call_isi (by rfl) T.n_isinstance (by decide +kernel) (pa_cons (pv 1) (pa_cons (pe_bltn (v := .ty "tuple") (by rfl) T.n_tuple (by decide +kernel) rfl) pa_nil))))) (pw_or1 (pt_cmpR op_ne (pe_callB call_len_seq (by rfl) T.n_len (by decide +kernel) (pa_cons (pv 1) pa_nil)) (pe_callB call_len_seq (by rfl) T.n_len (by decide +kernel) (pa_cons (pv 0) pa_nil)) (nomark _)))))
      (pss_one (ps_ret pe_bl))
      pss_nil)
      (pss_cons (ps_for PassesOwn.never rfl (RZ.pi_zipA (by rfl) T.n_zip (pa_cons (pv 0) (pa_cons (pv 1) pa_nil))) (pg_tup (by rfl) (pgs_cons (pg_name (i := 2) sc_law_are_hours.nd rfl (Or.inl rfl)) (pgs_cons (pg_name (i := 3) sc_law_are_hours.nd rfl (Or.inl rfl)) pgs_nil)))
      (pss_cons (ps_if (PW.pt (pw_or (pt_not (pt_val (pe_callB call_isi (by rfl) T.n_isinstance (by decide +kernel) (pa_cons (pv 3) (pa_cons (pe_bltn (v := .ty "tuple") (by rfl) T.n_tuple (by decide +kernel) rfl) pa_nil))))) (pw_or1 (pt_cmpR op_ne (pe_callB call_len_seq (by rfl) T.n_len (by decide +kernel) (pa_cons (pv 3) pa_nil)) (pe_callB call_len_seq (by rfl) T.n_len (by decide +kernel) (pa_cons (pe_ix ix_tup (pv 2) pe_int (fun _ _ => rfl)) pa_nil)) (nomark _)))))
      (pss_one (ps_ret pe_bl))
      pss_nil)
      (pss_one (ps_if (pt_cmpR op_gt (pe_callB call_len_seq (by rfl) T.n_len (by decide +kernel) (pa_cons (pe_lc (own := [("_law_hour", 4)]) (g := (gName 4))  (tt := (tNot (tTest (tCall (spThing isInt) [] E0 (tCons (tVar 4) tNil))))) rfl sc_law_are_hours.nd (pi_tup (pv 3)) (blkOk_by (own := [("_law_hour", 4)]) (N := ["_law_letters", "_law_thing", "_law_one", "_law_row", "_law_hour"]) (sc := defScope s_law_are_hours) (by decide +kernel)) (fun _ _ _ _ _ => (pg_name (i := 4) sc_law_are_hours.nd rfl (Or.inl rfl))) (fun _ _ _ _ _ => (pts_one (by exact (pt_not (pt_val (pe_call (ok__law_is_integer T) (hr.mono (by decide)) rfl T._law_is_integer.g T._law_is_integer.F.kp T._law_is_integer.b .nil pass0 (pa_cons (pv 4) pa_nil))))))) (fun _ _ _ _ _ => (by exact (pv 4)))) pa_nil)) pe_int (nomark _))
      (pss_one (ps_ret pe_bl))
      pss_nil))))
      (pss_one (ps_ret pe_bl)))), ?_⟩
    refine ⟨_, rfl, _, _, _, _, _, rfl, .ty "tuple", r.ty, kit_ty (kitT d), _, rfl, ?_⟩
    cases r with
    | @tup pa ys ds e z ra =>
      have ly := ra.len
      refine iteF ⟨_, rfl, _, _, rfl, .inr (SqT.of e), _, rfl, _, _, rfl, .inr (SqT.of eq), rfl, _, rfl, ?_⟩
      rw [neq_len]
      by_cases g : ys.length = xs.length
      rotate_left 1
      · rw [decide_eq_false g]
        have := k H (Same.refl _)
        rw [areHours_tup, decide_eq_false (by rw [List.length_map]; omega)] at this
        exact iteT this
      rw [decide_eq_true g]
      have bad : ∀ (i : Nat) (l : Sl) (d : D), ls[i]? = some l → ds[i]? = some d → areInts (l.1.length : Nat) d = false → ∀ H', Same H H' → Q (.bl false) H' := fun i l d e1 e2 g H' s => by
        have := k H' s
        have e0 : (((ls.map ltOf).zip ds).all fun p => areInts (p.1.1.length : Nat) p.2) = false := by
          cases c : (((ls.map ltOf).zip ds).all fun p => areInts (p.1.1.length : Nat) p.2) with
          | false => rfl
          | true =>
            have ez : ((ls.map ltOf).zip ds)[i]? = some (ltOf l, d) := by rw [List.getElem?_zip_eq_some, List.getElem?_map, e1]; exact ⟨rfl, e2⟩
            have g2 : areInts (l.1.length : Nat) d = true := List.all_eq_true.mp c _ (List.mem_of_getElem? ez)
            rw [g2] at g; cases g
        rw [areHours_tup, e0, Bool.and_false] at this
        exact this
      refine iteF ⟨_, rfl, _, rfl, q, pa, xs, ys, rfl, .inr ⟨SqT.of eq, SqT.of e, RZ.for_zipT (xs := xs) (ys := ys) (by omega) (fun i σ' H' => ∃ o2 o3 : Option V, σ' = [some (.ref q), some (.ref pa), o2, o3, none] ∧ Same H H' ∧ (((ls.map ltOf).zip ds).take i).all (fun p => areInts (p.1.1.length : Nat) p.2) = true)
        ⟨_, _, rfl, Same.refl _, rfl⟩ (fun i σ' H' ⟨_, _, _, s, _⟩ => ⟨SqT.of (s _ _ eq), SqT.of (s _ _ e)⟩) ?_ ?_⟩⟩
      · rintro i x y TT σ' H1 hx hy ⟨o2, o3, rfl, s1, hb⟩ hT
        have hi : i < ls.length := by rw [← lx]; exact (List.getElem?_eq_some_iff.mp hx).1
        obtain ⟨l, el⟩ : ∃ l, ls[i]? = some l := ⟨_, List.getElem?_eq_getElem hi⟩
        obtain ⟨x', ex', rx⟩ := at_ i l el
        rw [hx] at ex'
        cases ex'
        obtain ⟨dy, edy, ry0⟩ := ra.get hy
        obtain ⟨ql, al, rfl, eql, eal⟩ := sl_inv rx
        have st : Same H1 (upd H1 TT (.tup [.ref ql, y])) := same_upd hT
        have s2 := s1.trans st
        have hbad := bad i l dy el edy
        have ez : ((ls.map ltOf).zip ds)[i]? = some (ltOf l, dy) := by rw [List.getElem?_zip_eq_some, List.getElem?_map, el]; exact ⟨rfl, edy⟩
        have hl8 := l8 l (List.mem_of_getElem? el)
        refine ⟨TT, _, rfl, SqT.of upd_same, rfl, _, _, rfl, _, _, rfl, rfl, ?_⟩
        generalize upd H1 TT (.tup [.ref ql, y]) = H2 at st s2 ⊢
        have ry := ry0.same s2
        refine ⟨_, rfl, _, _, _, _, _, rfl, .ty "tuple", ry.ty, kit_ty (kitT dy), _, rfl, ?_⟩
        cases ry with
        | @tup pb us ts e2 z2 rb =>
          have lu := rb.len
          refine iteF ⟨_, rfl, _, _, rfl, .inr (SqT.of e2), _, rfl, ql, _, 0, _, rfl, rfl, SqT.of (s2 _ _ eql), atI_nat (j := 0) rfl, al, _, rfl, .inr (SqT.of (s2 _ _ eal)), rfl, _, rfl, ?_⟩
          rw [neq_len, List.length_map]
          have ei : areInts (l.1.length : Nat) (.tup ts) = (decide (ts.length = l.1.length) && ts.all isInt) := by
            rw [areInts_tup]
            congr 1
            rw [decide_eq_decide]; omega
          rw [ei] at hbad
          by_cases g2 : us.length = l.1.length
          rotate_left 1
          · rw [decide_eq_false g2]
            rw [decide_eq_false (by omega)] at hbad
            exact iteT (hbad rfl _ s2)
          rw [decide_eq_true g2]
          rw [decide_eq_true (by omega), Bool.true_and] at hbad
          refine iteF ⟨_, rfl, pb, rfl, ⟨_, SqT.of e2⟩, fun D hD => ?_⟩
          refine lc_tup (K := K) (a := pb) (xs := us) (fun j H' => Same H2 (fun b => if b = D then none else H' b) ∧ ∃ acc : List V, H' D = some (.lst acc) ∧ acc.length ≤ j ∧ (decide (acc.length = 0)) = (ts.take j).all isInt)
            ⟨mask_upd hD (Same.refl _), [], upd_same, Nat.le_refl _, rfl⟩ (fun j H' _ ⟨s, _⟩ => SqT.of (mask hD s _ _ e2)) ?_ ?_
          · rintro j x H' hx ⟨s, acc, hd, la, ea⟩
            obtain ⟨dx, hdx, rx⟩ := rb.get hx
            have sm := mask hD s
            have hj : j < us.length := (List.getElem?_eq_some_iff.mp hx).1
            refine ⟨rfl, _, rfl, h, x, dx, rfl, rx.same sm, _, rfl, ?_⟩
            cases gi : isInt dx with
            | false =>
              refine iteT ⟨_, rfl, acc, hd, line_lt (by omega), mask_upd hD sm, _, upd_same, by rw [List.length_append, List.length_singleton]; omega, ?_⟩
              rw [all_not hdx, gi, Bool.and_false, List.length_append, List.length_singleton]
              exact decide_eq_false (by omega)
            | true =>
              refine iteF ⟨s, acc, hd, by omega, ?_⟩
              rw [all_not hdx, gi, Bool.and_true]
              exact ea
          · rintro H' ⟨s, acc, hd, la, ea⟩
            have sm := mask hD s
            rw [lu, List.take_length] at ea
            refine ⟨D, _, rfl, .inl (SqL.of hd), _, _, rfl, rfl, _, rfl, ?_⟩
            cases gi : ts.all isInt with
            | false =>
              rw [gi] at ea hbad
              have := of_decide_eq_false ea
              rw [decide_eq_true (show (0 : Int) < (acc.length : Nat) by omega)]
              exact iteT (hbad rfl _ (s2.trans sm))
            | true =>
              rw [gi] at ea
              have := of_decide_eq_true ea
              rw [decide_eq_false (show ¬ (0 : Int) < (acc.length : Nat) by omega)]
              refine iteF ⟨_, _, rfl, s2.trans sm, ?_⟩
              rw [take_more ez, List.all_append, hb, Bool.true_and, List.all_cons, List.all_nil, Bool.and_true]
              show areInts (l.1.length : Nat) (.tup ts) = true
              rw [ei, gi, decide_eq_true (by omega)]; rfl
        | _ => exact iteT (hbad rfl _ s2)
      · rintro σ' H1 ⟨_, _, rfl, s1, hb⟩
        rw [show xs.length = ((ls.map ltOf).zip ds).length by rw [List.length_zip, List.length_map]; omega, List.take_length] at hb
        have := k H1 s1
        rw [areHours_tup, decide_eq_true (by rw [List.length_map]; omega), hb] at this
        exact this
    | _ => exact iteT (k H (Same.refl _))
end
end Hc


set_option Elab.async false
set_option linter.all false
set_option pp.maxSteps 600
set_option maxRecDepth 100000
set_option maxHeartbeats 4000000
set_option autoImplicit false
namespace Hc
open PySem L2
theorem at_of {xs : List V} {x : V} {i : Int} {j : Nat} (e : i = (j : Int)) (h : xs[j]? = some x) : atI xs i = some x := by
  subst e; exact atI_nat h
def leastS (l : Sl) (r : List Int) (a : Nat) : Int := if a = 0 then l.2.1 else r.getD (a - 1) 0 + l.2.2
theorem firstS_at {l : Sl} {r : List Int} {a : Nat} (h : a < r.length) : (firstS l r)[a]? = some (leastS l r a) := by
  unfold firstS leastS
  cases a with
  | zero => rfl
  | succ a =>
    rw [if_neg (by omega), List.getElem?_cons_succ, List.getElem?_map, List.getElem?_take_of_lt (by omega), List.getElem?_eq_getElem (by omega), Nat.add_sub_cancel, List.getD_eq_getElem?_getD, List.getElem?_eq_getElem (by omega)]
    rfl
theorem early1_eq (l : Sl) (r : List Int) : early1 l r = (List.range r.length).any fun a => decide (r.getD a 0 < leastS l r a) := by
  unfold early1
  rw [Bool.eq_iff_iff, List.any_eq_true, List.any_eq_true]
  constructor
  · rintro ⟨⟨x, f⟩, hp, hh⟩
    obtain ⟨a, ha, e⟩ := List.mem_iff_getElem.mp hp
    have e2 : (r.zip (firstS l r))[a]? = some (x, f) := by rw [List.getElem?_eq_getElem ha, e]
    rw [List.getElem?_zip_eq_some] at e2
    have har : a < r.length := (List.getElem?_eq_some_iff.mp e2.1).1
    refine ⟨a, List.mem_range.mpr har, ?_⟩
    have e3 := e2.2
    rw [firstS_at har] at e3
    rw [List.getD_eq_getElem?_getD, e2.1, Option.some.inj e3]
    exact hh
  · rintro ⟨a, ha, hh⟩
    have har := List.mem_range.mp ha
    refine ⟨(r.getD a 0, leastS l r a), ?_, hh⟩
    have e2 : (r.zip (firstS l r))[a]? = some (r.getD a 0, leastS l r a) := by
      rw [List.getElem?_zip_eq_some]
      exact ⟨by rw [List.getD_eq_getElem?_getD, List.getElem?_eq_getElem har]; rfl, firstS_at har⟩
    exact List.mem_of_getElem? e2
def prI (e : Nat × Int) : List Int := [(e.1 : Int), e.2]
theorem prI_inj {a b : Nat × Int} (h : prI a = prI b) : a = b := by
  obtain ⟨a1, a2⟩ := a
  obtain ⟨b1, b2⟩ := b
  unfold prI at h
  obtain ⟨h1, h2⟩ := List.cons.inj h
  obtain ⟨h2, _⟩ := List.cons.inj h2
  have h1 : (a1 : Int) = (b1 : Int) := h1
  have h2 : a2 = b2 := h2
  rw [show a1 = b1 by omega, h2]
theorem nodup_prI {l : List (Nat × Int)} : (l.map prI).Nodup ↔ l.Nodup := by
  constructor
  · intro h
    rw [List.Nodup, List.pairwise_map] at h
    exact h.imp fun hne z => hne (by rw [z])
  · intro h
    rw [List.Nodup, List.pairwise_map]
    exact h.imp fun hne z => hne (prI_inj z)
section count
variable {α : Type} [DecidableEq α]
theorem len_drop1 (b : α) : ∀ (A : List α), A.Nodup → A.length ≤ (A.filter fun x => decide (x ≠ b)).length + 1
  | [], _ => Nat.zero_le _
  | a :: A, h => by
    rw [List.nodup_cons] at h
    rw [List.filter_cons]
    by_cases q : a = b
    · rw [if_neg (by simpa using q), List.length_cons]
      have : A.filter (fun x => decide (x ≠ b)) = A := List.filter_eq_self.mpr fun x hx => by
        have : x ≠ b := fun z => h.1 (by rw [q, ← z]; exact hx)
        exact decide_eq_true this
      rw [this]; omega
    · rw [if_pos (decide_eq_true q), List.length_cons, List.length_cons]
      have := len_drop1 b A h.2
      omega
theorem len_sub : ∀ (B A : List α), A.Nodup → (∀ x ∈ A, x ∈ B) → A.length ≤ B.length
  | [], A, _, h => by
    cases A with
    | nil => exact Nat.le_refl _
    | cons a A => exact nomatch (h a List.mem_cons_self)
  | b :: B, A, nd, h => by
    have h1 := len_drop1 b A nd
    have h2 := len_sub B (A.filter fun x => decide (x ≠ b)) (nd.filter _) fun x hx => by
      obtain ⟨h3, h4⟩ := List.mem_filter.mp hx
      rcases List.mem_cons.mp (h x h3) with q | q
      · exact absurd q (of_decide_eq_true h4)
      · exact q
    rw [List.length_cons]; omega
theorem len_dup : ∀ (B A : List α), A.Nodup → (∀ x ∈ A, x ∈ B) → ¬ B.Nodup → A.length < B.length
  | [], _, _, _, nb => absurd List.nodup_nil nb
  | b :: B, A, nd, h, nb => by
    by_cases q : b ∈ B
    · have := len_sub B A nd fun x hx => by
        rcases List.mem_cons.mp (h x hx) with z | z
        · rw [z]; exact q
        · exact z
      rw [List.length_cons]; omega
    · have h1 := len_drop1 b A nd
      have h2 := len_dup B (A.filter fun x => decide (x ≠ b)) (nd.filter _) (fun x hx => by
        obtain ⟨h3, h4⟩ := List.mem_filter.mp hx
        rcases List.mem_cons.mp (h x h3) with q | q
        · exact absurd q (of_decide_eq_true h4)
        · exact q) fun z => nb (List.nodup_cons.mpr ⟨q, z⟩)
      rw [List.length_cons]; omega
theorem set_len {L ks : List α} (nd : L.Nodup) (h1 : ∀ k ∈ L, k ∈ ks) (h2 : ∀ k ∈ ks, k ∈ L) : decide (L.length < ks.length) = !decide ks.Nodup := by
  by_cases q : ks.Nodup
  · have := len_sub L ks q h2
    rw [decide_eq_true q, decide_eq_false (by omega)]; rfl
  · have := len_dup ks L nd h1 q
    rw [decide_eq_false q, decide_eq_true this]; rfl
end count
section
variable {P : Program} {w : World} {K : PySem.W.Frag} {mg : Str → Option Value} {base : Heap}
def spFaultL : Sp := fun vs H Q _ => ∃ (h : Addr) (v vl vh : V) (n : Int) (rds : List D) (rm tm : List Int) (d2 d3 : D), vs = [.bl (plainB rm tm), v, vl, vh] ∧ RdL H h v n rds ∧ Rp H h vl d2 ∧ Rp H h vh d3 ∧
  (∀ ls rows, d2 = slsD ls → d3 = rowsD rows → SOk rds ls → ls.length ≤ 60 → LenOk (ls.map ltOf) rows → (prs ls rows).length < 64) ∧
  (∀ part H', Same H H' → DueS rds rm tm d2 d3 part → Q (.str part) H') ∧
  (∀ ls rows H', Same H H' → d2 = slsD ls → d3 = rowsD rows → SdOk rds rm tm ls rows → Q .non H')
theorem ok__law_fault (T : Tx K mg) : FnOk P w K mg base CX0 4 T._law_fault.f T._law_fault.fd ["_law_plain", "_law_roads_here", "_law_letters", "_law_hours"] spFaultL := by
  refine T._law_fault.F.ok sc_law_fault (fun vs H Q E h => ?_) (fun cdv A outer s H vs Q E hr h => ?_)
  · obtain ⟨_, _, _, _, _, _, _, _, _, _, rfl, _⟩ := h
    rfl
  · obtain ⟨h, v, vl, vh, n, rds, rm, tm, d2, d3, rfl, W, r2, r3, few, kd, ko⟩ := h
    refine ⟨_, (pss_cons (ps_if (pt_not (pt_truth (pv 0) (by intro _; rfl)))
      (pss_one (ps_ret pe_str))
      pss_nil)
      (pss_cons (ps_if (pt_not (pt_val (pe_call (ok__law_are_letters T) (hr.mono (by decide)) rfl T._law_are_letters.g T._law_are_letters.F.kp T._law_are_letters.b .nil pass0 (pa_cons (pv 1) (pa_cons (pv 2) pa_nil)))))
      (pss_one (ps_ret pe_str))
      pss_nil)
      (pss_cons (ps_if (pt_not (pt_val (pe_call (ok__law_are_hours T) (hr.mono (by decide)) rfl T._law_are_hours.g T._law_are_hours.F.kp T._law_are_hours.b .nil pass0 (pa_cons (pv 2) (pa_cons (pv 3) pa_nil)))))
      (pss_one (ps_ret pe_str))
      pss_nil)
      (pss_cons (ps_set (i := 4) sc_law_fault.nd rfl (Or.inl rfl) (pe_lst pa_nil))
      (pss_cons (ps_set (i := 5) sc_law_fault.nd rfl (Or.inl rfl) pe_bl)
      (pss_cons (ps_for PassesOwn.never rfl (RZ.pi_zipA (by rfl) T.n_zip (pa_cons (pv 2) (pa_cons (pv 3) pa_nil))) (pg_tup (by rfl) (pgs_cons (by exact (pg_tup (by rfl) (pgs_cons (pg_name (i := 6) sc_law_fault.nd rfl (Or.inr rfl)) (pgs_cons (pg_name (i := 7) sc_law_fault.nd rfl (Or.inl rfl)) (pgs_cons (pg_name (i := 8) sc_law_fault.nd rfl (Or.inl rfl)) pgs_nil))))) (pgs_cons (pg_name (i := 9) sc_law_fault.nd rfl (Or.inr rfl)) pgs_nil)))
      (pss_one (ps_for PassesOwn.never rfl (pi_range1 (by rfl) T.n_range (pa_cons (pe_callB call_len_seq (by rfl) T.n_len (by decide +kernel) (pa_cons (pv 6) pa_nil)) pa_nil)) (pg_name (i := 10) sc_law_fault.nd rfl (Or.inr rfl))
      (C8.pss_cut (ps_set (i := 11) sc_law_fault.nd rfl (Or.inl rfl) (pe_ifExp (pt_cmpR op_eq (pv 10) pe_int (nomark _)) (pv 7) (pe_op op_add (pe_ix ix_tup (pv 9) (pe_op op_sub (pv 10) pe_int) (fun _ _ => rfl)) (pv 8))))
      (C8.pss_cut (ps_set (i := 5) sc_law_fault.nd rfl (Or.inl rfl) (pe_or (pv 5) (pe_one (pe_cmpR op_lt (pe_ix ix_tup (pv 9) (pv 10) (fun _ _ => rfl)) (pv 11) (nomark _)))))
      (pss_one (ps_expr (pe_bm PySem.F.plainAttrs_list PySem.F.slot_list_extend PySem.F.type_list_extend mt_extend (pv 4) (pa_cons (pe_lc (own := [("_law_k", 12)]) (g := (gName 12)) (tt := tYes) (te := (tTup (tCons (tOp (rIxT K) (tVar 6) (tVar 10)) (tCons (tOp (rI0 fun i j => .int (i + j)) (tOp (rIxT K) (tVar 9) (tVar 10)) (tVar 12)) tNil)))) rfl sc_law_fault.nd (pi_range1 (by rfl) T.n_range (pa_cons (pv 8) pa_nil)) (blkOk_by (own := [("_law_k", 12)]) (N := ["_law_plain", "_law_roads_here", "_law_letters", "_law_hours", "_law_busy", "_law_early", "_law_way_here", "_law_come", "_law_size", "_law_row", "_law_at", "_law_least", "_law_k"]) (sc := defScope s_law_fault) (by decide +kernel)) (fun _ _ _ _ _ => (pg_name (i := 12) sc_law_fault.nd rfl (Or.inl rfl))) (fun _ _ _ _ _ => pts_nil) (fun _ _ _ _ _ => (by exact (pe_tup (pa_cons (pe_ix ix_tup (pv 6) (pv 10) (fun _ _ => rfl)) (pa_cons (pe_op op_add (pe_ix ix_tup (pv 9) (pv 10) (fun _ _ => rfl)) (pv 12)) pa_nil)))))) pa_nil)))))))))
      (pss_cons (ps_if (pt_truth (pv 5) (by intro _; rfl))
      (pss_one (ps_ret pe_str))
      pss_nil)
      (pss_one (ps_ret (pe_ifExp (pt_cmpR op_lt (pe_lenSetT rfl (by exact (units64 hr)) (by rfl) T.n_len (by rfl) T.n_set (pv 4)) (pe_callB call_len_seq (by rfl) T.n_len (by decide +kernel) (pa_cons (pv 4) pa_nil)) (nomark _)) pe_str pe_non)))))))))), ?_⟩
    refine ⟨_, rfl, plainB rm tm, rfl, ?_⟩
    cases e0 : plainB rm tm with
    | false => exact iteT (kd _ _ (Same.refl _) (.web e0))
    | true =>
    refine iteF ⟨_, rfl, _, rfl, h, v, vl, n, rds, d2, rfl, W, r2, fun H1 s1 => ⟨_, rfl, ?_⟩⟩
    cases e1 : areSls rds d2 with
    | false => exact iteT (kd _ _ s1 (.letters e0 e1))
    | true =>
    obtain ⟨ls, rfl, o, l60⟩ := sls_inv e1
    refine iteF ⟨_, rfl, _, rfl, h, vl, vh, ls, d3, rfl, r2.same s1, r3.same s1, by omega, fun l hl => (o.h l hl).2.1, fun H2 s2 => ⟨_, rfl, ?_⟩⟩
    have s12 := s1.trans s2
    cases e2 : areHours (ls.map ltOf) d3 with
    | false => exact iteT (kd _ _ s12 (.hours e0 o l60 e2))
    | true =>
    obtain ⟨rows, rfl, ln⟩ := hours_inv e2
    obtain ⟨lr, lk⟩ := ltOf_len ln
    have few := few ls rows rfl rfl o l60 ln
    obtain ⟨q, xs, rfl, eq, lx, at_⟩ := sls_at r2
    obtain ⟨b, ys, rfl, er, ly, rat⟩ := rows_at r3
    refine iteF ⟨by show 0 ≤ sizeLine; decide, fun BU hBU => ?_⟩
    have nBU : H BU = none := by
      cases z : H BU with
      | none => rfl
      | some u => rw [s12 _ _ z] at hBU; cases hBU
    refine ⟨_, rfl, _, rfl, q, b, xs, ys, rfl, .inr ⟨SqT.of (same_upd hBU _ _ (s12 _ _ eq)), SqT.of (same_upd hBU _ _ (s12 _ _ er)), RZ.for_zipT (xs := xs) (ys := ys) (by omega) (fun i σ' H' => ∃ (o6 o7 o8 o9 o10 o11 : Option V) (ks : List (Addr × List Int)), σ' = [some (.bl true), some v, some (.ref q), some (.ref b), some (.ref BU), some (.bl (((ls.zip rows).take i).any fun p => early1 p.1 p.2)), o6, o7, o8, o9, o10, o11, none] ∧ Same H (fun b => if b = BU then none else H' b) ∧ H' BU = some (.lst (ks.map fun p => V.ref p.1)) ∧ (∀ p ∈ ks, H' p.1 = some (.tup (p.2.map V.int))) ∧ ks.map (·.2) = (((ls.zip rows).take i).flatMap fun p => prsOf p.1 p.2).map prI)
      ⟨_, _, _, _, _, _, [], rfl, mask_upd nBU s12, upd_same, (fun _ z => nomatch z), rfl⟩ (fun i σ' H' ⟨_, _, _, _, _, _, _, _, s, _⟩ => ⟨SqT.of (mask nBU s _ _ eq), SqT.of (mask nBU s _ _ er)⟩) ?_ ?_⟩⟩
    · clear hBU s1 s2 s12
      rintro i x y TT σ' H3 hx hy ⟨o6, o7, o8, o9, o10, o11, ks, rfl, s3, hd3, hk3, ek3⟩ hT
      have hi : i < ls.length := by rw [← lx]; exact (List.getElem?_eq_some_iff.mp hx).1
      obtain ⟨l, el⟩ : ∃ l, ls[i]? = some l := ⟨_, List.getElem?_eq_getElem hi⟩
      obtain ⟨r, er'⟩ : ∃ r, rows[i]? = some r := ⟨_, List.getElem?_eq_getElem (by omega)⟩
      obtain ⟨x', ex', rx⟩ := at_ i l el
      rw [hx] at ex'
      cases ex'
      obtain ⟨b2, eb2, ey⟩ := rat i r er'
      rw [hy] at eb2
      cases eb2
      obtain ⟨ql, al, rfl, eql, eal⟩ := sl_inv rx
      have st : Same H3 (upd H3 TT (.tup [.ref ql, .ref b2])) := same_upd hT
      have ez : (ls.zip rows)[i]? = some (l, r) := by rw [List.getElem?_zip_eq_some]; exact ⟨el, er'⟩
      have hlr := lk i l r el er'
      have hsz := (o.h l (List.mem_of_getElem? el)).2.2.2.2.2.2
      have hl8 := (o.h l (List.mem_of_getElem? el)).2.1
      have m3 := (mask nBU s3).trans st
      have e1T := upd_same (H := H3) (a := TT) (o := .tup [.ref ql, .ref b2])
      have hd4 := st _ _ hd3
      have hk4 : ∀ p ∈ ks, (upd H3 TT (.tup [.ref ql, .ref b2])) p.1 = some (.tup (p.2.map V.int)) := fun p hp => st _ _ (hk3 p hp)
      refine ⟨TT, _, rfl, SqT.of e1T, rfl, _, _, rfl, ⟨ql, _, rfl, SqT.of (m3 _ _ eql), rfl, _, _, rfl, _, _, rfl, _, _, rfl, rfl, _, _, rfl, rfl, ?_⟩⟩
      generalize upd H3 TT (.tup [.ref ql, .ref b2]) = H4 at st hd4 hk4 m3 e1T ⊢
      clear hd3 hk3 s3 hT st
      obtain ⟨E0, eE⟩ : ∃ E0, E0 = ((ls.zip rows).take i).flatMap fun p => prsOf p.1 p.2 := ⟨_, rfl⟩
      obtain ⟨B0, eB⟩ : ∃ B0, B0 = ((ls.zip rows).take i).any fun p => early1 p.1 p.2 := ⟨_, rfl⟩
      rw [← eE] at ek3
      rw [← eB]
      have fewE : (E0 ++ prsOf l r).length < 64 := by
        have e : prs ls rows = (E0 ++ prsOf l r) ++ ((ls.zip rows).drop (i + 1)).flatMap fun p => prsOf p.1 p.2 := by
          unfold prs
          conv => lhs; rw [← List.take_append_drop (i + 1) (ls.zip rows), take_more ez]
          rw [List.flatMap_append, List.flatMap_append, List.flatMap_cons, List.flatMap_nil, List.append_nil, ← eE]
        rw [e, List.length_append] at few
        omega
      refine ⟨_, rfl, al, _, rfl, .inr (SqT.of (m3 _ _ eal)), ((l.1.map fun j => V.int (j : Nat)).length : Nat), rfl, by omega, by rw [List.length_map]; omega, ?_⟩
      rw [List.length_map, Int.toNat_natCast]
      refine for_range (lo := 0) (n := l.1.length) (fun j σ' H' => ∃ (o10 o11 : Option V) (ks : List (Addr × List Int)), σ' = [some (.bl true), some v, some (.ref q), some (.ref b), some (.ref BU), some (.bl (B0 || (List.range j).any fun a => decide (r.getD a 0 < leastS l r a))), some (.ref al), some (.int l.2.1), some (.int l.2.2), some (.ref b2), o10, o11, none] ∧ Same H (fun b => if b = BU then none else H' b) ∧ H' BU = some (.lst (ks.map fun p => V.ref p.1)) ∧ (∀ p ∈ ks, H' p.1 = some (.tup (p.2.map V.int))) ∧ ks.map (·.2) = (E0 ++ ((l.1.zip r).take j).flatMap fun p => (List.range l.2.2.toNat).map fun (k : Nat) => (p.1, p.2 + (k : Int))).map prI)
        ⟨_, _, ks, by rw [show (List.range 0).any (fun a => decide (r.getD a 0 < leastS l r a)) = false from rfl, Bool.or_false]; rfl, fun b u z => by
            have nb := ne_of_none z nBU
            show (if b = BU then none else H4 b) = _
            rw [if_neg nb]
            exact m3 _ _ z, hd4, hk4, by rw [List.take_zero, List.flatMap_nil, List.append_nil]; exact ek3⟩ ?_ ?_
      · clear hd4 hk4 m3 e1T ek3 ks
        rintro j σ' H5 hj ⟨o10, o11, ks, rfl, s5, hd5, hk5, ek5⟩
        have m5 := mask nBU s5
        have hj2 : j < r.length := by omega
        have ez2 : (l.1.zip r)[j]? = some (l.1[j], r[j]) := by rw [List.getElem?_zip_eq_some]; exact ⟨List.getElem?_eq_getElem hj, List.getElem?_eq_getElem hj2⟩
        have lks : ks.length + l.2.2.toNat < 64 := by
          have h1 : ks.length = (E0 ++ ((l.1.zip r).take j).flatMap fun p => (List.range l.2.2.toNat).map fun (k : Nat) => (p.1, p.2 + (k : Int))).length := by
            have := congrArg List.length ek5
            rw [List.length_map, List.length_map] at this
            exact this
          have e : E0 ++ prsOf l r = (E0 ++ ((l.1.zip r).take j).flatMap fun p => (List.range l.2.2.toNat).map fun (k : Nat) => (p.1, p.2 + (k : Int))) ++ (((List.range l.2.2.toNat).map fun (k : Nat) => (l.1[j], r[j] + (k : Int))) ++ ((l.1.zip r).drop (j + 1)).flatMap fun p => (List.range l.2.2.toNat).map fun (k : Nat) => (p.1, p.2 + (k : Int))) := by
            rw [List.append_assoc]
            congr 1
            unfold prsOf
            conv => lhs; rw [← List.take_append_drop (j + 1) (l.1.zip r), take_more ez2]
            rw [List.flatMap_append, List.flatMap_append, List.flatMap_cons, List.flatMap_nil, List.append_nil, List.append_assoc]
          rw [e, List.length_append, ← h1, List.length_append, List.length_map, List.length_range] at fewE
          omega
        refine ⟨fun σ'' H'' => H'' = H5 ∧ σ'' = [some (.bl true), some v, some (.ref q), some (.ref b), some (.ref BU), some (.bl (B0 || (List.range j).any fun a => decide (r.getD a 0 < leastS l r a))), some (.ref al), some (.int l.2.1), some (.int l.2.2), some (.ref b2), some (.int (0 + (j : Int))), some (.int (leastS l r j)), none], ?_, ?_⟩
        · refine ⟨_, rfl, rfl, _, rfl, ?_⟩
          rw [int_eqd]
          by_cases g : j = 0
          · rw [decide_eq_true (show (0 : Int) + (j : Int) = 0 by omega)]
            refine iteT ⟨_, rfl, rfl, ?_⟩
            unfold leastS
            rw [if_pos g]; rfl
          · rw [decide_eq_false (show ¬ (0 : Int) + (j : Int) = 0 by omega)]
            refine iteF ⟨_, rfl, _, rfl, _, _, rfl, rfl, b2, _, _, _, rfl, rfl, SqT.of (m5 _ _ ey), at_of (j := j - 1) (by omega) (int_at r (by omega)), _, rfl, _, _, rfl, rfl, rfl, ?_⟩
            unfold leastS
            rw [if_neg g]; rfl
        · rintro σ'' H5 ⟨rfl, rfl⟩
          refine ⟨fun σ'' H'' => H'' = H5 ∧ σ'' = [some (.bl true), some v, some (.ref q), some (.ref b), some (.ref BU), some (.bl (B0 || (List.range (j + 1)).any fun a => decide (r.getD a 0 < leastS l r a))), some (.ref al), some (.int l.2.1), some (.int l.2.2), some (.ref b2), some (.int (0 + (j : Int))), some (.int (leastS l r j)), none], ?_, ?_⟩
          · have ea : ∀ c, (B0 || (List.range j).any fun a => decide (r.getD a 0 < leastS l r a)) = c → (B0 || (List.range (j + 1)).any fun a => decide (r.getD a 0 < leastS l r a)) = (c || decide (r[j] < leastS l r j)) := fun c hc => by
              rw [List.range_succ, List.any_append, List.any_cons, List.any_nil, Bool.or_false, ← Bool.or_assoc, hc, List.getD_eq_getElem?_getD, List.getElem?_eq_getElem hj2]; rfl
            refine ⟨_, rfl, _, rfl, ?_⟩
            cases g : (B0 || (List.range j).any fun a => decide (r.getD a 0 < leastS l r a)) with
            | true =>
              rw [ea true g, Bool.true_or]
              exact iteT ⟨rfl, rfl⟩
            | false =>
              rw [ea false g, Bool.false_or]
              exact iteF ⟨_, rfl, _, rfl, b2, _, _, _, rfl, rfl, SqT.of (m5 _ _ ey), at_of (j := j) (by omega) (by rw [List.getElem?_map, List.getElem?_eq_getElem hj2]; rfl), _, rfl, _, _, rfl, rfl, rfl, rfl⟩
          · rintro σ'' H5 ⟨rfl, rfl⟩
            refine ⟨_, rfl, .inl ⟨rfl, _, SqL.of hd5⟩, _, rfl, l.2.2, rfl, by omega, by omega, fun D hD => ?_⟩
            have nDB : BU ≠ D := fun z => by subst z; rw [hd5] at hD; cases hD
            refine lc_range (lo := 0) (n := l.2.2.toNat) (fun m H' => Same H5 (fun b => if b = D then none else H' b) ∧ ∃ zs : List (Addr × List Int), H' D = some (.lst (zs.map fun p => V.ref p.1)) ∧ (∀ p ∈ zs, H' p.1 = some (.tup (p.2.map V.int))) ∧ zs.map (·.2) = (List.range m).map fun (k : Nat) => prI (l.1[j], r[j] + (k : Int)))
              ⟨mask_upd hD (Same.refl _), [], upd_same, (fun _ z => nomatch z), rfl⟩ ?_ ?_
            · rintro m H6 hm ⟨s6, zs, hd6, hk6, ek6⟩
              have m6 := mask hD s6
              have m56 := m5.trans m6
              have lz : zs.length = m := by
                have := congrArg List.length ek6
                rw [List.length_map, List.length_map, List.length_range] at this
                exact this
              refine ⟨rfl, tyes ⟨_, rfl, _, rfl, al, _, _, _, rfl, rfl, SqT.of (m56 _ _ eal), at_of (j := j) (by omega) (by rw [List.getElem?_map, List.getElem?_eq_getElem hj]; rfl), _, rfl, _, rfl, b2, _, _, _, rfl, rfl, SqT.of (m56 _ _ ey), at_of (j := j) (by omega) (by rw [List.getElem?_map, List.getElem?_eq_getElem hj2]; rfl), _, rfl, _, _, rfl, rfl, by show 2 ≤ sizeLine; decide, fun t ht => ?_⟩⟩
              have st : Same H6 (upd H6 t (.tup [.int (l.1[j] : Nat), .int (r[j] + (0 + (m : Int)))])) := same_upd ht
              have et : (upd H6 t (.tup [.int (l.1[j] : Nat), .int (r[j] + (0 + (m : Int)))])) t = some (.tup ((prI (l.1[j], r[j] + (m : Int))).map V.int)) := by
                rw [upd_same, Int.zero_add]; rfl
              generalize upd H6 t (.tup [.int (l.1[j] : Nat), .int (r[j] + (0 + (m : Int)))]) = H7 at st et ⊢
              have hd7 := st _ _ hd6
              have ntD : t ≠ D := fun z => by subst z; rw [hd6] at ht; cases ht
              refine ⟨_, hd7, by rw [List.length_map]; exact line_lt (by omega), mask_upd hD (m6.trans st), zs ++ [(t, prI (l.1[j], r[j] + (m : Int)))], by rw [upd_same, List.map_append]; rfl, fun p hp => ?_, ?_⟩
              · rcases List.mem_append.mp hp with hp | hp
                · have hp6 := hk6 p hp
                  rw [upd_ne (fun z => by rw [z, hd6] at hp6; cases hp6)]
                  exact st _ _ hp6
                · rw [List.mem_singleton] at hp
                  subst hp
                  rw [upd_ne ntD]
                  exact et
              · rw [List.map_append, ek6, List.range_succ, List.map_append]; rfl
            · rintro H6 ⟨s6, zs, hd6, hk6, ek6⟩
              have m6 := mask hD s6
              have hB6 := m6 _ _ hd5
              have lz : zs.length = l.2.2.toNat := by
                have := congrArg List.length ek6
                rw [List.length_map, List.length_map, List.length_range] at this
                exact this
              refine ⟨BU, D, _, _, rfl, rfl, hB6, hd6, by rw [List.length_map, List.length_map]; exact line_le (by omega), _, _, ks ++ zs, rfl, mask_upd nBU (m5.trans m6), by rw [upd_same, List.map_append], fun p hp => ?_, ?_⟩
              · rcases List.mem_append.mp hp with hp | hp
                · have h5 := hk5 p hp
                  rw [upd_ne (fun z => by rw [z, hd5] at h5; cases h5)]
                  exact m6 _ _ h5
                · have h6 := hk6 p hp
                  rw [upd_ne (fun z => by rw [z, hB6] at h6; cases h6)]
                  exact h6
              · rw [List.map_append, ek5, ek6, take_more ez2, List.flatMap_append, List.flatMap_cons, List.flatMap_nil, List.append_nil, ← List.append_assoc, List.map_append (l₁ := E0 ++ _), List.map_map]
                rfl
      · rintro σ' H5 ⟨o10, o11, ks, rfl, s5, hd5, hk5, ek5⟩
        rw [show l.1.length = (l.1.zip r).length by rw [List.length_zip]; omega, List.take_length] at ek5
        refine ⟨some (.ref al), some (.int l.2.1), some (.int l.2.2), some (.ref b2), o10, o11, ks, ?_, s5, hd5, hk5, ?_⟩
        · rw [any_take _ ez, ← eB, early1_eq, hlr]
        · rw [take_more ez, List.flatMap_append, List.flatMap_cons, List.flatMap_nil, List.append_nil, ← eE]
          exact ek5
    · rintro σ' H3 ⟨o6, o7, o8, o9, o10, o11, ks, rfl, s3, hd3, hk3, ek3⟩
      rw [show xs.length = (ls.zip rows).length by rw [List.length_zip]; omega, List.take_length] at ek3 ⊢
      have m3 := mask nBU s3
      have eE : ((ls.zip rows).any fun p => early1 p.1 p.2) = earlyS ls rows := rfl
      rw [eE]
      refine ⟨_, rfl, earlyS ls rows, rfl, ?_⟩
      cases e3 : earlyS ls rows with
      | true => exact iteT (kd _ _ m3 (.early e0 o l60 ln e3))
      | false =>
      have ek3 : ks.map (·.2) = (prs ls rows).map prI := ek3
      have lks : ks.length = (prs ls rows).length := by
        have := congrArg List.length ek3
        rw [List.length_map, List.length_map] at this
        exact this
      refine iteF ⟨_, rfl, BU, ks, rfl, SqL.of hd3, fun p hp => SqT.of (hk3 p hp), by omega, fun L nd h1 h2 => ⟨_, rfl, BU, _, rfl, .inl (SqL.of hd3), _, _, rfl, rfl, _, rfl, ?_⟩⟩
      have e4 : decide ((L.length : Int) < (((ks.map fun p => V.ref p.1).length : Nat) : Int)) = fullS ls rows := by
        have := set_len nd h1 fun k hk => by
          obtain ⟨p, hp, rfl⟩ := List.mem_map.mp hk
          exact h2 p hp
        have e5 : decide (ks.map (·.2)).Nodup = decide (prs ls rows).Nodup := by
          rw [decide_eq_decide, ek3, nodup_prI]
        rw [e5, List.length_map] at this
        unfold fullS
        rw [← this, decide_eq_decide, List.length_map]
        omega
      rw [e4]
      cases e6 : fullS ls rows with
      | true => exact iteT (kd _ _ m3 (.full e0 o l60 ln e3 e6))
      | false => exact iteF (ko ls rows _ m3 rfl rfl ⟨e0, o, l60, ln, e3, e6⟩)
end
end Hc


set_option Elab.async false
set_option linter.all false
set_option pp.maxSteps 600
set_option maxRecDepth 100000
set_option maxHeartbeats 4000000
set_option autoImplicit false
namespace Hc
open PySem L2
/-! ### a day led by ranks and holds: the arithmetic of a tick -/
theorem tick_begin {tm rm : List Int} {ls : List Lt} {rows : List (List Int)} {t : Int} {od : List Nat} (R : RowsOk tm ls rows) (M : MaxAt rows (t - 1)) (N : NotFull rm ls rows) (G : Goes ls rows (tot rows) t) (h1 : ∀ k ∈ od, k < ls.length)
    (h2 : ∀ (k : Nat) (l : Lt) (r : List Int), ls[k]? = some l → rows[k]? = some r → k ∉ od → r.length = l.1.length) : Tick tm rm ls rows rows 15 t rm od :=
  ⟨R, M.mono (by omega), N, rfl, fun road hr => by rw [count_zero M (by omega)]; show _ = _ - (0 : Int); omega, h1, G, .inl ⟨rfl, fun _ k l r e1 e2 nk => .inl (h2 k l r e1 e2 nk)⟩⟩
theorem goes_end2 {tm : List Int} {ls : List Lt} {rows : List (List Int)} {t : Int} (G : Goes ls rows (tot rows) t) (ht : 400 ≤ t) (R : RowsOk tm ls rows) (h : wTot ls ≤ 300) (h8 : ∀ l ∈ ls, l.1.length ≤ 8) {k : Nat} {l : Lt} {r : List Int} (e1 : ls[k]? = some l) (e2 : rows[k]? = some r) : r.length = l.1.length := by
  have := tot_le R.len fun k l r e1 e2 => (R.one k l r e1 e2).1
  have h1 := (R.one k l r e1 e2).1
  have h2 := h8 l (List.mem_of_getElem? e1)
  by_cases q : r.length < l.1.length
  · have := (G k l r e1 e2).1 q
    omega
  · omega
/-- when the roads are free again -/
structure Tk (m : Nat) (ls : List Lt) (rows : List (List Int)) (t : Int) (tss : List (List Int)) : Prop where
  len : tss.length = m
  le : ∀ (road : Nat) (ns : List Int), tss[road]? = some ns → ∀ x ∈ ns, x ≤ t + 1
  ct : ∀ (road : Nat) (ns : List Int), tss[road]? = some ns → (ns.filter fun x => decide (t < x)).length = (es ls rows).count (road, t)
theorem Tk.next {m : Nat} {ls : List Lt} {rows : List (List Int)} {t : Int} {tss : List (List Int)} (T : Tk m ls rows t tss) (M : MaxAt rows t) : Tk m ls rows (t + 1) tss := by
  refine ⟨T.len, fun road ns e x hx => by have := T.le road ns e x hx; omega, fun road ns e => ?_⟩
  rw [count_zero M (by omega), List.length_eq_zero_iff, List.filter_eq_nil_iff]
  intro x hx
  have := T.le road ns e x hx
  simp; omega
theorem Tk.pass {m : Nat} {ls : List Lt} {rows : List (List Int)} {t : Int} {tss : List (List Int)} (T : Tk m ls rows t tss) {k : Nat} {l : Lt} {r : List Int} (e1 : ls[k]? = some l) (e2 : rows[k]? = some r) (h1 : r.length < l.1.length)
    {ns : List Int} (en : tss[l.1.getD r.length 0]? = some ns) : Tk m ls (rows.set k (r ++ [t])) t (tss.set (l.1.getD r.length 0) ((ns.filter fun x => decide (t < x)) ++ [t + 1])) := by
  have hl := (List.getElem?_eq_some_iff.mp en).1
  refine ⟨by rw [List.length_set]; exact T.len, fun road ns' e x hx => ?_, fun road ns' e => ?_⟩
  · by_cases c : l.1.getD r.length 0 = road
    · rw [c, List.getElem?_set_self (by rw [← c]; exact hl)] at e
      cases e
      rcases List.mem_append.mp hx with hx | hx
      · exact T.le _ ns en x (List.mem_filter.mp hx).1
      · rw [List.mem_singleton] at hx; omega
    · rw [List.getElem?_set_ne c] at e
      exact T.le road ns' e x hx
  · rw [count_set e1 e2 h1]
    by_cases c : l.1.getD r.length 0 = road
    · rw [c, List.getElem?_set_self (by rw [← c]; exact hl)] at e
      cases e
      rw [c, if_pos rfl, List.filter_append, List.length_append, List.filter_filter]
      have := T.ct road ns (by rw [← c]; exact en)
      have e3 : [t + 1].filter (fun x => decide (t < x)) = [t + 1] := by rw [List.filter_cons, if_pos (decide_eq_true (by omega))]; rfl
      rw [e3]
      simp only [Bool.and_self]
      rw [this]; rfl
    · rw [List.getElem?_set_ne c] at e
      rw [if_neg (fun z => c (congrArg Prod.fst z))]
      exact T.ct road ns' e
/-- from when on each letter may go on -/
structure Rdy (tm : List Int) (ls : List Lt) (rows : List (List Int)) (rd : List Int) : Prop where
  len : rd.length = ls.length
  at_ : ∀ (k : Nat) (l : Lt) (r : List Int), ls[k]? = some l → rows[k]? = some r → rd[k]? = some (nextAt tm l r)
theorem nextAt_snoc (tm : List Int) (l : Lt) (r : List Int) (t : Int) : nextAt tm l (r ++ [t]) = t + tm.getD (l.1.getD r.length 0) 0 := by
  unfold nextAt
  rw [List.length_append, List.length_singleton, if_neg (by omega), Nat.add_sub_cancel]
  rw [List.getD_eq_getElem?_getD, List.getElem?_append_right (Nat.le_refl _), Nat.sub_self]; rfl
theorem Rdy.pass {tm : List Int} {ls : List Lt} {rows : List (List Int)} {rd : List Int} (D : Rdy tm ls rows rd) {k : Nat} {l : Lt} {r : List Int} (t : Int) (e1 : ls[k]? = some l) (e2 : rows[k]? = some r) :
    Rdy tm ls (rows.set k (r ++ [t])) (rd.set k (t + tm.getD (l.1.getD r.length 0) 0)) := by
  have hk := (List.getElem?_eq_some_iff.mp e1).1
  refine ⟨by rw [List.length_set]; exact D.len, fun k' l' r' f1 f2 => ?_⟩
  by_cases q : k = k'
  · subst q
    rw [e1] at f1
    cases f1
    rw [List.getElem?_set_self (List.getElem?_eq_some_iff.mp e2).1] at f2
    cases f2
    rw [List.getElem?_set_self (by rw [D.len]; exact hk), nextAt_snoc]
  · rw [List.getElem?_set_ne q] at f2 ⊢
    exact D.at_ k' l' r' f1 f2
/-! ### the lists that the law keeps -/
structure LS (H H' : Hp) (h c RW RD TK : Addr) (bs : List Addr) (rows : List (List Int)) (rd : List Int) (ts : List Addr) (tss : List (List Int)) : Prop where
  base : HandAt H h c
  hand : HandAt H' h c
  but : But h H H'
  rw : H' RW = some (.lst (bs.map V.ref))
  row : ∀ (k : Nat) (b : Addr) (r : List Int), bs[k]? = some b → rows[k]? = some r → H' b = some (.lst (r.map V.int))
  lr : rows.length = bs.length
  rd_ : H' RD = some (.lst (rd.map V.int))
  tk : H' TK = some (.lst (ts.map V.ref))
  tks : ∀ (j : Nat) (b : Addr) (t : List Int), ts[j]? = some b → tss[j]? = some t → H' b = some (.lst (t.map V.int))
  lt : tss.length = ts.length
  nd : bs.Nodup
  f : H RW = none ∧ H RD = none ∧ H TK = none
  d : RW ≠ RD ∧ RW ≠ TK ∧ RD ≠ TK
  fb : ∀ b ∈ bs, H b = none ∧ b ≠ RW ∧ b ≠ RD ∧ b ≠ TK
  ft : ∀ b ∈ ts, b ∉ bs ∧ b ≠ RW ∧ b ≠ RD ∧ b ≠ TK ∧ b ≠ h
section
variable {H H' : Hp} {h c RW RD TK : Addr} {bs : List Addr} {rows : List (List Int)} {rd : List Int} {ts : List Addr} {tss : List (List Int)}
theorem LS.draw (x : LS H H' h c RW RD TK bs rows rd ts tss) {H'' : Hp} (hA : HandAt H'' h c) (b : But h H' H'') : LS H H'' h c RW RD TK bs rows rd ts tss := by
  have n1 := (x.base.ne x.f.1).1
  have n2 := (x.base.ne x.f.2.1).1
  have n3 := (x.base.ne x.f.2.2).1
  exact ⟨x.base, hA, x.but.trans b, b _ _ x.rw n1, fun k a r e1 e2 => b _ _ (x.row k a r e1 e2) (x.base.ne (x.fb a (List.mem_of_getElem? e1)).1).1, x.lr, b _ _ x.rd_ n2, b _ _ x.tk n3,
    fun j a t e1 e2 => b _ _ (x.tks j a t e1 e2) (x.ft a (List.mem_of_getElem? e1)).2.2.2.2, x.lt, x.nd, x.f, x.d, x.fb, x.ft⟩
theorem LS.same (x : LS H H' h c RW RD TK bs rows rd ts tss) {H'' : Hp} (s : Same H' H'') : LS H H'' h c RW RD TK bs rows rd ts tss := x.draw (x.hand.mono s) (But.of s)
theorem nth_inj {l : List Addr} (nd : l.Nodup) {i j : Nat} {b : Addr} (e1 : l[i]? = some b) (e2 : l[j]? = some b) : i = j := by
  obtain ⟨h1, e1⟩ := List.getElem?_eq_some_iff.mp e1
  obtain ⟨h2, e2⟩ := List.getElem?_eq_some_iff.mp e2
  exact (List.getElem_inj nd).mp (e1.trans e2.symm)
theorem LS.app (x : LS H H' h c RW RD TK bs rows rd ts tss) {k : Nat} {b : Addr} {r : List Int} (eb : bs[k]? = some b) (er : rows[k]? = some r) (r' : List Int) : LS H (upd H' b (.lst (r'.map V.int))) h c RW RD TK bs (rows.set k r') rd ts tss := by
  obtain ⟨g1, g2, g3, g4⟩ := x.fb b (List.mem_of_getElem? eb)
  obtain ⟨m1, m2⟩ := x.base.ne g1
  refine ⟨x.base, x.hand.upd m1 m2, x.but.updN g1, by rw [upd_ne g2.symm]; exact x.rw, fun k' b' r'' e1 e2 => ?_, by rw [List.length_set]; exact x.lr, by rw [upd_ne g3.symm]; exact x.rd_, by rw [upd_ne g4.symm]; exact x.tk, fun j a t e1 e2 => ?_, x.lt, x.nd, x.f, x.d, x.fb, x.ft⟩
  · by_cases q : k = k'
    · subst q
      rw [eb] at e1
      cases e1
      rw [List.getElem?_set_self (List.getElem?_eq_some_iff.mp er).1] at e2
      cases e2
      exact upd_same
    · rw [List.getElem?_set_ne q] at e2
      rw [upd_ne (fun z => by subst z; exact q (nth_inj x.nd eb e1))]
      exact x.row k' b' r'' e1 e2
  · have := (x.ft a (List.mem_of_getElem? e1)).1
    rw [upd_ne (fun z => by subst z; exact this (List.mem_of_getElem? eb))]
    exact x.tks j a t e1 e2
theorem LS.rdset (x : LS H H' h c RW RD TK bs rows rd ts tss) (rd' : List Int) : LS H (upd H' RD (.lst (rd'.map V.int))) h c RW RD TK bs rows rd' ts tss := by
  obtain ⟨m1, m2⟩ := x.base.ne x.f.2.1
  exact ⟨x.base, x.hand.upd m1 m2, x.but.updN x.f.2.1, by rw [upd_ne x.d.1]; exact x.rw, fun k b r e1 e2 => by rw [upd_ne (x.fb b (List.mem_of_getElem? e1)).2.2.1]; exact x.row k b r e1 e2, x.lr, upd_same, by rw [upd_ne x.d.2.2.symm]; exact x.tk,
    fun j a t e1 e2 => by rw [upd_ne (x.ft a (List.mem_of_getElem? e1)).2.2.1]; exact x.tks j a t e1 e2, x.lt, x.nd, x.f, x.d, x.fb, x.ft⟩
theorem LS.tkset (x : LS H H' h c RW RD TK bs rows rd ts tss) {j : Nat} {q : Addr} {ns : List Int} (eq : H' q = some (.lst (ns.map V.int))) (hj : j < ts.length) (hq : q ∉ bs ∧ q ≠ RW ∧ q ≠ RD ∧ q ≠ TK ∧ q ≠ h) :
    LS H (upd H' TK (.lst ((ts.set j q).map V.ref))) h c RW RD TK bs rows rd (ts.set j q) (tss.set j ns) := by
  obtain ⟨m1, m2⟩ := x.base.ne x.f.2.2
  refine ⟨x.base, x.hand.upd m1 m2, x.but.updN x.f.2.2, by rw [upd_ne x.d.2.1]; exact x.rw, fun k b r e1 e2 => by rw [upd_ne (x.fb b (List.mem_of_getElem? e1)).2.2.2]; exact x.row k b r e1 e2, x.lr, by rw [upd_ne x.d.2.2]; exact x.rd_, upd_same,
    fun j' a t e1 e2 => ?_, by rw [List.length_set, List.length_set]; exact x.lt, x.nd, x.f, x.d, x.fb, fun b hb => ?_⟩
  · by_cases g : j = j'
    · subst g
      rw [List.getElem?_set_self hj] at e1
      rw [List.getElem?_set_self (by rw [x.lt]; exact hj)] at e2
      cases e1
      cases e2
      rw [upd_ne hq.2.2.2.1]
      exact eq
    · rw [List.getElem?_set_ne g] at e1 e2
      rw [upd_ne (x.ft a (List.mem_of_getElem? e1)).2.2.2.1]
      exact x.tks j' a t e1 e2
  · rcases List.mem_or_eq_of_mem_set hb with hb | rfl
    · exact x.ft b hb
    · exact hq
end
end Hc


set_option Elab.async false
set_option linter.all false
set_option pp.maxSteps 900
set_option maxRecDepth 100000
set_option maxHeartbeats 4000000
set_option autoImplicit false
namespace Hc
open PySem L2
/-- the pauses behind each place: the letter's size, for itself and for the road -/
def PausesS (H : Hp) (h a : Addr) (ls : List Sl) : Prop := a ≠ h ∧ ∃ xs : List Addr, H a = some (.lst (xs.map V.ref)) ∧ xs.length = ls.length ∧ ∀ (k : Nat) (b : Addr) (l : Sl), xs[k]? = some b → ls[k]? = some l →
  b ≠ h ∧ ∃ qs : List Addr, H b = some (.lst (qs.map V.ref)) ∧ qs.length = l.1.length ∧ ∀ (j : Nat) (q : Addr), qs[j]? = some q → H q = some (.tup [.int l.2.2, .int l.2.2])
def HoldsS (H : Hp) (h a : Addr) (ls : List Sl) (n : Nat) : Prop := a ≠ h ∧ ∃ xs : List Addr, H a = some (.lst (xs.map V.ref)) ∧ xs.length = n ∧ ∀ (k : Nat) (b : Addr) (l : Sl), xs[k]? = some b → ls[k]? = some l →
  b ≠ h ∧ ∃ hs : List Int, H b = some (.lst (hs.map V.int)) ∧ hs.length = l.1.length ∧ ∀ x ∈ hs, x ≤ 15
theorem PausesS.but {H H' : Hp} {h c a : Addr} {ls : List Sl} (x : PausesS H h a ls) (b : But h H H') (hA : HandAt H h c) : PausesS H' h a ls := by
  obtain ⟨n, xs, e, l, f⟩ := x
  refine ⟨n, xs, b _ _ e n, l, fun k d l' e1 e2 => ?_⟩
  obtain ⟨n2, qs, f1, f2, f3⟩ := f k d l' e1 e2
  refine ⟨n2, qs, b _ _ f1 n2, f2, fun j q e3 => b _ _ (f3 j q e3) (fun z => ?_)⟩
  have := f3 j q e3
  subst z
  obtain ⟨_, z⟩ := hA.lst
  rw [z] at this; cases this
theorem RsAt.updL {H : Hp} {a q : Addr} {L : List (Addr × List Int)} (x : RsAt H a L) {ys : List V} (e : H q = some (.lst ys)) (n : q ≠ a) (o : HO) : RsAt (upd H q o) a L :=
  ⟨by rw [upd_ne n.symm]; exact x.1, fun p hp => ⟨by rw [upd_ne (fun z => by have := (x.2 p hp).1; rw [z, e] at this; cases this)]; exact (x.2 p hp).1, (x.2 p hp).2⟩⟩
theorem same_putX {H H4 : Hp} {D : Addr} {o : HO} (s : Same H H4) (hD : H D = none) : Same H (upd H4 D o) := fun b u z => by
  rw [upd_ne (ne_of_none z hD)]
  exact s _ _ z
/-- the letters that are not done -/
def undoneS (ls : List Sl) (rows : List (List Int)) (k : Nat) : Bool := decide ((rows.getD k []).length < (ls.getD k ([], 0, 0)).1.length)
def pairOf (rk : List Int) (k : Nat) : List Int := [rk.getD k 0, (k : Int)]
def numOf (r : List Int) : Nat := (r.getD 1 0).toNat
theorem pair_od {rk : List Int} {N : List Nat} {B : List (List Int)} (h : B.Perm (N.map (pairOf rk))) : ∃ od : List Nat, B = od.map (pairOf rk) ∧ od.Perm N := by
  refine ⟨B.map numOf, ?_, ?_⟩
  · rw [List.map_map]
    symm
    refine (List.map_congr_left fun x hx => ?_).trans (List.map_id B)
    obtain ⟨k, _, rfl⟩ := List.mem_map.mp (h.mem_iff.mp hx)
    show pairOf rk ((k : Nat) : Int).toNat = _
    rw [Int.toNat_natCast]; rfl
  · have := h.map numOf
    rw [List.map_map] at this
    refine this.trans (List.Perm.of_eq ?_)
    refine (List.map_congr_left fun k _ => ?_).trans (List.map_id N)
    show ((k : Nat) : Int).toNat = k
    exact Int.toNat_natCast k
/-! ### sized letters led: everybody gets home -/
structure Sz (m : Nat) (ls : List Sl) (rows : List (List Int)) (rd : List Int) (tss : List (List Int)) : Prop where
  len : rows.length = ls.length
  le : ∀ (k : Nat) (l : Sl) (r : List Int), ls[k]? = some l → rows[k]? = some r → r.length ≤ l.1.length
  lrd : rd.length = ls.length
  ltk : tss.length = m
  l3 : ∀ ns ∈ tss, ns.length ≤ 3
theorem Sz.pass {m : Nat} {ls : List Sl} {rows : List (List Int)} {rd : List Int} {tss : List (List Int)} (S : Sz m ls rows rd tss) {k rd_ : Nat} {l : Sl} {r : List Int} {u : Int} (el : ls[k]? = some l) (er : rows[k]? = some r) (h1 : r.length < l.1.length) (t : Int) {ns' : List Int} (hn : ns'.length ≤ 3) :
    Sz m ls (rows.set k (r ++ [t])) (rd.set k u) (tss.set rd_ ns') := by
  refine ⟨by rw [List.length_set]; exact S.len, fun k' l' r' e1 e2 => ?_, by rw [List.length_set]; exact S.lrd, by rw [List.length_set]; exact S.ltk, fun ns h => ?_⟩
  · by_cases q : k = k'
    · subst q
      rw [el] at e1
      cases e1
      rw [List.getElem?_set_self (List.getElem?_eq_some_iff.mp er).1] at e2
      cases e2
      rw [List.length_append, List.length_singleton]; omega
    · rw [List.getElem?_set_ne q] at e2
      exact S.le k' l' r' e1 e2
  · rcases List.mem_or_eq_of_mem_set h with h | rfl
    · exact S.l3 ns h
    · exact hn
def Bd (b : Int) (rd : List Int) (tss : List (List Int)) : Prop := (∀ x ∈ rd, x ≤ b) ∧ ∀ ns ∈ tss, ∀ x ∈ ns, x ≤ b
def Stp (b t : Int) (rows0 : List (List Int)) (j : Nat) (rows : List (List Int)) (rd : List Int) (tss : List (List Int)) : Prop :=
  (rows = rows0 ∧ Bd b rd tss ∧ (j = 0 ∨ t < b)) ∨ (tot rows0 < tot rows ∧ Bd (max b (t + 2)) rd tss)
theorem Stp.stay {b t : Int} {rows0 rows : List (List Int)} {j : Nat} {rd : List Int} {tss : List (List Int)} (x : Stp b t rows0 j rows rd tss) (h : rows = rows0 → Bd b rd tss → t < b) : Stp b t rows0 (j + 1) rows rd tss := by
  rcases x with ⟨h1, h2, _⟩ | x
  · exact .inl ⟨h1, h2, .inr (h h1 h2)⟩
  · exact .inr x
theorem Stp.pass {b t : Int} {rows0 rows : List (List Int)} {j : Nat} {rd : List Int} {tss : List (List Int)} (x : Stp b t rows0 j rows rd tss) {k rd_ : Nat} {r : List Int} {u : Int} (er : rows[k]? = some r) {ns ns' : List Int} (hu : u ≤ t + 2) (hm : ns ∈ tss) (hn : ∀ y ∈ ns', y ∈ ns ∨ y ≤ t + 2) :
    Stp b t rows0 (j + 1) (rows.set k (r ++ [t])) (rd.set k u) (tss.set rd_ ns') := by
  have key : ∀ b' : Int, Bd b' rd tss → b' ≤ max b (t + 2) → Bd (max b (t + 2)) (rd.set k u) (tss.set rd_ ns') := fun b' B hb => by
    refine ⟨fun y hy => ?_, fun ms hms y hy => ?_⟩
    · rcases List.mem_or_eq_of_mem_set hy with hy | rfl
      · have := B.1 y hy
        omega
      · omega
    · rcases List.mem_or_eq_of_mem_set hms with hms | rfl
      · have := B.2 ms hms y hy
        omega
      · rcases hn y hy with hy | hy
        · have := B.2 ns hm y hy
          omega
        · omega
  have ht := tot_set (t := t) er
  rcases x with ⟨h1, h2, _⟩ | ⟨h1, h2⟩
  · refine .inr ⟨?_, key b h2 (by omega)⟩
    rw [ht, h1]; omega
  · refine .inr ⟨?_, key _ h2 (by omega)⟩
    rw [ht]; omega
theorem Stp.ends {b t : Int} {rows0 rows : List (List Int)} {j : Nat} {rd : List Int} {tss : List (List Int)} (x : Stp b t rows0 j rows rd tss) (hj : ¬ j = 0) (h1 : t ≤ b) (h2 : 16 ≤ b) (h3 : b ≤ 16 + 2 * (tot rows0 : Int)) : ∃ b' : Int, Bd b' rd tss ∧ t + 1 ≤ b' ∧ 16 ≤ b' ∧ b' ≤ 16 + 2 * (tot rows : Int) := by
  rcases x with ⟨q1, q2, q3⟩ | ⟨q1, q2⟩
  · rcases q3 with q3 | q3
    · exact absurd q3 hj
    · exact ⟨b, q2, by omega, h2, by rw [q1]; exact h3⟩
  · exact ⟨_, q2, by omega, by omega, by omega⟩
theorem Sz.tot_le {m : Nat} {ls : List Sl} {rows : List (List Int)} {rd : List Int} {tss : List (List Int)} (S : Sz m ls rows rd tss) : tot rows ≤ wTot (ls.map ltOf) :=
  Hc.tot_le (by rw [S.len, List.length_map]) fun k l' r e1 e2 => by
    rw [List.getElem?_map] at e1
    cases e : ls[k]? with
    | none => rw [e] at e1; cases e1
    | some l =>
      rw [e] at e1
      cases e1
      exact S.le k l r e e2
section
variable {P : Program} {w : World} {K : PySem.W.Frag} {mg : Str → Option Value} {base : Heap}
def spLedS : Sp := fun vs H Q _ => ∃ (h c ap qm : Addr) (vr vl : V) (rds : List D) (ls : List Sl), vs = [.ref h, vr, .ref qm, .ref ap, vl] ∧ HandAt H h c ∧ Rp H h vr (.tup rds) ∧ noLs rds = true ∧ rds.length ≤ 24 ∧ H qm = some (.lst ((List.replicate rds.length (1 : Int)).map V.int)) ∧ qm ≠ h ∧
  PausesS H h ap ls ∧ Rp H h vl (slsD ls) ∧ SOk rds ls ∧ ls.length ≤ 30 ∧ (∀ l ∈ ls, l.2.1 ≤ 8) ∧ wTot (ls.map ltOf) ≤ 100 ∧
  ∀ vh rows H', HandAt H' h c → But h H H' → Rp H' h vh (rowsD rows) → LenOk (ls.map ltOf) rows → Q vh H'
theorem ok__law_led (T : Tx K mg) : FnOk P w K mg base CX0 2 T._law_led.f T._law_led.fd ["_law_hand_here", "_law_roads_here", "_law_rooms", "_law_pauses", "_law_letters"] spLedS := by
  refine T._law_led.F.ok sc_law_led (fun vs H Q E h => ?_) (fun cdv A outer s H vs Q E hr h => ?_)
  · obtain ⟨_, _, _, _, _, _, _, _, rfl, _⟩ := h
    rfl
  · obtain ⟨h, c, ap, qm, vr, vl, rds, ls, rfl, hA, rr, nr, r24, eqm0, nqm, pz, rl, o, l30, c8, w100, k⟩ := h
    refine ⟨_, (C8.pss_cut (ps_set (i := 5) sc_law_led.nd rfl (Or.inr rfl) (by exact (pe_lc (own := [("_law_letter", 17)]) (g := (gName 17)) (tt := tYes) rfl sc_law_led.nd (pi_tup (pv 4)) (blkOk_by (own := [("_law_letter", 17)]) (N := ["_law_hand_here", "_law_roads_here", "_law_rooms", "_law_pauses", "_law_letters", "_law_ranks", "_law_holds", "_law_rows", "_law_ready", "_law_taken", "_law_tick", "_law_order", "_law_rank", "_law_k", "_law_at", "_law_road", "_law_busy", "_law_letter", "_law_free", "_law_row"]) (sc := defScope s_law_led) (by decide +kernel)) (fun _ _ _ _ _ => (pg_name (i := 17) sc_law_led.nd rfl (Or.inl rfl))) (fun _ _ _ _ _ => pts_nil) (fun _ _ _ _ _ => (by exact (pe_call (ok__law_draw T) (hr.mono (by decide)) rfl T._law_draw.g T._law_draw.F.kp T._law_draw.b .nil pass0 (pa_cons (pv 0) (pa_cons pe_int pa_nil))))))))
      (C8.pss_cut (ps_setLc (i := 6) (own := [("_law_letter", 17)]) (g := (gName 17)) (tt := tYes) (te := (tLc (iTup K (tOp (rIxT K) (tVar 17) (tC (.int 0)))) (gName 15) tYes (tOp (rI CMul fun i j => .int (i * j)) (tCall spDraw [] E0 (tCons (tVar 0) (tCons (tC (.int 16)) tNil))) (tCB (fun xs H Q => (∃ i, xs = [.int i] ∧ Q (.int i) H) ∨ ∃ k, xs = [.bl k] ∧ Q (.int (if k then 1 else 0)) H) (tCons (tOp rEq (tCall spDraw [] E0 (tCons (tVar 0) (tCons (tC (.int 4)) tNil))) (tC (.int 0))) tNil))) (([("_law_road", 15)] : List (Str × Nat)).map (·.2)))) rfl sc_law_led.nd rfl rfl (sw_true rfl rfl rfl (by decide +kernel)) (pi_tup (pv 4)) (blkOk_by (own := [("_law_letter", 17)]) (N := ["_law_hand_here", "_law_roads_here", "_law_rooms", "_law_pauses", "_law_letters", "_law_ranks", "_law_holds", "_law_rows", "_law_ready", "_law_taken", "_law_tick", "_law_order", "_law_rank", "_law_k", "_law_at", "_law_road", "_law_busy", "_law_letter", "_law_free", "_law_row"]) (sc := defScope s_law_led) (by decide +kernel)) (fun _ _ _ _ _ => (pg_name (i := 17) sc_law_led.nd rfl (Or.inl rfl))) (fun _ _ _ _ _ => pts_nil) (fun _ _ _ _ _ => (by exact (pe_lc (own := [("_law_road", 15)]) (g := (gName 15)) (tt := tYes) rfl sc_law_led.nd (pi_tup (pe_ix ix_tup (pv 17) pe_int (fun _ _ => rfl))) (blkOk_by (own := [("_law_road", 15)]) (N := ["_law_hand_here", "_law_roads_here", "_law_rooms", "_law_pauses", "_law_letters", "_law_ranks", "_law_holds", "_law_rows", "_law_ready", "_law_taken", "_law_tick", "_law_order", "_law_rank", "_law_k", "_law_at", "_law_road", "_law_busy", "_law_letter", "_law_free", "_law_row"]) (sc := ({ kind := .function, names := [(".0", .local), ("_law_letter", .local), ("_law_hand_here", .cell)], isGenerator := false, isCoroutine := false } : Scope)) (by decide +kernel)) (fun _ _ _ _ _ => (pg_name (i := 15) sc_law_led.nd rfl (Or.inl rfl))) (fun _ _ _ _ _ => pts_nil) (fun _ _ _ _ _ => (by exact (pe_op op_mul (pe_call (ok__law_draw T) (hr.mono (by decide)) rfl T._law_draw.g T._law_draw.F.kp T._law_draw.b .nil pass0 (pa_cons (pv 0) (pa_cons pe_int pa_nil))) (pe_callTy call_int1 (by rfl) T.n_int (by decide +kernel) (pa_cons (pe_cmpR op_eq (pe_call (ok__law_draw T) (hr.mono (by decide)) rfl T._law_draw.g T._law_draw.F.kp T._law_draw.b .nil pass0 (pa_cons (pv 0) (pa_cons pe_int pa_nil))) pe_int (nomark _)) pa_nil)))))))))
      (C8.pss_cut (ps_set (i := 7) sc_law_led.nd rfl (Or.inr rfl) (by exact (pe_lc (own := [("_law_letter", 17)]) (g := (gName 17)) (tt := tYes) rfl sc_law_led.nd (pi_tup (pv 4)) (blkOk_by (own := [("_law_letter", 17)]) (N := ["_law_hand_here", "_law_roads_here", "_law_rooms", "_law_pauses", "_law_letters", "_law_ranks", "_law_holds", "_law_rows", "_law_ready", "_law_taken", "_law_tick", "_law_order", "_law_rank", "_law_k", "_law_at", "_law_road", "_law_busy", "_law_letter", "_law_free", "_law_row"]) (sc := defScope s_law_led) (by decide +kernel)) (fun _ _ _ _ _ => (pg_name (i := 17) sc_law_led.nd rfl (Or.inl rfl))) (fun _ _ _ _ _ => pts_nil) (fun _ _ _ _ _ => (by exact (pe_lst pa_nil))))))
      (C8.pss_cut (ps_setLc (i := 8) (own := [("_law_letter", 17)]) (g := (gName 17)) (tt := tYes) (te := (tOp (rIxT K) (tVar 17) (tC (.int 1)))) rfl sc_law_led.nd rfl rfl (sw_true rfl rfl rfl (by decide +kernel)) (pi_tup (pv 4)) (blkOk_by (own := [("_law_letter", 17)]) (N := ["_law_hand_here", "_law_roads_here", "_law_rooms", "_law_pauses", "_law_letters", "_law_ranks", "_law_holds", "_law_rows", "_law_ready", "_law_taken", "_law_tick", "_law_order", "_law_rank", "_law_k", "_law_at", "_law_road", "_law_busy", "_law_letter", "_law_free", "_law_row"]) (sc := defScope s_law_led) (by decide +kernel)) (fun _ _ _ _ _ => (pg_name (i := 17) sc_law_led.nd rfl (Or.inl rfl))) (fun _ _ _ _ _ => pts_nil) (fun _ _ _ _ _ => (by exact (pe_ix ix_tup (pv 17) pe_int (fun _ _ => rfl)))))
      (C8.pss_cut (ps_setLc (i := 9) (own := [("_law_road", 15)]) (g := (gName 15)) (tt := tYes) rfl sc_law_led.nd rfl rfl (sw_true rfl rfl rfl (by decide +kernel)) (pi_tup (pv 1)) (blkOk_by (own := [("_law_road", 15)]) (N := ["_law_hand_here", "_law_roads_here", "_law_rooms", "_law_pauses", "_law_letters", "_law_ranks", "_law_holds", "_law_rows", "_law_ready", "_law_taken", "_law_tick", "_law_order", "_law_rank", "_law_k", "_law_at", "_law_road", "_law_busy", "_law_letter", "_law_free", "_law_row"]) (sc := defScope s_law_led) (by decide +kernel)) (fun _ _ _ _ _ => (pg_name (i := 15) sc_law_led.nd rfl (Or.inl rfl))) (fun _ _ _ _ _ => pts_nil) (fun _ _ _ _ _ => (by exact (pe_lst pa_nil))))
      (C8.pss_cut (ps_for PassesOwn.never rfl (pi_range2 (by rfl) T.n_range (pa_cons pe_int (pa_cons pe_int pa_nil))) (pg_name (i := 10) sc_law_led.nd rfl (Or.inr rfl))
      (C8.pss_cut (ps_set (i := 11) sc_law_led.nd rfl (Or.inl rfl) (pe_callB cr_sortedR (by rfl) T.n_sorted (by decide +kernel) (pa_cons (pe_lc (own := [("_law_k", 13)]) (g := (gName 13))  (te := (tTup (tCons (tOp (rIxL K) (tVar 5) (tVar 13)) (tCons (tVar 13) tNil)))) (tt := (tTest (tOp rLtS (tCB (rLenS K) (tCons (tOp (rIxL K) (tVar 7) (tVar 13)) tNil)) (tCB (rLenS K) (tCons (tOp (rIxT K) (tOp (rIxT K) (tVar 4) (tVar 13)) (tC (.int 0))) tNil))))) rfl sc_law_led.nd (pi_range1 (by rfl) T.n_range (pa_cons (pe_callB call_len_seq (by rfl) T.n_len (by decide +kernel) (pa_cons (pv 4) pa_nil)) pa_nil)) (blkOk_by (own := [("_law_k", 13)]) (N := ["_law_hand_here", "_law_roads_here", "_law_rooms", "_law_pauses", "_law_letters", "_law_ranks", "_law_holds", "_law_rows", "_law_ready", "_law_taken", "_law_tick", "_law_order", "_law_rank", "_law_k", "_law_at", "_law_road", "_law_busy", "_law_letter", "_law_free", "_law_row"]) (sc := defScope s_law_led) (by decide +kernel)) (fun _ _ _ _ _ => (pg_name (i := 13) sc_law_led.nd rfl (Or.inl rfl))) (fun _ _ _ _ _ => (pts_one (by exact (pt_cmpR op_lt (pe_callB call_len_seq (by rfl) T.n_len (by decide +kernel) (pa_cons (pe_ix ix_list (pv 7) (pv 13) (fun _ _ => rfl)) pa_nil)) (pe_callB call_len_seq (by rfl) T.n_len (by decide +kernel) (pa_cons (pe_ix ix_tup (pe_ix ix_tup (pv 4) (pv 13) (fun _ _ => rfl)) pe_int (fun _ _ => rfl)) pa_nil)) (nomark _))))) (fun _ _ _ _ _ => (by exact (pe_tup (pa_cons (pe_ix ix_list (pv 5) (pv 13) (fun _ _ => rfl)) (pa_cons (pv 13) pa_nil)))))) pa_nil)))
      (C8.pss_cut (ps_for PassesOwn.never rfl (pi_list (pv 11)) (pg_tup (by rfl) (pgs_cons (pg_name (i := 12) sc_law_led.nd rfl (Or.inl rfl)) (pgs_cons (pg_name (i := 13) sc_law_led.nd rfl (Or.inl rfl)) pgs_nil)))
      (pss_cons (ps_set (i := 14) sc_law_led.nd rfl (Or.inl rfl) (pe_callB call_len_seq (by rfl) T.n_len (by decide +kernel) (pa_cons (pe_ix ix_list (pv 7) (pv 13) (fun _ _ => rfl)) pa_nil)))
      (pss_cons (ps_set (i := 15) sc_law_led.nd rfl (Or.inl rfl) (pe_ix ix_tup (pe_ix ix_tup (pe_ix ix_tup (pv 4) (pv 13) (fun _ _ => rfl)) pe_int (fun _ _ => rfl)) (pv 14) (fun _ _ => rfl)))
      (pss_cons (ps_set (i := 16) sc_law_led.nd rfl (Or.inl rfl) (pe_callB call_len_seq (by rfl) T.n_len (by decide +kernel) (pa_cons (pe_lc (own := [("_law_free", 18)]) (g := (gName 18))  rfl sc_law_led.nd (pi_list (pe_ix ix_list (pv 9) (pv 15) (fun _ _ => rfl))) (blkOk_by (own := [("_law_free", 18)]) (N := ["_law_hand_here", "_law_roads_here", "_law_rooms", "_law_pauses", "_law_letters", "_law_ranks", "_law_holds", "_law_rows", "_law_ready", "_law_taken", "_law_tick", "_law_order", "_law_rank", "_law_k", "_law_at", "_law_road", "_law_busy", "_law_letter", "_law_free", "_law_row"]) (sc := defScope s_law_led) (by decide +kernel)) (fun _ _ _ _ _ => (pg_name (i := 18) sc_law_led.nd rfl (Or.inl rfl))) (fun _ _ _ _ _ => (pts_one (by exact (pt_cmpR op_gt (pv 18) (pv 10) (nomark _))))) (fun _ _ _ _ _ => (by exact (pv 18)))) pa_nil)))
      (pss_one (ps_if (PW.pt (pw_and (pt_cmpR op_le (pe_ix ix_list (pv 8) (pv 13) (fun _ _ => rfl)) (pv 10) (nomark _)) (pw_and (pt_cmpR op_le (pe_ix ix_list (pe_ix ix_list (pv 6) (pv 13) (fun _ _ => rfl)) (pv 14) (fun _ _ => rfl)) (pv 10) (nomark _)) (pw_and1 (pt_cmpR op_lt (pv 16) (pe_ix ix_list (pv 2) (pv 15) (fun _ _ => rfl)) (nomark _))))))
      (pss_cons (ps_expr (pe_bm PySem.F.plainAttrs_list PySem.F.slot_list_append PySem.F.type_list_append mt_append (pe_ix ix_list (pv 7) (pv 13) (fun _ _ => rfl)) (pa_cons (pv 10) pa_nil)))
      (pss_cons (ps_asg (pe_op op_add (pv 10) (pe_ix ix_tup (pe_ix ix_list (pe_ix ix_list (pv 3) (pv 13) (fun _ _ => rfl)) (pv 14) (fun _ _ => rfl)) pe_int (fun _ _ => rfl))) (pg_sub (pv 8) (pv 13) set_list))
      (pss_one (ps_asg (pe_op op_cat (pe_lc (own := [("_law_free", 18)]) (g := (gName 18))  rfl sc_law_led.nd (pi_list (pe_ix ix_list (pv 9) (pv 15) (fun _ _ => rfl))) (blkOk_by (own := [("_law_free", 18)]) (N := ["_law_hand_here", "_law_roads_here", "_law_rooms", "_law_pauses", "_law_letters", "_law_ranks", "_law_holds", "_law_rows", "_law_ready", "_law_taken", "_law_tick", "_law_order", "_law_rank", "_law_k", "_law_at", "_law_road", "_law_busy", "_law_letter", "_law_free", "_law_row"]) (sc := defScope s_law_led) (by decide +kernel)) (fun _ _ _ _ _ => (pg_name (i := 18) sc_law_led.nd rfl (Or.inl rfl))) (fun _ _ _ _ _ => (pts_one (by exact (pt_cmpR op_gt (pv 18) (pv 10) (nomark _))))) (fun _ _ _ _ _ => (by exact (pv 18)))) (pe_lst (pa_cons (pe_op op_add (pv 10) (pe_ix ix_tup (pe_ix ix_list (pe_ix ix_list (pv 3) (pv 13) (fun _ _ => rfl)) (pv 14) (fun _ _ => rfl)) pe_int (fun _ _ => rfl))) pa_nil))) (pg_sub (pv 9) (pv 15) set_list)))))
      pss_nil))))))
      (pss_one (ps_if (pt_cmpR op_eq (pe_callB call_len_seq (by rfl) T.n_len (by decide +kernel) (pa_cons (pv 11) pa_nil)) pe_int (nomark _))
      (pss_one ps_break)
      pss_nil)))))
      (pss_one (ps_ret (pe_callTy call_tuple_of (by rfl) T.n_tuple (by decide +kernel) (pa_cons (pe_lc (own := [("_law_row", 19)]) (g := (gName 19)) (tt := tYes) (te := (tCB (rTupOf K) (tCons (tVar 19) tNil))) rfl sc_law_led.nd (pi_list (pv 7)) (blkOk_by (own := [("_law_row", 19)]) (N := ["_law_hand_here", "_law_roads_here", "_law_rooms", "_law_pauses", "_law_letters", "_law_ranks", "_law_holds", "_law_rows", "_law_ready", "_law_taken", "_law_tick", "_law_order", "_law_rank", "_law_k", "_law_at", "_law_road", "_law_busy", "_law_letter", "_law_free", "_law_row"]) (sc := defScope s_law_led) (by decide +kernel)) (fun _ _ _ _ _ => (pg_name (i := 19) sc_law_led.nd rfl (Or.inl rfl))) (fun _ _ _ _ _ => pts_nil) (fun _ _ _ _ _ => (by exact (pe_callTy call_tuple_of (by rfl) T.n_tuple (by decide +kernel) (pa_cons (pv 19) pa_nil))))) pa_nil)))))))))), ?_⟩
    obtain ⟨q, xs, rfl, eq, lx, at_⟩ := sls_at rl
    have nth : ∀ {z : Addr} {ys : List V}, H z = some (.tup ys) → z ≠ h := fun e z => by
      subst z
      obtain ⟨_, z2⟩ := hA.lst
      rw [z2] at e; cases e
    -- ranks
    refine ⟨fun σ' H' => ∃ (RK : Addr) (rk : List Int), σ' = [some (.ref h), some vr, some (.ref qm), some (.ref ap), some (.ref q), some (.ref RK), none, none, none, none, none, none, none, none, none, none, none, none, none, none] ∧ HandAt H' h c ∧ But h H H' ∧ H' RK = some (.lst (rk.map V.int)) ∧ RK ≠ h ∧ rk.length = ls.length, ?_, ?_⟩
    · refine ⟨_, rfl, q, rfl, ⟨_, SqT.of eq⟩, fun L hL => ?_⟩
      obtain ⟨nLh, nLc⟩ := hA.ne hL
      refine lc_tup (K := K) (a := q) (xs := xs) (fun i H' => ∃ rk : List Int, HandAt H' h c ∧ But h H H' ∧ H' L = some (.lst (rk.map V.int)) ∧ rk.length = i) ⟨[], hA.upd nLh nLc, (But.refl h H).updN hL, upd_same, rfl⟩ (fun i H' _ ⟨_, _, b, _⟩ => SqT.of (b _ _ eq (nth eq))) ?_ ?_
      · rintro i x H6 hx ⟨rk, p6, b6, e6, l6⟩
        have hi : i < xs.length := (List.getElem?_eq_some_iff.mp hx).1
        refine ⟨rfl, tyes ⟨_, rfl, h, c, 4, rfl, p6, by decide, by decide, fun y9 H7 y90 y91 p7 b7 => ?_⟩⟩
        exact ⟨_, b7 _ _ e6 nLh, by rw [List.length_map]; exact line_lt (by omega), rk ++ [y9], p7.upd nLh nLc, (b6.trans b7).updN hL, by rw [upd_same, List.map_append]; rfl, by rw [List.length_append, l6]; rfl⟩
      rintro H6 ⟨rk, p6, b6, e6, l6⟩
      exact ⟨L, rk, rfl, p6, b6, e6, nLh, by omega⟩
    rintro σ' H1 ⟨RK, rk, rfl, hA1, b1, eRK, nRK, lrk⟩
    have eq1 := b1 _ _ eq (nth eq)
    have nth1 : ∀ {z : Addr} {ys : List V}, H1 z = some (.tup ys) → z ≠ h := fun e z => by
      subst z
      obtain ⟨_, z2⟩ := hA1.lst
      rw [z2] at e; cases e
    have rl1 := rl.monoB b1 hA
    -- holds
    refine ⟨fun σ' H' => ∃ HD : Addr, σ' = [some (.ref h), some vr, some (.ref qm), some (.ref ap), some (.ref q), some (.ref RK), some (.ref HD), none, none, none, none, none, none, none, none, none, none, none, none, none] ∧ HandAt H' h c ∧ But h H1 H' ∧ HoldsS H' h HD ls ls.length, ?_, ?_⟩
    · refine ⟨_, rfl, q, rfl, ⟨_, SqT.of eq1⟩, fun L hL => ?_⟩
      obtain ⟨nLh, nLc⟩ := hA1.ne hL
      refine lc_tup (K := K) (a := q) (xs := xs) (fun i H' => ∃ bs : List Addr, HandAt H' h c ∧ But h H1 H' ∧ H' L = some (.lst (bs.map V.ref)) ∧ bs.length = i ∧ ∀ (k : Nat) (b : Addr) (l : Sl), bs[k]? = some b → ls[k]? = some l → b ≠ h ∧ b ≠ L ∧ ∃ hs : List Int, H' b = some (.lst (hs.map V.int)) ∧ hs.length = l.1.length ∧ ∀ x ∈ hs, x ≤ 15)
        ⟨[], hA1.upd nLh nLc, (But.refl h H1).updN hL, upd_same, rfl, fun k b l e => by simp at e⟩ (fun i H' _ ⟨_, _, b, _⟩ => SqT.of (b _ _ eq1 (nth1 eq1))) ?_ ?_
      · rintro i x H6 hx ⟨bs, p6, b6, e6, l6, f6⟩
        have hi : i < xs.length := (List.getElem?_eq_some_iff.mp hx).1
        have el : ls[i]? = some (ls[i]'(by omega)) := List.getElem?_eq_getElem (by omega)
        obtain ⟨x', ex', rx⟩ := at_ i _ el
        rw [hx] at ex'
        cases ex'
        obtain ⟨ql, al, rfl, eql, eal⟩ := sl_inv rx
        have go : ∀ {z : Addr} {ys : List V}, H z = some (.tup ys) → H6 z = some (.tup ys) := fun e => b6 _ _ (b1 _ _ e (nth e)) (nth e)
        generalize ls[i]'(by omega) = l at el eql eal
        have l8 := (o.h l (List.mem_of_getElem? el)).2.1
        refine ⟨rfl, tyes ⟨_, rfl, ql, _, 0, .ref al, rfl, rfl, SqT.of (go eql), atI_nat (j := 0) rfl, al, rfl, ⟨_, SqT.of (go eal)⟩, fun D hD => ?_⟩⟩
        obtain ⟨nDh, nDc⟩ := p6.ne hD
        have nDL : D ≠ L := fun z => by subst z; rw [e6] at hD; cases hD
        have nDb : ∀ (k : Nat) (b : Addr) (l : Sl), bs[k]? = some b → ls[k]? = some l → b ≠ D := fun k b l e1 e2 z => by
          obtain ⟨_, _, hs, h1, _⟩ := f6 k b l e1 e2
          subst z
          rw [h1] at hD; cases hD
        refine lc_tup (K := K) (a := al) (xs := l.1.map fun j => V.int (j : Nat)) (fun j H' => ∃ hs : List Int, HandAt H' h c ∧ But h H6 H' ∧ H' D = some (.lst (hs.map V.int)) ∧ hs.length = j ∧ ∀ x ∈ hs, x ≤ 15) ⟨[], p6.upd nDh nDc, (But.refl h H6).updN hD, upd_same, rfl, fun _ z => nomatch z⟩ (fun j H' _ ⟨_, _, b, _⟩ => SqT.of (b _ _ (go eal) (nth eal))) ?_ ?_
        · rintro j x H7 hx7 ⟨hs, p7, b7, e7, l7, f7⟩
          have hj : j < l.1.length := by
            have := (List.getElem?_eq_some_iff.mp hx7).1
            rwa [List.length_map] at this
          refine ⟨rfl, tyes ⟨_, rfl, h, c, 16, rfl, p7, by decide, by decide, fun y H8 y0 y1 p8 b8 => ⟨_, rfl, h, c, 4, rfl, p8, by decide, by decide, fun z H9 z0 z1 p9 b9 => ⟨rfl, .inr ⟨_, rfl, _, _, rfl, rfl, .inl ⟨by omega, by omega⟩, ?_⟩⟩⟩⟩⟩
          refine ⟨_, b9 _ _ (b8 _ _ e7 nDh) nDh, by rw [List.length_map]; exact line_lt (by omega), hs ++ [_], p9.upd nDh nDc, ((b7.trans b8).trans b9).updN hD, by rw [upd_same, List.map_append]; rfl, by rw [List.length_append, l7]; rfl, fun x hx => ?_⟩
          rcases List.mem_append.mp hx with hx | hx
          · exact f7 x hx
          · rw [List.mem_singleton] at hx
            subst hx
            by_cases g : decide (V.int z = V.int 0) = true
            · rw [if_pos g]; omega
            · rw [if_neg g]; omega
        rintro H7 ⟨hs, p7, b7, e7, l7, f7⟩
        rw [List.length_map] at l7
        have e8 := b7 _ _ e6 nLh
        refine ⟨_, e8, by rw [List.length_map]; exact line_lt (by omega), bs ++ [D], p7.upd nLh nLc, (b6.trans b7).updN hL, by rw [upd_same, List.map_append]; rfl, by rw [List.length_append, l6]; rfl, fun k b l' e1 e2 => ?_⟩
        by_cases g : k < bs.length
        · rw [List.getElem?_append_left g] at e1
          obtain ⟨m1, m2, hs', h1, h2, h3⟩ := f6 k b l' e1 e2
          exact ⟨m1, m2, hs', by rw [upd_ne m2]; exact b7 _ _ h1 m1, h2, h3⟩
        · have hk : k = bs.length := by
            have := (List.getElem?_eq_some_iff.mp e1).1
            rw [List.length_append, List.length_singleton] at this
            omega
          subst hk
          rw [List.getElem?_append_right (Nat.le_refl _), Nat.sub_self] at e1
          cases e1
          rw [l6, el] at e2
          cases e2
          exact ⟨nDh, nDL, hs, by rw [upd_ne nDL]; exact e7, l7, f7⟩
      rintro H6 ⟨bs, p6, b6, e6, l6, f6⟩
      exact ⟨L, rfl, p6, b6, nLh, bs, e6, by omega, fun k b l e1 e2 => by
        obtain ⟨m1, _, hs', h1, h2, h3⟩ := f6 k b l e1 e2
        exact ⟨m1, hs', h1, h2, h3⟩⟩
    rintro σ' H2 ⟨HD, rfl, hA2, b12, hhd⟩
    have b2 := b1.trans b12
    have eRK := b12 _ _ eRK nRK
    have rl2 := rl.monoB b2 hA
    have rr2 := rr.monoB b2 hA
    have eqm := b2 _ _ eqm0 nqm
    have pz2 := pz.but b2 hA
    have eq2 := b2 _ _ eq (nth eq)
    clear rl1 eq1 nth1 b12 hA1 b1
    have nth2 : ∀ {z : Addr} {ys : List V}, H2 z = some (.tup ys) → z ≠ h := fun e z => by
      subst z
      obtain ⟨_, z2⟩ := hA2.lst
      rw [z2] at e; cases e
    -- rows
    refine ⟨fun σ' H' => ∃ (RW : Addr) (bs : List Addr), σ' = [some (.ref h), some vr, some (.ref qm), some (.ref ap), some (.ref q), some (.ref RK), some (.ref HD), some (.ref RW), none, none, none, none, none, none, none, none, none, none, none, none] ∧ Same H2 H' ∧ H2 RW = none ∧ H' RW = some (.lst (bs.map V.ref)) ∧ bs.length = ls.length ∧ (∀ b ∈ bs, H' b = some (.lst []) ∧ H2 b = none ∧ b ≠ RW) ∧ bs.Nodup, ?_, ?_⟩
    · refine ⟨_, rfl, q, rfl, ⟨_, SqT.of eq2⟩, fun RW hRW => ?_⟩
      refine lc_tup (K := K) (a := q) (xs := xs) (fun i H' => ∃ bs : List Addr, Same H2 H' ∧ H' RW = some (.lst (bs.map V.ref)) ∧ bs.length = i ∧ (∀ b ∈ bs, H' b = some (.lst []) ∧ H2 b = none ∧ b ≠ RW) ∧ bs.Nodup)
        ⟨[], same_upd hRW, upd_same, rfl, (fun _ z => nomatch z), List.nodup_nil⟩ (fun i H' _ ⟨_, s, _⟩ => SqT.of (s _ _ eq2)) ?_ ?_
      · rintro i x H6 hx ⟨bs, s6, e6, l6, f6, n6⟩
        have hi : i < xs.length := (List.getElem?_eq_some_iff.mp hx).1
        refine ⟨rfl, tyes ⟨by show 0 ≤ sizeLine; decide, fun b hb => ?_⟩⟩
        have nb : b ≠ RW := fun z => by subst z; rw [e6] at hb; cases hb
        have nbs : ∀ b' ∈ bs, b' ≠ b := fun b' h' z => by subst z; rw [(f6 _ h').1] at hb; cases hb
        have hb0 : H2 b = none := by
          cases z : H2 b with
          | none => rfl
          | some o => rw [s6 _ _ z] at hb; cases hb
        refine ⟨_, (upd_ne nb.symm).trans e6, by rw [List.length_map]; exact line_lt (by omega), bs ++ [b], same_putX (s6.trans (same_upd hb)) hRW, by rw [upd_same, List.map_append]; rfl, by rw [List.length_append, l6]; rfl, fun b' h' => ?_, ?_⟩
        · rcases List.mem_append.mp h' with h' | h'
          · obtain ⟨g1, g2, g3⟩ := f6 b' h'
            exact ⟨by rw [upd_ne g3, upd_ne (nbs b' h')]; exact g1, g2, g3⟩
          · rw [List.mem_singleton] at h'
            subst h'
            exact ⟨by rw [upd_ne nb]; exact upd_same, hb0, nb⟩
        · rw [List.nodup_append]
          refine ⟨n6, by simp, fun a1 ha1 b2 hb2 => ?_⟩
          rw [List.mem_singleton] at hb2
          subst hb2
          exact nbs a1 ha1
      rintro H6 ⟨bs, s6, e6, l6, f6, n6⟩
      exact ⟨RW, bs, rfl, s6, hRW, e6, by omega, f6, n6⟩
    rintro σ' H3 ⟨RW, bs, rfl, s3, hRW, eRW, lbs, fbs, nbs⟩
    have eq3 := s3 _ _ eq2
    -- ready
    refine ⟨fun σ' H' => ∃ RD : Addr, σ' = [some (.ref h), some vr, some (.ref qm), some (.ref ap), some (.ref q), some (.ref RK), some (.ref HD), some (.ref RW), some (.ref RD), none, none, none, none, none, none, none, none, none, none, none] ∧ Same H3 H' ∧ H3 RD = none ∧ H' RD = some (.lst ((ls.map (·.2.1)).map V.int)), ?_, ?_⟩
    · refine ⟨_, rfl, q, rfl, ⟨_, SqT.of eq3⟩, fun RD hRD => ?_⟩
      refine lc_tup (K := K) (a := q) (xs := xs) (fun i H' => Same H3 H' ∧ H' RD = some (.lst (((ls.take i).map (·.2.1)).map V.int))) ⟨same_upd hRD, upd_same⟩ (fun i H' _ ⟨s, _⟩ => SqT.of (s _ _ eq3)) ?_ ?_
      · rintro i x H6 hx ⟨s6, e6⟩
        have hi : i < xs.length := (List.getElem?_eq_some_iff.mp hx).1
        have el : ls[i]? = some (ls[i]'(by omega)) := List.getElem?_eq_getElem (by omega)
        obtain ⟨x', ex', rx⟩ := at_ i _ el
        rw [hx] at ex'
        cases ex'
        obtain ⟨ql, al, rfl, eql, eal⟩ := sl_inv rx
        refine ⟨rfl, tyes ⟨_, rfl, ql, _, 1, _, rfl, rfl, SqT.of (s6 _ _ (s3 _ _ (b2 _ _ eql (nth eql)))), atI_nat (j := 1) rfl, _, e6, ?_, same_putX s6 hRD, ?_⟩⟩
        · rw [List.length_map, List.length_map, List.length_take]; exact line_lt (by omega)
        · rw [upd_same, take_more el, List.map_append, List.map_append]; rfl
      rintro H6 ⟨s6, e6⟩
      rw [lx, List.take_length] at e6
      exact ⟨RD, rfl, s6, hRD, e6⟩
    rintro σ' H4 ⟨RD, rfl, s4, hRD, eRD⟩
    -- taken
    obtain ⟨qr, xr, rfl, eqr, _, rxr⟩ := tup_inv rr2
    have lxr := rxr.len
    have eqr4 := s4 _ _ (s3 _ _ eqr)
    refine ⟨fun σ' H' => ∃ (TK : Addr) (ts : List Addr), σ' = [some (.ref h), some (.ref qr), some (.ref qm), some (.ref ap), some (.ref q), some (.ref RK), some (.ref HD), some (.ref RW), some (.ref RD), some (.ref TK), none, none, none, none, none, none, none, none, none, none] ∧ Same H4 H' ∧ H4 TK = none ∧ H' TK = some (.lst (ts.map V.ref)) ∧ ts.length = rds.length ∧ (∀ b ∈ ts, H' b = some (.lst []) ∧ H4 b = none ∧ b ≠ TK), ?_, ?_⟩
    · refine ⟨_, rfl, qr, rfl, ⟨_, SqT.of eqr4⟩, fun TK hTK => ?_⟩
      refine lc_tup (K := K) (a := qr) (xs := xr) (fun i H' => ∃ ts : List Addr, Same H4 H' ∧ H' TK = some (.lst (ts.map V.ref)) ∧ ts.length = i ∧ (∀ b ∈ ts, H' b = some (.lst []) ∧ H4 b = none ∧ b ≠ TK) ∧ ts.Nodup)
        ⟨[], same_upd hTK, upd_same, rfl, (fun _ z => nomatch z), List.nodup_nil⟩ (fun i H' _ ⟨_, s, _⟩ => SqT.of (s _ _ eqr4)) ?_ ?_
      · rintro i x H6 hx ⟨ts, s6, e6, l6, f6, n6⟩
        have hi : i < xr.length := (List.getElem?_eq_some_iff.mp hx).1
        refine ⟨rfl, tyes ⟨by show 0 ≤ sizeLine; decide, fun b hb => ?_⟩⟩
        have nb : b ≠ TK := fun z => by subst z; rw [e6] at hb; cases hb
        have nbs : ∀ b' ∈ ts, b' ≠ b := fun b' h' z => by subst z; rw [(f6 _ h').1] at hb; cases hb
        have hb0 : H4 b = none := by
          cases z : H4 b with
          | none => rfl
          | some o => rw [s6 _ _ z] at hb; cases hb
        refine ⟨_, (upd_ne nb.symm).trans e6, by rw [List.length_map]; exact line_lt (by omega), ts ++ [b], same_putX (s6.trans (same_upd hb)) hTK, by rw [upd_same, List.map_append]; rfl, by rw [List.length_append, l6]; rfl, fun b' h' => ?_, ?_⟩
        · rcases List.mem_append.mp h' with h' | h'
          · obtain ⟨g1, g2, g3⟩ := f6 b' h'
            exact ⟨by rw [upd_ne g3, upd_ne (nbs b' h')]; exact g1, g2, g3⟩
          · rw [List.mem_singleton] at h'
            subst h'
            exact ⟨by rw [upd_ne nb]; exact upd_same, hb0, nb⟩
        · rw [List.nodup_append]
          refine ⟨n6, by simp, fun a1 ha1 b2 hb2 => ?_⟩
          rw [List.mem_singleton] at hb2
          subst hb2
          exact nbs a1 ha1
      rintro H6 ⟨ts, s6, e6, l6, f6, n6⟩
      exact ⟨TK, ts, rfl, s6, hTK, e6, by omega, f6⟩
    rintro σ' H5 ⟨TK, ts, rfl, s5, hTK, eTK, lts, fts⟩
    have nn : ∀ {A B : Hp} {b : Addr}, Same A B → B b = none → A b = none := fun {A B b} s e => by
      cases z : A b with
      | none => rfl
      | some o => rw [s _ _ z] at e; cases e
    have s24 := s3.trans s4
    have x0 : LS H2 H5 h c RW RD TK bs (List.replicate ls.length []) (ls.map (·.2.1)) ts (List.replicate rds.length []) := by
      refine ⟨hA2, hA2.mono (s24.trans s5), But.of (s24.trans s5), s5 _ _ (s4 _ _ eRW), fun k b r e1 e2 => ?_, by rw [List.length_replicate, lbs], s5 _ _ eRD, eTK, fun j b t e1 e2 => ?_, by rw [List.length_replicate, lts], nbs,
        ⟨hRW, nn s3 hRD, nn s24 hTK⟩, ⟨(fun z => by subst z; rw [eRW] at hRD; cases hRD), (fun z => by subst z; rw [s4 _ _ eRW] at hTK; cases hTK), (fun z => by subst z; rw [eRD] at hTK; cases hTK)⟩, fun b hb => ?_, fun b hb => ?_⟩
      · obtain ⟨_, e2⟩ := List.getElem?_eq_some_iff.mp e2
        rw [List.getElem_replicate] at e2
        subst e2
        exact s5 _ _ (s4 _ _ (fbs b (List.mem_of_getElem? e1)).1)
      · obtain ⟨_, e2⟩ := List.getElem?_eq_some_iff.mp e2
        rw [List.getElem_replicate] at e2
        subst e2
        exact (fts b (List.mem_of_getElem? e1)).1
      · obtain ⟨g1, g2, g3⟩ := fbs b hb
        exact ⟨g2, g3, (fun z => by subst z; rw [g1] at hRD; cases hRD), (fun z => by subst z; rw [s4 _ _ g1] at hTK; cases hTK)⟩
      · obtain ⟨g1, g2, g3⟩ := fts b hb
        refine ⟨fun z => ?_, (fun z => by subst z; rw [s4 _ _ eRW] at g2; cases g2), (fun z => by subst z; rw [eRD] at g2; cases g2), g3, ((hA2.mono s24).ne g2).1⟩
        have := (fbs b z).1
        rw [s4 _ _ this] at g2
        cases g2
    clear fts eTK lts eRD eRW fbs lbs nbs s3 s4 s5 s24 hRW hRD hTK eq3 eqr4
    -- the ticks
    obtain ⟨nap, xp, ep, lp, fp⟩ := pz2
    obtain ⟨nhd, xh, eh, lh, fh⟩ := hhd
    refine ⟨fun σ' H' => ∃ (o10 o11 o12 o13 o14 o15 o16 : Option V) (rows : List (List Int)) (rd : List Int) (ts : List Addr) (tss : List (List Int)), σ' = [some (.ref h), some (.ref qr), some (.ref qm), some (.ref ap), some (.ref q), some (.ref RK), some (.ref HD), some (.ref RW), some (.ref RD), some (.ref TK), o10, o11, o12, o13, o14, o15, o16, none, none, none] ∧ LS H2 H' h c RW RD TK bs rows rd ts tss ∧ LenOk (ls.map ltOf) rows, ?_, ?_⟩
    · refine ⟨1, 600, rfl, ⟨by omega, by omega⟩, for_range (lo := 1) (n := ((600 : Int) - 1).toNat) (fun i σ' H' => i ≤ 399 ∧ ∃ (o10 o11 o12 o13 o14 o15 o16 : Option V) (rows : List (List Int)) (rd : List Int) (ts : List Addr) (tss : List (List Int)), σ' = [some (.ref h), some (.ref qr), some (.ref qm), some (.ref ap), some (.ref q), some (.ref RK), some (.ref HD), some (.ref RW), some (.ref RD), some (.ref TK), o10, o11, o12, o13, o14, o15, o16, none, none, none] ∧ LS H2 H' h c RW RD TK bs rows rd ts tss ∧
          Sz rds.length ls rows rd tss ∧ ∃ b : Int, Bd b rd tss ∧ 1 + (i : Int) ≤ b ∧ 16 ≤ b ∧ b ≤ 16 + 2 * (tot rows : Int))
        ⟨by omega, _, _, _, _, _, _, _, _, _, _, _, rfl, x0, ?_, 16, ⟨fun x hx => ?_, fun ns hn y hy => ?_⟩, by omega, by omega, by omega⟩ ?_ ?_⟩
      · refine ⟨List.length_replicate, fun k l r e2 e3 => ?_, List.length_map _, List.length_replicate, fun ns hn => ?_⟩
        · obtain ⟨_, e3⟩ := List.getElem?_eq_some_iff.mp e3
          rw [List.getElem_replicate] at e3
          subst e3
          exact Nat.zero_le _
        · rw [List.eq_of_mem_replicate hn]; exact Nat.zero_le _
      · obtain ⟨l, hl, rfl⟩ := List.mem_map.mp hx
        have := c8 l hl
        omega
      · rw [List.eq_of_mem_replicate hn] at hy; cases hy
      · rintro i σ' H6 hi ⟨hi9, o10, o11, o12, o13, o14, o15, o16, rows0, rd0, ts0, tss0, rfl, x6, S0, b0, B0, hb1, hb2, hb3⟩
        obtain ⟨t, et⟩ : ∃ t, t = 1 + (i : Int) := ⟨_, rfl⟩
        rw [← et] at hb1 ⊢
        have eq6 := x6.but _ _ eq2 (nth2 eq2)
        refine ⟨fun σ' H' => ∃ (P : Addr) (LL : List (Addr × List Int)) (od : List Nat), σ' = [some (.ref h), some (.ref qr), some (.ref qm), some (.ref ap), some (.ref q), some (.ref RK), some (.ref HD), some (.ref RW), some (.ref RD), some (.ref TK), some (.int t), some (.ref P), o12, o13, o14, o15, o16, none, none, none] ∧ Same H6 H' ∧ H6 P = none ∧ RsAt H' P LL ∧ LL.map (·.2) = od.map (pairOf rk) ∧ od.Perm ((List.range ls.length).filter (undoneS ls rows0)), ?_, ?_⟩
        · refine ⟨_, rfl, q, xs, rfl, .inr (SqT.of eq6), ((xs.length : Nat) : Int), rfl, by omega, by omega, fun D hD => ?_⟩
          obtain ⟨nDh, nDc⟩ := x6.hand.ne hD
          refine lc_range (lo := 0) (n := ((xs.length : Nat) : Int).toNat) (fun j H' => Same H6 (fun b => if b = D then none else H' b) ∧ ∃ LL, RsAt H' D LL ∧ LL.map (·.2) = ((List.range j).filter (undoneS ls rows0)).map (pairOf rk)) ⟨mask_upd hD (Same.refl _), [], RsAt.nil upd_same, rfl⟩ ?_ ?_
          · rintro j H7 hj ⟨s7, LL, r7, e7⟩
            have sm := mask hD s7
            have x7 := x6.same sm
            have hjl : j < ls.length := by omega
            obtain ⟨l, el⟩ : ∃ l, ls[j]? = some l := ⟨_, List.getElem?_eq_getElem hjl⟩
            obtain ⟨xv, exv, rxv⟩ := at_ j l el
            obtain ⟨ql, al, rfl, eql, eal⟩ := sl_inv rxv
            have go : ∀ {z : Addr} {ys : List V}, H z = some (.tup ys) → H7 z = some (.tup ys) := fun e => x7.but _ _ (b2 _ _ e (nth e)) (nth e)
            have hjr : j < rows0.length := by rw [S0.len]; exact hjl
            obtain ⟨r, er⟩ : ∃ r, rows0[j]? = some r := ⟨_, List.getElem?_eq_getElem hjr⟩
            obtain ⟨b, eb⟩ : ∃ b, bs[j]? = some b := ⟨_, List.getElem?_eq_getElem (by rw [← x7.lr]; exact hjr)⟩
            have g1 : rows0.getD j [] = r := by rw [List.getD_eq_getElem?_getD, er]; rfl
            have g2 : ls.getD j ([], 0, 0) = l := by rw [List.getD_eq_getElem?_getD, el]; rfl
            have l7 : LL.length ≤ j := by
              have := congrArg List.length e7
              rw [List.length_map, List.length_map] at this
              have := List.length_filter_le (undoneS ls rows0) (List.range j)
              rw [List.length_range] at this
              omega
            have eRK7 := x7.but _ _ eRK nRK
            refine ⟨rfl, _, rfl, _, rfl, RW, _, _, _, rfl, rfl, SqL.of x7.rw, at_of (j := j) (by omega) (by rw [List.getElem?_map, eb]; rfl), b, _, rfl, .inl (SqL.of (x7.row j b r eb er)), _, rfl, _, rfl, q, _, _, _, rfl, rfl, SqT.of (go eq), at_of (j := j) (by omega) exv, ql, _, 0, _, rfl, rfl, SqT.of (go eql), atI_nat (j := 0) rfl, al, _, rfl, .inr (SqT.of (go eal)), _, _, rfl, rfl, _, rfl, ?_⟩
            rw [List.length_map, List.length_map]
            by_cases g : r.length < l.1.length
            · have gu : undoneS ls rows0 j = true := by unfold undoneS; rw [g1, g2]; exact decide_eq_true g
              rw [decide_eq_true (show ((r.length : Nat) : Int) < (l.1.length : Nat) by omega)]
              refine iteT ⟨_, rfl, _, rfl, RK, _, _, _, rfl, rfl, SqL.of eRK7, at_of (j := j) (by omega) (int_at rk (by omega)), _, rfl, by show 2 ≤ sizeLine; decide, fun u hu => ?_⟩
              have s3 := same_upd (o := .tup [.int (rk.getD j 0), .int (0 + ((j : Nat) : Int))]) hu
              have eu : (upd H7 u (.tup [.int (rk.getD j 0), .int (0 + ((j : Nat) : Int))])) u = some (.tup ((pairOf rk j).map V.int)) := by rw [upd_same, Int.zero_add]; rfl
              have r3 := r7.same s3
              generalize upd H7 u (.tup [.int (rk.getD j 0), .int (0 + ((j : Nat) : Int))]) = H8 at s3 eu r3 ⊢
              exact ⟨_, r3.1, by rw [List.length_map]; exact line_lt (by omega), mask_upd hD (sm.trans s3), LL ++ [(u, pairOf rk j)], r3.snoc eu (by unfold pairOf; simp), by rw [List.map_append, e7, List.range_succ, List.filter_append, List.filter_cons, if_pos gu, List.map_append]; rfl⟩
            · have gu : ¬ undoneS ls rows0 j = true := by unfold undoneS; rw [g1, g2]; exact fun z => g (of_decide_eq_true z)
              rw [decide_eq_false (show ¬ ((r.length : Nat) : Int) < (l.1.length : Nat) by omega)]
              exact iteF ⟨s7, LL, r7, by rw [e7, List.range_succ, List.filter_append, List.filter_cons, if_neg gu]; simp⟩
          rintro H7 ⟨s7, LL, r7, e7⟩
          have sm := mask hD s7
          delta tNil
          dsimp only
          refine sorted_rs r7 fun P H8 L' s8 hP r8 so => ?_
          rw [e7] at so
          obtain ⟨od, eod, perm⟩ := pair_od so.1
          refine ⟨P, L', od, rfl, sm.trans s8, nn sm hP, r8, eod, ?_⟩
          rw [show ls.length = ((xs.length : Nat) : Int).toNat by omega]
          exact perm
        rintro σ' H7 ⟨P, LL, od0, rfl, s7, hP, rL, eL, perm⟩
        have x7 := x6.same s7
        have lLL : LL.length = od0.length := by
          have := congrArg List.length eL
          rwa [List.length_map, List.length_map] at this
        have hod : ∀ k ∈ od0, k < ls.length ∧ undoneS ls rows0 k = true := fun k hk => by
          have := List.mem_filter.mp (perm.mem_iff.mp hk)
          exact ⟨List.mem_range.mp this.1, this.2⟩
        have ndod : od0.Nodup := perm.nodup_iff.mpr (List.nodup_range.sublist List.filter_sublist)
        refine ⟨fun σ' H' => ∃ (o12 o13 o14 o15 o16 : Option V) (rows : List (List Int)) (rd : List Int) (ts : List Addr) (tss : List (List Int)), σ' = [some (.ref h), some (.ref qr), some (.ref qm), some (.ref ap), some (.ref q), some (.ref RK), some (.ref HD), some (.ref RW), some (.ref RD), some (.ref TK), some (.int t), some (.ref P), o12, o13, o14, o15, o16, none, none, none] ∧ LS H2 H' h c RW RD TK bs rows rd ts tss ∧ RsAt H' P LL ∧
          Sz rds.length ls rows rd tss ∧ Stp b0 t rows0 od0.length rows rd tss ∧ (od0 = [] → rows = rows0), ?_, ?_⟩
        · refine ⟨_, rfl, P, rfl, ⟨_, SqL.of rL.1⟩, for_list (K := K) (a := P) (xs := LL.map fun p => V.ref p.1) (fun j σ' H' => ∃ (o12 o13 o14 o15 o16 : Option V) (rows : List (List Int)) (rd : List Int) (ts : List Addr) (tss : List (List Int)), σ' = [some (.ref h), some (.ref qr), some (.ref qm), some (.ref ap), some (.ref q), some (.ref RK), some (.ref HD), some (.ref RW), some (.ref RD), some (.ref TK), some (.int t), some (.ref P), o12, o13, o14, o15, o16, none, none, none] ∧ LS H2 H' h c RW RD TK bs rows rd ts tss ∧ RsAt H' P LL ∧
            Sz rds.length ls rows rd tss ∧ Stp b0 t rows0 j rows rd tss ∧ (∀ k ∈ od0.drop j, rows[k]? = rows0[k]?) ∧ (j = 0 → rows = rows0))
            ⟨_, _, _, _, _, _, _, _, _, rfl, x7, rL, S0, .inl ⟨rfl, B0, .inl rfl⟩, fun _ _ => rfl, fun _ => rfl⟩ (fun j σ' H' _ ⟨_, _, _, _, _, _, _, _, _, _, _, y, _⟩ => SqL.of y.1) ?_ ?_⟩
          · rintro j x σ' H8 hx ⟨p12, p13, p14, p15, p16, rows, rd, ts, tss, rfl, x8, r8, SS, PP, un, z0⟩
            obtain ⟨pp, hpp, rfl⟩ : ∃ pp, LL[j]? = some pp ∧ x = .ref pp.1 := by
              rw [List.getElem?_map] at hx
              cases e : LL[j]? with
              | none => rw [e] at hx; cases hx
              | some m => rw [e] at hx; exact ⟨m, rfl, (Option.some.inj hx).symm⟩
            have hjo : j < od0.length := by rw [← lLL]; exact (List.getElem?_eq_some_iff.mp hpp).1
            obtain ⟨kk, ekk⟩ : ∃ kk, od0[j]? = some kk := ⟨_, List.getElem?_eq_getElem hjo⟩
            have epp : pp.2 = pairOf rk kk := by
              have := congrArg (·[j]?) eL
              simp only [List.getElem?_map, hpp, ekk, Option.map_some, Option.some.injEq] at this
              exact this
            have e2 := (r8.2 pp (List.mem_of_getElem? hpp)).1
            rw [epp] at e2
            have hdr : od0.drop j = kk :: od0.drop (j + 1) := by
              rw [List.drop_eq_getElem_cons hjo, (List.getElem?_eq_some_iff.mp ekk).2]
            have hko : kk ∈ od0 := List.mem_of_getElem? ekk
            obtain ⟨hkl, hu⟩ := hod kk hko
            have ek0 := un kk (by rw [hdr]; exact List.mem_cons_self)
            obtain ⟨l, el⟩ : ∃ l, ls[kk]? = some l := ⟨_, List.getElem?_eq_getElem hkl⟩
            obtain ⟨r, er⟩ : ∃ r, rows[kk]? = some r := ⟨_, List.getElem?_eq_getElem (by rw [SS.len]; exact hkl)⟩
            obtain ⟨b, eb⟩ : ∃ b, bs[kk]? = some b := ⟨_, List.getElem?_eq_getElem (by rw [← x8.lr, SS.len]; exact hkl)⟩
            have hl1 : r.length < l.1.length := by
              unfold undoneS at hu
              rw [List.getD_eq_getElem?_getD, ← ek0, er, List.getD_eq_getElem?_getD, el] at hu
              exact of_decide_eq_true hu
            obtain ⟨xv, exv, rxv⟩ := at_ kk l el
            obtain ⟨ql, al, rfl, eql, eal⟩ := sl_inv rxv
            have go : ∀ {z : Addr} {ys : List V}, H z = some (.tup ys) → H8 z = some (.tup ys) := fun e => x8.but _ _ (b2 _ _ e (nth e)) (nth e)
            obtain ⟨oo1, oo2, oo3, oo4, oo5, oo6, oo7⟩ := o.h l (List.mem_of_getElem? el)
            have hrd : l.1.getD r.length 0 < rds.length := oo3 _ (nat_mem l.1 hl1)
            obtain ⟨ns, ens⟩ : ∃ ns, tss[l.1.getD r.length 0]? = some ns := ⟨_, List.getElem?_eq_getElem (by rw [SS.ltk]; exact hrd)⟩
            obtain ⟨tb, etb⟩ : ∃ tb, ts[l.1.getD r.length 0]? = some tb := ⟨_, List.getElem?_eq_getElem (by rw [← x8.lt, SS.ltk]; exact hrd)⟩
            have row8 := x8.row kk b r eb er
            have tb8 := x8.tks _ tb ns etb ens
            refine ⟨pp.1, _, rfl, SqT.of e2, rfl, _, _, rfl, _, _, rfl, rfl, ?_⟩
            refine ⟨_, rfl, _, rfl, RW, _, _, _, rfl, rfl, SqL.of x8.rw, atI_nat (by rw [List.getElem?_map, eb]; rfl), b, _, rfl, .inl (SqL.of row8), ?_⟩
            refine ⟨_, rfl, _, rfl, q, _, _, _, rfl, rfl, SqT.of (go eq), atI_nat exv, ql, _, 0, _, rfl, rfl, SqT.of (go eql), atI_nat (j := 0) rfl, _, rfl, al, _, _, _, rfl, rfl, SqT.of (go eal), at_of (j := r.length) (by rw [List.length_map]) (nat_at l.1 hl1), ?_⟩
            obtain ⟨rd_, erd⟩ : ∃ rd_, rd_ = l.1.getD r.length 0 := ⟨_, rfl⟩
            rw [← erd] at hrd ens etb ⊢
            refine ⟨_, rfl, _, rfl, TK, _, _, _, rfl, rfl, SqL.of x8.tk, atI_nat (by rw [List.getElem?_map, etb]; rfl), tb, rfl, ⟨_, SqL.of tb8⟩, fun D hD => ?_⟩
            have lns : ns.length ≤ 3 := SS.l3 ns (List.mem_of_getElem? ens)
            refine lc_list (K := K) (a := tb) (xs := ns.map V.int) (fun i H' => Same H8 H' ∧ H' D = some (.lst (((ns.take i).filter fun x => decide (t < x)).map V.int))) ⟨same_upd hD, upd_same⟩ (fun i H' _ ⟨s, _⟩ => SqL.of (s _ _ tb8)) ?_ ?_
            · rintro m x H9 hx9 ⟨s9, e9⟩
              obtain ⟨y, ey, rfl⟩ : ∃ y, ns[m]? = some y ∧ x = .int y := by
                rw [List.getElem?_map] at hx9
                cases e : ns[m]? with
                | none => rw [e] at hx9; cases hx9
                | some y => rw [e] at hx9; exact ⟨y, rfl, (Option.some.inj hx9).symm⟩
              have lf : ((ns.take m).filter fun x => decide (t < x)).length ≤ 3 := by
                have := List.length_filter_le (fun x => decide (t < x)) (ns.take m)
                rw [List.length_take] at this
                omega
              refine ⟨rfl, _, rfl, _, rfl, _, _, rfl, rfl, _, rfl, ?_⟩
              by_cases g : t < y
              · rw [decide_eq_true g]
                exact iteT ⟨_, rfl, _, e9, by rw [List.length_map]; exact line_lt (by omega), same_putX s9 hD, by rw [upd_same, take_more ey, List.filter_append, List.filter_cons, if_pos (decide_eq_true g), List.map_append]; rfl⟩
              · rw [decide_eq_false g]
                exact iteF ⟨s9, by rw [e9, take_more ey, List.filter_append, List.filter_cons, if_neg (by rw [decide_eq_false g]; decide), List.filter_nil, List.append_nil]⟩
            rintro H9 ⟨s9, e9⟩
            rw [List.length_map, List.take_length] at e9
            have x9 := x8.same s9
            have r9 := r8.same s9
            have go9 : ∀ {z : Addr} {ys : List V}, H z = some (.tup ys) → H9 z = some (.tup ys) := fun e => s9 _ _ (go e)
            refine ⟨D, _, rfl, .inl (SqL.of e9), ?_⟩
            rw [List.length_map]
            have tb9 := s9 _ _ tb8
            clear hD e9 s9
            obtain ⟨bp, ebp⟩ : ∃ bp, xp[kk]? = some bp := ⟨_, List.getElem?_eq_getElem (by rw [lp]; exact hkl)⟩
            obtain ⟨bh, ebh⟩ : ∃ bh, xh[kk]? = some bh := ⟨_, List.getElem?_eq_getElem (by rw [lh]; exact hkl)⟩
            obtain ⟨nbp, qs, eqs, lqs, fqs⟩ := fp kk bp l ebp el
            obtain ⟨nbh, hs, ehs, lhs, fhs⟩ := fh kk bh l ebh el
            obtain ⟨qp, eqp⟩ : ∃ qp, qs[r.length]? = some qp := ⟨_, List.getElem?_eq_getElem (by rw [lqs]; exact hl1)⟩
            have fqp := fqs _ _ eqp
            have un' : ∀ k ∈ od0.drop (j + 1), rows[k]? = rows0[k]? := fun k hk => un k (by rw [hdr]; exact List.mem_cons_of_mem _ hk)
            obtain ⟨rk1, erk1⟩ : ∃ y, rd[kk]? = some y := ⟨_, List.getElem?_eq_getElem (by rw [SS.lrd]; exact hkl)⟩
            refine ⟨_, rfl, _, rfl, RD, _, _, _, rfl, rfl, SqL.of x9.rd_, atI_nat (by rw [List.getElem?_map, erk1]; rfl), _, rfl, _, _, rfl, rfl, _, rfl, ?_⟩
            by_cases g1 : rk1 ≤ t
            rotate_left 1
            · rw [decide_eq_false g1]
              exact iteF (iteF ⟨_, _, _, _, _, rows, rd, ts, tss, rfl, x9, r9, SS, PP.stay fun _ B => (by have := B.1 rk1 (List.mem_of_getElem? erk1); omega), un', fun z => absurd z (by omega)⟩)
            rw [decide_eq_true g1]
            refine iteT ⟨_, rfl, _, rfl, HD, _, _, _, rfl, rfl, SqL.of (x9.but _ _ eh nhd), atI_nat (by rw [List.getElem?_map, ebh]; rfl), _, rfl, bh, _, _, _, rfl, rfl, SqL.of (x9.but _ _ ehs nbh), atI_nat (int_at hs (by rw [lhs]; exact hl1)), _, rfl, _, _, rfl, rfl, _, rfl, ?_⟩
            by_cases g2 : hs.getD r.length 0 ≤ t
            rotate_left 1
            · rw [decide_eq_false g2]
              have h15 := fhs (hs.getD r.length 0) (by
                rw [List.getD_eq_getElem?_getD, List.getElem?_eq_getElem (by rw [lhs]; exact hl1)]
                exact List.getElem_mem _)
              exact iteF (iteF ⟨_, _, _, _, _, rows, rd, ts, tss, rfl, x9, r9, SS, PP.stay fun _ B => (by omega), un', fun z => absurd z (by omega)⟩)
            rw [decide_eq_true g2]
            refine iteT ⟨_, rfl, _, rfl, _, rfl, qm, _, _, _, rfl, rfl, SqL.of (x9.but _ _ eqm nqm), atI_nat (int_at (List.replicate rds.length (1 : Int)) (by rw [List.length_replicate]; exact hrd)), _, _, rfl, rfl, _, rfl, ?_⟩
            rw [List.length_map, show (List.replicate rds.length (1 : Int)).getD rd_ 0 = 1 by rw [List.getD_eq_getElem?_getD, List.getElem?_eq_getElem (by rw [List.length_replicate]; exact hrd), List.getElem_replicate]; rfl]
            by_cases g3 : (((ns.filter fun x => decide (t < x)).length : Nat) : Int) < 1
            rotate_left 1
            · rw [decide_eq_false g3]
              refine iteF ⟨_, _, _, _, _, rows, rd, ts, tss, rfl, x9, r9, SS, PP.stay fun _ B => ?_, un', fun z => absurd z (by omega)⟩
              obtain ⟨y, hy⟩ := List.exists_mem_of_length_pos (l := ns.filter fun x => decide (t < x)) (by omega)
              obtain ⟨hy1, hy2⟩ := List.mem_filter.mp hy
              have := B.2 ns (List.mem_of_getElem? ens) y hy1
              have := of_decide_eq_true hy2
              omega
            rw [decide_eq_true g3]
            have row9 := x9.row kk b r eb er
            refine iteT ⟨_, rfl, _, rfl, RW, _, _, .ref b, rfl, rfl, SqL.of x9.rw, atI_nat (by rw [List.getElem?_map, eb]; rfl), .inl ⟨rfl, _, SqL.of row9⟩, _, rfl, b, _, _, rfl, rfl, row9, by rw [List.length_map]; exact line_lt (by omega), ?_⟩
            have nbP : b ≠ P := fun z => by
              have := x6.row kk b r eb (by rw [← ek0]; exact er)
              rw [z, hP] at this; cases this
            have nRP : RD ≠ P := fun z => by have := x6.rd_; rw [z, hP] at this; cases this
            have nTP : TK ≠ P := fun z => by have := x6.tk; rw [z, hP] at this; cases this
            have x10 : LS H2 (upd H9 b (.lst (r.map V.int ++ [V.int t]))) h c RW RD TK bs (rows.set kk (r ++ [t])) rd ts tss := by
              have := x9.app eb er (r ++ [t])
              rw [List.map_append] at this
              exact this
            have r10 := r9.updL row9 nbP (.lst (r.map V.int ++ [V.int t]))
            generalize upd H9 b (.lst (r.map V.int ++ [V.int t])) = H10 at x10 r10 ⊢
            have hkd : kk < rd.length := by rw [SS.lrd]; exact hkl
            refine ⟨_, rfl, _, rfl, _, rfl, ap, _, _, _, rfl, rfl, SqL.of (x10.but _ _ ep nap), atI_nat (by rw [List.getElem?_map, ebp]; rfl), _, rfl, bp, _, _, _, rfl, rfl, SqL.of (x10.but _ _ eqs nbp), atI_nat (by rw [List.getElem?_map, eqp]; rfl), qp, _, 0, _, rfl, rfl, SqT.of (x10.but _ _ fqp (nth2 fqp)), atI_nat (j := 0) rfl, _, _, rfl, rfl, _, rfl, _, rfl, RD, _, _, _, rfl, rfl, x10.rd_, ixN_nat (by rw [List.length_map]; exact hkd), ?_⟩
            have x11 := x10.rdset (rd.set kk (t + l.2.2))
            rw [List.map_set] at x11
            have r11 := r10.updL x10.rd_ nRP (.lst ((rd.map V.int).set kk (.int (t + l.2.2))))
            generalize upd H10 RD (.lst ((rd.map V.int).set kk (.int (t + l.2.2)))) = H11 at x11 r11 ⊢
            have tb11 := x11.tks _ tb ns etb ens
            clear x10 r10
            refine ⟨_, rfl, _, rfl, TK, _, _, _, rfl, rfl, SqL.of x11.tk, atI_nat (by rw [List.getElem?_map, etb]; rfl), tb, rfl, ⟨_, SqL.of tb11⟩, fun D2 hD2 => ?_⟩
            refine lc_list (K := K) (a := tb) (xs := ns.map V.int) (fun i H' => Same H11 H' ∧ H' D2 = some (.lst (((ns.take i).filter fun x => decide (t < x)).map V.int))) ⟨same_upd hD2, upd_same⟩ (fun i H' _ ⟨s, _⟩ => SqL.of (s _ _ tb11)) ?_ ?_
            · rintro m x H12 hx12 ⟨s12, e12⟩
              obtain ⟨y, ey, rfl⟩ : ∃ y, ns[m]? = some y ∧ x = .int y := by
                rw [List.getElem?_map] at hx12
                cases e : ns[m]? with
                | none => rw [e] at hx12; cases hx12
                | some y => rw [e] at hx12; exact ⟨y, rfl, (Option.some.inj hx12).symm⟩
              have lf : ((ns.take m).filter fun x => decide (t < x)).length ≤ 3 := by
                have := List.length_filter_le (fun x => decide (t < x)) (ns.take m)
                rw [List.length_take] at this
                omega
              refine ⟨rfl, _, rfl, _, rfl, _, _, rfl, rfl, _, rfl, ?_⟩
              by_cases g : t < y
              · rw [decide_eq_true g]
                exact iteT ⟨_, rfl, _, e12, by rw [List.length_map]; exact line_lt (by omega), same_putX s12 hD2, by rw [upd_same, take_more ey, List.filter_append, List.filter_cons, if_pos (decide_eq_true g), List.map_append]; rfl⟩
              · rw [decide_eq_false g]
                exact iteF ⟨s12, by rw [e12, take_more ey, List.filter_append, List.filter_cons, if_neg (by rw [decide_eq_false g]; decide), List.filter_nil, List.append_nil]⟩
            rintro H12 ⟨s12, e12⟩
            rw [List.length_map, List.take_length] at e12
            have x12 := x11.same s12
            have r12 := r11.same s12
            clear x11 r11 tb11 hD2 s12
            refine ⟨_, rfl, _, rfl, _, rfl, ap, _, _, _, rfl, rfl, SqL.of (x12.but _ _ ep nap), atI_nat (by rw [List.getElem?_map, ebp]; rfl), _, rfl, bp, _, _, _, rfl, rfl, SqL.of (x12.but _ _ eqs nbp), atI_nat (by rw [List.getElem?_map, eqp]; rfl), qp, _, 1, _, rfl, rfl, SqT.of (x12.but _ _ fqp (nth2 fqp)), atI_nat (j := 1) rfl, _, _, rfl, rfl, by show 1 ≤ sizeLine; decide, fun u hu => ?_⟩
            have s13 : Same H12 (upd H12 u (.lst [.int (t + l.2.2)])) := same_upd hu
            have e13 : (upd H12 u (.lst [.int (t + l.2.2)])) u = some (.lst [.int (t + l.2.2)]) := upd_same
            have x13 := x12.same s13
            have r13 := r12.same s13
            have e12' := s13 _ _ e12
            generalize upd H12 u (.lst [.int (t + l.2.2)]) = H13 at s13 e13 x13 r13 e12' ⊢
            have lfl : (ns.filter fun x => decide (t < x)).length ≤ 2 := by omega
            refine ⟨D2, u, _, _, rfl, rfl, e12', e13, by rw [List.length_map]; exact line_le (by show _ + 1 ≤ _; omega), fun z hz => ?_⟩
            have s14 : Same H13 (upd H13 z (.lst ((ns.filter fun x => decide (t < x)).map V.int ++ [.int (t + l.2.2)]))) := same_upd hz
            have e14 : (upd H13 z (.lst ((ns.filter fun x => decide (t < x)).map V.int ++ [.int (t + l.2.2)]))) z = some (.lst (((ns.filter fun x => decide (t < x)) ++ [t + l.2.2]).map V.int)) := by rw [upd_same, List.map_append]; rfl
            have x14 := x13.same s14
            have r14 := r13.same s14
            have zz : z ∉ bs ∧ z ≠ RW ∧ z ≠ RD ∧ z ≠ TK ∧ z ≠ h := by
              refine ⟨fun w => ?_, (fun w => by rw [w, x13.rw] at hz; cases hz), (fun w => by rw [w, x13.rd_] at hz; cases hz), (fun w => by rw [w, x13.tk] at hz; cases hz), (x13.hand.ne hz).1⟩
              obtain ⟨m, hm, em⟩ := List.mem_iff_getElem.mp w
              have := x13.row m z _ (by rw [List.getElem?_eq_getElem hm, em]) (List.getElem?_eq_getElem (by rw [x13.lr]; exact hm))
              rw [this] at hz; cases hz
            generalize upd H13 z (.lst ((ns.filter fun x => decide (t < x)).map V.int ++ [.int (t + l.2.2)])) = H14 at s14 e14 x14 r14 ⊢
            have hjt : rd_ < ts.length := (List.getElem?_eq_some_iff.mp etb).1
            refine ⟨_, rfl, _, rfl, TK, _, _, _, rfl, rfl, x14.tk, ixN_nat (by rw [List.length_map]; exact hjt), ?_⟩
            have x15 := x14.tkset e14 hjt zz
            rw [List.map_set] at x15
            have r15 := r14.updL x14.tk nTP (.lst ((ts.map V.ref).set rd_ (.ref z)))
            generalize upd H14 TK (.lst ((ts.map V.ref).set rd_ (.ref z))) = H15 at x15 r15 ⊢
            have SP := SS.pass (rd_ := rd_) (u := t + l.2.2) el er hl1 t (ns' := (ns.filter fun x => decide (t < x)) ++ [t + l.2.2]) (by rw [List.length_append, List.length_singleton]; omega)
            have PQ := PP.pass (rd_ := rd_) (u := t + l.2.2) er (ns' := (ns.filter fun x => decide (t < x)) ++ [t + l.2.2]) (by omega) (List.mem_of_getElem? ens) fun y hy => by
              rcases List.mem_append.mp hy with hy | hy
              · exact .inl (List.mem_filter.mp hy).1
              · rw [List.mem_singleton] at hy; exact .inr (by omega)
            refine ⟨_, _, _, _, _, _, _, _, _, rfl, x15, r15, SP, PQ, fun k' hk' => ?_, fun z => absurd z (by omega)⟩
            · have nd := ndod.sublist (List.drop_sublist j od0)
              rw [hdr, List.nodup_cons] at nd
              rw [List.getElem?_set_ne (fun w => nd.1 (by rw [w]; exact hk'))]
              exact un' k' hk'
          · rintro σ' H8 ⟨p12, p13, p14, p15, p16, rows, rd, ts, tss, rfl, x8, r8, SS, PP, un, z0⟩
            rw [List.length_map, lLL] at PP
            exact ⟨_, _, _, _, _, _, _, _, _, rfl, x8, r8, SS, PP, fun z => z0 (by rw [List.length_map, lLL, z]; rfl)⟩
        rintro σ' H8 ⟨p12, p13, p14, p15, p16, rows, rd, ts, tss, rfl, x8, r8, SS, PP, z0⟩
        refine ⟨_, rfl, P, _, rfl, .inl (SqL.of r8.1), rfl, _, rfl, ?_⟩
        rw [int_eqd, List.length_map, lLL]
        by_cases g : od0.length = 0
        · rw [decide_eq_true (show ((od0.length : Nat) : Int) = 0 by omega)]
          have e0 := List.eq_nil_of_length_eq_zero g
          have ez := z0 e0
          subst ez
          refine iteT ⟨_, _, _, _, _, _, _, _, _, _, _, rfl, x8, by rw [S0.len, List.length_map], fun k l' r e1 e2 => ?_⟩
          obtain ⟨l, el, rfl⟩ : ∃ l, ls[k]? = some l ∧ l' = ltOf l := by
            rw [List.getElem?_map] at e1
            cases e : ls[k]? with
            | none => rw [e] at e1; cases e1
            | some l => rw [e] at e1; exact ⟨l, rfl, (Option.some.inj e1).symm⟩
          have h1 := S0.le k l r el e2
          refine Classical.byContradiction fun z => ?_
          have z : ¬ r.length = l.1.length := z
          have : k ∈ od0 := perm.mem_iff.mpr (List.mem_filter.mpr ⟨List.mem_range.mpr (List.getElem?_eq_some_iff.mp el).1, by
            unfold undoneS
            rw [List.getD_eq_getElem?_getD, e2, List.getD_eq_getElem?_getD, el]
            exact decide_eq_true (by show r.length < l.1.length; omega)⟩)
          rw [e0] at this
          cases this
        · rw [decide_eq_false (show ¬ ((od0.length : Nat) : Int) = 0 by omega)]
          obtain ⟨b1, B1, q1, q2, q3⟩ := PP.ends g hb1 hb2 hb3
          have htot := SS.tot_le
          refine iteF ⟨by omega, _, _, _, _, _, _, _, _, _, _, _, rfl, x8, SS, b1, B1, ?_, q2, q3⟩
          omega
      · rintro σ' H6 ⟨z, _⟩
        exact absurd z (by decide)
    rintro σ' H3 ⟨o10, o11, o12, o13, o14, o15, o16, rows, rd, ts', tss, rfl, x6, ok⟩
    obtain ⟨lrr, lkk⟩ := ltOf_len ok
    have lbr : bs.length = rows.length := x6.lr.symm
    refine ⟨_, rfl, RW, rfl, ⟨_, SqL.of x6.rw⟩, fun D1 hD1 => ?_⟩
    refine lc_list (K := K) (a := RW) (xs := bs.map V.ref) (fun i H' => Same H3 (fun b => if b = D1 then none else H' b) ∧ ∃ ys, H' D1 = some (.lst ys) ∧ RpA H' h ys ((rows.take i).map rowD))
      ⟨fun b o z => ?_, [], upd_same, by rw [List.take_zero]; exact .nil⟩ (fun i H' hi ⟨s, _⟩ => ?_) ?_ ?_
    · have nb := ne_of_none z hD1
      show (if b = D1 then none else upd H3 D1 _ b) = _
      rw [if_neg nb, upd_ne nb]; exact z
    · have z := s _ _ x6.rw
      simp only [if_neg (ne_of_none x6.rw hD1)] at z
      exact SqL.of z
    · rintro i x H' hx ⟨s, ys, hd, ra⟩
      have hi : i < bs.length := by
        have := (List.getElem?_eq_some_iff.mp hx).1
        rwa [List.length_map] at this
      have ex : x = .ref bs[i] := by
        rw [List.getElem?_map, List.getElem?_eq_getElem hi] at hx
        exact (Option.some.inj hx).symm
      subst ex
      have hir : i < rows.length := by rw [← lbr]; exact hi
      have e0 := x6.row i bs[i] rows[i] (List.getElem?_eq_getElem hi) (List.getElem?_eq_getElem hir)
      have e1 := s _ _ e0
      simp only [if_neg (ne_of_none e0 hD1)] at e1
      have l60' : ys.length ≤ 60 := by
        have := ra.len
        rw [List.length_map, List.length_take] at this
        have := lrr
        omega
      refine ⟨rfl, tyes ⟨_, rfl, bs[i], _, rfl, .inl ⟨SqL.of e1, fun l hl => ⟨ys, ?_, line_lt (by omega), fun b o z => ?_, ys ++ [.ref l], upd_same, ?_⟩⟩⟩⟩
      · have nl : l ≠ D1 := fun z => by subst z; rw [hd] at hl; cases hl
        rw [upd_ne nl.symm]; exact hd
      · have nb := ne_of_none z hD1
        have := s _ _ z
        simp only [if_neg nb] at this
        show (if b = D1 then none else upd (upd H' l _) D1 _ b) = _
        rw [if_neg nb, upd_ne nb, upd_ne (ne_of_none this hl)]
        exact this
      · have nl : l ≠ D1 := fun z => by subst z; rw [hd] at hl; cases hl
        rw [take_more (List.getElem?_eq_getElem hir), List.map_append]
        have s5 : Same H' (upd H' l (.tup (rows[i].map V.int))) := same_upd hl
        have e5 : (upd H' l (.tup (rows[i].map V.int))) D1 = some (.lst ys) := by rw [upd_ne nl.symm]; exact hd
        have hlen : rows[i].length ≤ 100000 := by
          have := lkk i _ _ (List.getElem?_eq_getElem (by rw [← lrr]; exact hir)) (List.getElem?_eq_getElem hir)
          have := (o.h _ (List.getElem_mem (show i < ls.length by rw [← lrr]; exact hir))).2.1
          omega
        have rb : Rp (upd H' l (.tup (rows[i].map V.int))) h (.ref l) (rowD rows[i]) := .tup upd_same (by rw [List.length_map]; exact hlen) (RpA.ints _)
        refine ((ra.nl (NL.of s5) (noL_rows _)).app (.cons rb .nil)).nl (NL.upd e5) ?_
        have := noL_rows (rows.take i ++ [rows[i]])
        rwa [List.map_append] at this
    · rintro H4 ⟨s, ys, hd, ra⟩
      have sm : Same H3 H4 := fun b o z => by
        have := s b o z
        simp only [if_neg (ne_of_none z hD1)] at this
        exact this
      rw [List.length_map, lbr, List.take_length] at ra
      refine ⟨_, _, rfl, .inl ⟨SqL.of hd, fun qq hqq => ?_⟩⟩
      have s5 : Same H4 (upd H4 qq (.tup ys)) := same_upd hqq
      have := ra.len
      rw [List.length_map, lrr] at this
      exact k (.ref qq) rows _ ((x6.hand.mono sm).mono s5) (b2.trans (x6.but.trans (But.of (sm.trans s5)))) (.tup upd_same (by omega) (ra.nl (NL.of s5) (noL_rows rows))) ok
end
end Hc


set_option Elab.async false
set_option linter.all false
set_option pp.maxSteps 900
set_option maxRecDepth 100000
set_option maxHeartbeats 4000000
set_option autoImplicit false
namespace Hc
open PySem L2
section
variable {P : Program} {w : World} {K : PySem.W.Frag} {mg : Str → Option Value} {base : Heap}
def spSzHours : Sp := fun vs H Q _ => ∃ (h c : Addr) (vr vl : V) (rds : List D) (ls : List Sl), vs = [.ref h, vr, vl] ∧ HandAt H h c ∧ Rp H h vr (.tup rds) ∧ noLs rds = true ∧ rds.length ≤ 24 ∧ Rp H h vl (slsD ls) ∧ SOk rds ls ∧ ls.length ≤ 30 ∧ (∀ l ∈ ls, l.2.1 ≤ 8) ∧ wTot (ls.map ltOf) ≤ 100 ∧
  ∀ vh rows H', HandAt H' h c → But h H H' → Rp H' h vh (rowsD rows) → LenOk (ls.map ltOf) rows → Q vh H'
theorem ok__law_sized_hours (T : Tx K mg) : FnOk P w K mg base CX0 3 T._law_sized_hours.f T._law_sized_hours.fd ["_law_hand_here", "_law_roads_here", "_law_letters"] spSzHours := by
  refine T._law_sized_hours.F.ok sc_law_sized_hours (fun vs H Q E h => ?_) (fun cdv A outer s H vs Q E hr h => ?_)
  · obtain ⟨_, _, _, _, _, _, rfl, _⟩ := h
    rfl
  · obtain ⟨h, c, vr, vl, rds, ls, rfl, hA, rr, nr, r24, rl, o, l30, c8, w100, k⟩ := h
    refine ⟨_, (C8.pss_cut (ps_setLc (i := 3) (own := [("_law_letter", 4)]) (g := (gName 4)) (tt := tYes) (te := (tLc (iTup K (tOp (rIxT K) (tVar 4) (tC (.int 0)))) (gName 5) tYes (tTup (tCons (tOp (rIxT K) (tVar 4) (tC (.int 2))) (tCons (tOp (rIxT K) (tVar 4) (tC (.int 2))) tNil))) (([("_law_road", 5)] : List (Str × Nat)).map (·.2)))) rfl sc_law_sized_hours.nd rfl rfl (sw_true rfl rfl rfl (by decide +kernel)) (pi_tup (pv 2)) (blkOk_by (own := [("_law_letter", 4)]) (N := ["_law_hand_here", "_law_roads_here", "_law_letters", "_law_pauses", "_law_letter", "_law_road"]) (sc := defScope s_law_sized_hours) (by decide +kernel)) (fun _ _ _ _ _ => (pg_name (i := 4) sc_law_sized_hours.nd rfl (Or.inr rfl))) (fun _ _ _ _ _ => pts_nil) (fun _ _ _ _ _ => (by exact (pe_lc (own := [("_law_road", 5)]) (g := (gName 5)) (tt := tYes) rfl sc_law_sized_hours.nd (pi_tup (pe_ix ix_tup (pv 4) pe_int (fun _ _ => rfl))) (blkOk_by (own := [("_law_road", 5)]) (N := ["_law_hand_here", "_law_roads_here", "_law_letters", "_law_pauses", "_law_letter", "_law_road"]) (sc := ({ kind := .function, names := [(".0", .local), ("_law_letter", .cell)], isGenerator := false, isCoroutine := false } : Scope)) (by decide +kernel)) (fun _ _ _ _ _ => (pg_name (i := 5) sc_law_sized_hours.nd rfl (Or.inl rfl))) (fun _ _ _ _ _ => pts_nil) (fun _ _ _ _ _ => (by exact (pe_tup (pa_cons (pe_ix ix_tup (pv 4) pe_int (fun _ _ => rfl)) (pa_cons (pe_ix ix_tup (pv 4) pe_int (fun _ _ => rfl)) pa_nil)))))))))
      (pss_one (ps_ret (pe_call (ok__law_led T) (hr.mono (by decide)) rfl T._law_led.g T._law_led.F.kp T._law_led.b .nil pass0 (pa_cons (pv 0) (pa_cons (pv 1) (pa_cons (pe_lc (own := [("_law_road", 5)]) (g := (gName 5)) (tt := tYes) (te := (tC (.int 1))) rfl sc_law_sized_hours.nd (pi_tup (pv 1)) (blkOk_by (own := [("_law_road", 5)]) (N := ["_law_hand_here", "_law_roads_here", "_law_letters", "_law_pauses", "_law_letter", "_law_road"]) (sc := defScope s_law_sized_hours) (by decide +kernel)) (fun _ _ _ _ _ => (pg_name (i := 5) sc_law_sized_hours.nd rfl (Or.inl rfl))) (fun _ _ _ _ _ => pts_nil) (fun _ _ _ _ _ => (by exact pe_int))) (pa_cons (pv 3) (pa_cons (pv 2) pa_nil))))))))), ?_⟩
    obtain ⟨q, xs, rfl, eq, lx, at_⟩ := sls_at rl
    obtain ⟨qr, xr, rfl, eqr, _, rxr⟩ := tup_inv rr
    have lxr := rxr.len
    refine ⟨fun σ' H' => ∃ ap : Addr, σ' = [some (.ref h), some (.ref qr), some (.ref q), some (.ref ap), none, none] ∧ Same H H' ∧ PausesS H' h ap ls, ?_, ?_⟩
    · refine ⟨_, rfl, q, rfl, ⟨_, SqT.of eq⟩, fun AP hAP => ?_⟩
      refine lc_tup (K := K) (a := q) (xs := xs) (fun i H' => ∃ bs : List Addr, Same H H' ∧ H' AP = some (.lst (bs.map V.ref)) ∧ bs.length = i ∧ ∀ (k : Nat) (b : Addr) (l : Sl), bs[k]? = some b → ls[k]? = some l → b ≠ h ∧ b ≠ AP ∧ ∃ qs : List Addr, H' b = some (.lst (qs.map V.ref)) ∧ qs.length = l.1.length ∧ ∀ (j : Nat) (q : Addr), qs[j]? = some q → H' q = some (.tup [.int l.2.2, .int l.2.2]))
        ⟨[], same_upd hAP, upd_same, rfl, fun k b l e => by simp at e⟩ (fun i H' _ ⟨_, s, _⟩ => SqT.of (s _ _ eq)) ?_ ?_
      · rintro i x H6 hx ⟨bs, s6, e6, l6, f6⟩
        have hi : i < xs.length := (List.getElem?_eq_some_iff.mp hx).1
        have el : ls[i]? = some (ls[i]'(by omega)) := List.getElem?_eq_getElem (by omega)
        obtain ⟨x', ex', rx⟩ := at_ i _ el
        rw [hx] at ex'
        cases ex'
        obtain ⟨ql, al, rfl, eql, eal⟩ := sl_inv rx
        generalize ls[i]'(by omega) = l at el eql eal
        obtain ⟨_, l8, oo3, _⟩ := o.h l (List.mem_of_getElem? el)
        refine ⟨rfl, tyes ⟨_, rfl, ql, _, 0, .ref al, rfl, rfl, SqT.of (s6 _ _ eql), atI_nat (j := 0) rfl, al, rfl, ⟨_, SqT.of (s6 _ _ eal)⟩, fun D hD => ?_⟩⟩
        refine lc_tup (K := K) (a := al) (xs := l.1.map fun j => V.int (j : Nat)) (fun j H' => ∃ qs : List Addr, Same H6 H' ∧ H' D = some (.lst (qs.map V.ref)) ∧ qs.length = j ∧ ∀ (m : Nat) (q : Addr), qs[m]? = some q → H' q = some (.tup [.int l.2.2, .int l.2.2])) ⟨[], same_upd hD, upd_same, rfl, fun m q e => by simp at e⟩ (fun j H' _ ⟨_, s, _⟩ => SqT.of (s _ _ (s6 _ _ eal))) ?_ ?_
        · rintro j x H7 hx7 ⟨qs, s7, e7, l7, f7⟩
          have hj : j < l.1.length := by
            have := (List.getElem?_eq_some_iff.mp hx7).1
            rwa [List.length_map] at this
          refine ⟨rfl, tyes ⟨_, rfl, ql, _, 2, _, rfl, rfl, SqT.of (s7 _ _ (s6 _ _ eql)), atI_nat (j := 2) rfl, _, rfl, ql, _, 2, _, rfl, rfl, SqT.of (s7 _ _ (s6 _ _ eql)), atI_nat (j := 2) rfl, by show 2 ≤ sizeLine; decide, fun u hu => ?_⟩⟩
          have nuD : u ≠ D := fun z => by rw [z, e7] at hu; cases hu
          refine ⟨_, (upd_ne nuD.symm).trans e7, by rw [List.length_map]; exact line_lt (by omega), qs ++ [u], same_putX (s7.trans (same_upd hu)) hD, by rw [upd_same, List.map_append]; rfl, by rw [List.length_append, l7]; rfl, fun m q' e => ?_⟩
          by_cases g : m < qs.length
          · rw [List.getElem?_append_left g] at e
            have := f7 m q' e
            rw [upd_ne (fun z => by rw [z, e7] at this; cases this), upd_ne (fun z => by rw [z, hu] at this; cases this)]
            exact this
          · have hm : m = qs.length := by
              have := (List.getElem?_eq_some_iff.mp e).1
              rw [List.length_append, List.length_singleton] at this
              omega
            subst hm
            rw [List.getElem?_append_right (Nat.le_refl _), Nat.sub_self] at e
            cases e
            rw [upd_ne nuD, upd_same]
        rintro H7 ⟨qs, s7, e7, l7, f7⟩
        rw [List.length_map] at l7
        have nDA : D ≠ AP := fun z => by rw [z, e6] at hD; cases hD
        have e6' := s7 _ _ e6
        refine ⟨_, e6', by rw [List.length_map]; exact line_lt (by omega), bs ++ [D], same_putX (s6.trans s7) hAP, by rw [upd_same, List.map_append]; rfl, by rw [List.length_append, l6]; rfl, fun m b l' e1 e2 => ?_⟩
        have fin : ∀ {b : Addr} {l : Sl} {qs : List Addr}, b ≠ AP → H7 b = some (.lst (qs.map V.ref)) → (∀ (j : Nat) (q : Addr), qs[j]? = some q → H7 q = some (.tup [.int l.2.2, .int l.2.2])) →
            (upd H7 AP (.lst (bs.map V.ref ++ [.ref D]))) b = some (.lst (qs.map V.ref)) ∧ ∀ (j : Nat) (q : Addr), qs[j]? = some q → (upd H7 AP (.lst (bs.map V.ref ++ [.ref D]))) q = some (.tup [.int l.2.2, .int l.2.2]) := fun n e f =>
          ⟨by rw [upd_ne n]; exact e, fun j q eq => by rw [upd_ne (fun z => by have := f j q eq; rw [z, e6'] at this; cases this)]; exact f j q eq⟩
        by_cases g : m < bs.length
        · rw [List.getElem?_append_left g] at e1
          obtain ⟨m1, m2, qs', h1, h2, h3⟩ := f6 m b l' e1 e2
          obtain ⟨z1, z2⟩ := fin (l := l') m2 (s7 _ _ h1) (fun j q e => s7 _ _ (h3 j q e))
          exact ⟨m1, m2, qs', z1, h2, z2⟩
        · have hm : m = bs.length := by
            have := (List.getElem?_eq_some_iff.mp e1).1
            rw [List.length_append, List.length_singleton] at this
            omega
          subst hm
          rw [List.getElem?_append_right (Nat.le_refl _), Nat.sub_self] at e1
          cases e1
          rw [l6, el] at e2
          cases e2
          obtain ⟨z1, z2⟩ := fin (l := l) nDA e7 f7
          exact ⟨((hA.mono s6).ne hD).1, nDA, qs, z1, l7, z2⟩
      rintro H6 ⟨bs, s6, e6, l6, f6⟩
      exact ⟨AP, rfl, s6, (hA.ne hAP).1, bs, e6, by omega, fun k b l e1 e2 => by
        obtain ⟨m1, _, qs', h1, h2, h3⟩ := f6 k b l e1 e2
        exact ⟨m1, qs', h1, h2, h3⟩⟩
    rintro σ' H1 ⟨ap, rfl, s1, pz⟩
    refine ⟨_, rfl, _, rfl, _, rfl, qr, rfl, ⟨_, SqT.of (s1 _ _ eqr)⟩, fun D hD => ?_⟩
    refine lc_tup (K := K) (a := qr) (xs := xr) (fun i H' => Same H1 H' ∧ H' D = some (.lst ((List.replicate i (1 : Int)).map V.int))) ⟨same_upd hD, upd_same⟩ (fun i H' _ ⟨s, _⟩ => SqT.of (s _ _ (s1 _ _ eqr))) ?_ ?_
    · rintro i x H2 hx ⟨s2, e2⟩
      have hi : i < xr.length := (List.getElem?_eq_some_iff.mp hx).1
      refine ⟨rfl, tyes ⟨_, e2, by rw [List.length_map, List.length_replicate]; exact line_lt (by omega), same_putX s2 hD, ?_⟩⟩
      rw [upd_same, List.replicate_succ', List.map_append]; rfl
    rintro H2 ⟨s2, e2⟩
    have s12 := s1.trans s2
    rw [lxr] at e2
    refine ⟨_, rfl, _, rfl, h, c, ap, D, .ref qr, .ref q, rds, ls, rfl, hA.mono s12, rr.same s12, nr, r24, e2, ((hA.mono s1).ne hD).1, pz.but (But.of s2) (hA.mono s1), rl.same s12, o, l30, c8, w100, fun vh rows H' hA' b' r' ok => ?_⟩
    exact k vh rows H' hA' ((But.of s12).trans b') r' ok
def spSzLetters : Sp := fun vs H Q _ => ∃ (h c : Addr) (v : V) (n : Int) (rds : List D) (m : Nat) (mo : Int), vs = [.ref h, v, .int (m : Nat), .int mo] ∧ HandAt H h c ∧ RdL H h v n rds ∧ m ≤ 30 ∧ 1 ≤ mo ∧ mo ≤ 8 ∧
  ∀ v' ls H', HandAt H' h c → But h H H' → Rp H' h v' (slsD ls) → ls.length = m → SOk rds ls → (∀ l ∈ ls, l.2.1 ≤ 8 ∧ (l.1.length : Int) ≤ mo) → Q v' H'
theorem ok__law_sized_letters (T : Tx K mg) : FnOk P w K mg base CX0 3 T._law_sized_letters.f T._law_sized_letters.fd ["_law_hand_here", "_law_roads_here", "_law_many", "_law_most"] spSzLetters := by
  refine T._law_sized_letters.F.ok sc_law_sized_letters (fun vs H Q E h => ?_) (fun cdv A outer s H vs Q E hr h => ?_)
  · obtain ⟨_, _, _, _, _, _, _, rfl, _⟩ := h
    rfl
  · obtain ⟨h, c, v, n, rds, m, mo, rfl, hA, W, hm, s0, s1, k⟩ := h
    refine ⟨_, (pss_cons (ps_set (i := 4) sc_law_sized_letters.nd rfl (Or.inl rfl) (pe_lst pa_nil))
      (pss_cons (ps_for PassesOwn.never rfl (pi_range1 (by rfl) T.n_range (pa_cons (pv 2) pa_nil)) (pg_name (i := 5) sc_law_sized_letters.nd rfl (Or.inl rfl))
      (pss_cons (ps_set (i := 6) sc_law_sized_letters.nd rfl (Or.inl rfl) (pe_call (ok__law_way T) (hr.mono (by decide)) rfl T._law_way.g T._law_way.F.kp T._law_way.b .nil pass0 (pa_cons (pv 0) (pa_cons (pv 1) (pa_cons (pv 3) pa_nil)))))
      (pss_one (ps_expr (pe_bm PySem.F.plainAttrs_list PySem.F.slot_list_append PySem.F.type_list_append mt_append (pv 4) (pa_cons (pe_tup (pa_cons (pv 6) (pa_cons (pe_op op_add pe_int (pe_call (ok__law_draw T) (hr.mono (by decide)) rfl T._law_draw.g T._law_draw.F.kp T._law_draw.b .nil pass0 (pa_cons (pv 0) (pa_cons pe_int pa_nil)))) (pa_cons (pe_op op_add pe_int (pe_call (ok__law_draw T) (hr.mono (by decide)) rfl T._law_draw.g T._law_draw.F.kp T._law_draw.b .nil pass0 (pa_cons (pv 0) (pa_cons pe_int pa_nil)))) pa_nil)))) pa_nil))))))
      (pss_one (ps_ret (pe_callTy call_tuple_of (by rfl) T.n_tuple (by decide +kernel) (pa_cons (pv 4) pa_nil)))))), ?_⟩
    refine ⟨by show 0 ≤ sizeLine; decide, fun D1 hD1 => ?_⟩
    obtain ⟨d1, d2⟩ := hA.ne hD1
    refine ⟨_, rfl, (m : Int), rfl, by omega, by omega, ?_⟩
    rw [Int.toNat_natCast]
    refine for_range (lo := 0) (n := m) (fun i σ' H' => ∃ (o5 o6 : Option V) (xs : List V) (ls : List Sl), σ' = [some (.ref h), some v, some (.int (m : Nat)), some (.int mo), some (.ref D1), o5, o6] ∧ HandAt H' h c ∧ But h H H' ∧ H' D1 = some (.lst xs) ∧ RpA H' h xs (ls.map slD) ∧ ls.length = i ∧ SOk rds ls ∧ ∀ l ∈ ls, l.2.1 ≤ 8 ∧ (l.1.length : Int) ≤ mo)
      ⟨_, _, [], [], rfl, hA.upd d1 d2, (But.refl h H).updN hD1, upd_same, .nil, rfl, ⟨fun _ z => nomatch z⟩, fun _ z => nomatch z⟩ ?_ ?_
    · rintro i σ' H1 hi ⟨o5, o6, xs, ls, rfl, hA1, b1, e1, r1, l1, o1, o2⟩
      refine ⟨_, rfl, _, rfl, _, rfl, h, c, v, n, rds, mo, rfl, hA1, W.nl (b1.nl hA.lst), by omega, by omega, fun v2 ns H2 hA2 b2 r2 n1 n2 n3 n4 => ?_⟩
      have e2' := b2 _ _ e1 d1
      refine ⟨_, rfl, .inl ⟨rfl, _, SqL.of e2'⟩, _, rfl, _, rfl, h, c, 8, rfl, hA2, by decide, by decide, fun y H3 y0 y1 hA3 b3 => ⟨_, _, rfl, rfl, _, rfl, h, c, 2, rfl, hA3, by decide, by decide, fun z H4 z0 z1 hA4 b4 => ⟨_, _, rfl, rfl, by show 3 ≤ sizeLine; decide, fun q hq => ?_⟩⟩⟩
      have b24 := b3.trans b4
      have s4 : Same H4 (upd H4 q (.tup [v2, .int (1 + y), .int (1 + z)])) := same_upd hq
      have e5 : (upd H4 q (.tup [v2, .int (1 + y), .int (1 + z)])) q = some (.tup [v2, .int (1 + y), .int (1 + z)]) := upd_same
      have hA5 := hA4.mono s4
      generalize upd H4 q (.tup [v2, .int (1 + y), .int (1 + z)]) = H5 at s4 e5 hA5 ⊢
      have e4 := s4 _ _ (b24 _ _ e2' d1)
      have lx := r1.len
      have lm : (ls.map slD).length = i := by rw [List.length_map]; exact l1
      refine ⟨D1, xs, _, rfl, rfl, e4, line_lt (by omega), ?_⟩
      refine ⟨_, _, xs ++ [.ref q], ls ++ [(ns, 1 + y, 1 + z)], rfl, hA5.upd d1 d2, (b1.trans (b2.trans (b24.trans (But.of s4)))).updN hD1, upd_same, ?_, by rw [List.length_append, l1]; rfl, ⟨fun l hl => ?_⟩, fun l hl => ?_⟩
      · rw [List.map_append]
        have ra := ((r1.nl (b2.nl hA1.lst) (noL_sls ls)).nl (b24.nl hA2.lst) (noL_sls ls)).nl (NL.of s4) (noL_sls ls)
        have rb : Rp H5 h (.ref q) (slD (ns, 1 + y, 1 + z)) := .tup e5 (by simp) (.cons ((r2.nl (b24.nl hA2.lst) (noL_nD ns)).nl (NL.of s4) (noL_nD ns)) (.cons (.int _) (.cons (.int _) .nil)))
        have rc := ra.app (.cons rb .nil)
        refine rc.nl (NL.upd e4) ?_
        have := noL_sls (ls ++ [(ns, 1 + y, 1 + z)])
        rwa [List.map_append] at this
      · rcases List.mem_append.mp hl with hl | hl
        · exact o1.h l hl
        · rw [List.mem_singleton] at hl; subst hl
          refine ⟨n1, by show ns.length ≤ 8; omega, n3, n4, by show 1 ≤ 1 + y; omega, by show 1 + y ≤ 1000000; omega, ?_⟩
          show 1 + z = 1 ∨ 1 + z = 2
          omega
      · rcases List.mem_append.mp hl with hl | hl
        · exact o2 l hl
        · rw [List.mem_singleton] at hl; subst hl
          exact ⟨by show 1 + y ≤ 8; omega, n2⟩
    · rintro σ' H1 ⟨o5, o6, xs, ls, rfl, hA1, b1, e1, r1, l1, o1, o2⟩
      refine ⟨_, rfl, D1, xs, rfl, .inl ⟨SqL.of e1, fun q hq => ?_⟩⟩
      have s4 : Same H1 (upd H1 q (.tup xs)) := same_upd hq
      have lx := r1.len
      rw [List.length_map] at lx
      exact k (.ref q) ls _ (hA1.mono s4) (b1.trans (But.of s4)) (.tup upd_same (by omega) (r1.nl (NL.of s4) (noL_sls ls))) l1 o1 o2
theorem ok__law_flag (T : Tx K mg) : FnOk P w K mg base CX0 1 T._law_flag.f T._law_flag.fd ["_law_told_here", "_law_due"] spFlag := by
  refine T._law_flag.F.ok sc_law_flag (fun vs H Q E h => ?_) (fun cdv A outer s H vs Q E hr h => ?_)
  · obtain ⟨_, _, rfl, _⟩ := h
    rfl
  · obtain ⟨a, b, rfl, k⟩ := h
    refine ⟨_, (pss_one (ps_ret (pe_and (pe_callB call_isi (by rfl) T.n_isinstance (by decide +kernel) (pa_cons (pv 0) (pa_cons (pe_bltn (v := .ty "bool") (by rfl) T.n_bool (by decide +kernel) rfl) pa_nil))) (pe_one (pe_cmpR op_eq (pv 0) (pv 1) (nomark _)))))), ?_⟩
    exact ⟨_, rfl, _, _, _, _, _, rfl, .ty "bool", .base (.bl a), kit_ty (show kitB "bool" "bool" = some true by decide +kernel), _, rfl, iteT ⟨_, rfl, _, rfl, rfl, k⟩⟩
end
end Hc


set_option Elab.async false
set_option linter.all false
set_option pp.maxSteps 900
set_option maxRecDepth 100000
set_option maxHeartbeats 4000000
set_option autoImplicit false
namespace Hc
open PySem L2
def wayFew (d : D) : Prop := ∀ l : Sl, d = slD l → l.1.length ≤ 5
def fewL (d : D) : Prop := ∀ ls : List Sl, d = slsD ls → ls.length ≤ 60 → ls.length ≤ 5 ∧ ∀ l ∈ ls, l.1.length ≤ 5
theorem slD_inj {a b : Sl} (h : slD a = slD b) : a = b := by
  have := sls_inj (a := [a]) (b := [b]) (by rw [List.map_cons, List.map_cons, h])
  exact (List.cons.inj this).1
theorem cut_head (ds : List D) {a : Nat} (h : a ≤ ds.length) : cutD ds none (some (a : Int)) = ds.take a := by
  have s1 : HT.sIx ds.length 0 none = 0 := rfl
  have s2 : HT.sIx ds.length ds.length (some (a : Int)) = a := by
    show (if (a : Int) < 0 then ((a : Int) + (ds.length : Int)).toNat else min (a : Int).toNat ds.length) = _
    rw [if_neg (by omega)]; omega
  unfold cutD
  rw [s1, s2, List.drop_zero, Nat.sub_zero]
theorem cut_tail (ds : List D) {a : Nat} (h : a < ds.length) : cutD ds (some ((a : Int) + 1)) none = ds.drop (a + 1) := by
  have s1 : HT.sIx ds.length 0 (some ((a : Int) + 1)) = a + 1 := by
    show (if ((a : Int) + 1) < 0 then (((a : Int) + 1) + (ds.length : Int)).toNat else min ((a : Int) + 1).toNat ds.length) = _
    rw [if_neg (by omega)]; omega
  have s2 : HT.sIx ds.length ds.length none = ds.length := rfl
  unfold cutD
  rw [s1, s2, List.take_of_length_le (by rw [List.length_drop]; exact Nat.le_refl _)]
theorem fewL_put {ls : List Sl} (h5 : ls.length ≤ 5) (hw : ∀ l ∈ ls, l.1.length ≤ 5) {a : Nat} (ha : a < ls.length) {d : D} (hd : wayFew d) : fewL (.tup (cutD (ls.map slD) none (some (a : Int)) ++ [d] ++ cutD (ls.map slD) (some ((a : Int) + 1)) none)) := by
  intro ls' e _
  have e := D.tup.inj e
  rw [cut_head _ (by rw [List.length_map]; omega), cut_tail _ (by rw [List.length_map]; exact ha)] at e
  have el := congrArg List.length e
  rw [List.length_append, List.length_append, List.length_take, List.length_drop, List.length_map, List.length_map, List.length_singleton] at el
  refine ⟨by omega, fun l hl => ?_⟩
  have hm : slD l ∈ ls'.map slD := List.mem_map.mpr ⟨l, hl, rfl⟩
  rw [← e] at hm
  have old : slD l ∈ ls.map slD → l.1.length ≤ 5 := fun h => by
    obtain ⟨l0, h0, h1⟩ := List.mem_map.mp h
    rw [← slD_inj h1]
    exact hw l0 h0
  rcases List.mem_append.mp hm with hm | hm
  · rcases List.mem_append.mp hm with hm | hm
    · exact old (List.mem_of_mem_take hm)
    · exact hd l (List.mem_singleton.mp hm).symm
  · exact old (List.mem_of_mem_drop hm)
theorem fewL_no {d : D} (h : ∀ ds, d ≠ .tup ds) : fewL d := fun ls e => absurd e (h _)
theorem fewL_tail {ds : List D} {d : D} (hm : d ∈ ds) (h : ∀ l, d ≠ slD l) : fewL (.tup ds) := fun ls e => by
  have e := D.tup.inj e
  rw [e] at hm
  obtain ⟨l, _, hl⟩ := List.mem_map.mp hm
  exact absurd hl.symm (h l)
theorem fewL_long {ds : List D} (h : 60 < ds.length) : fewL (.tup ds) := fun ls e l60 => by
  have e := congrArg List.length (D.tup.inj e)
  rw [List.length_map] at e
  omega
theorem fewL_of {ls : List Sl} (h5 : ls.length ≤ 5) (hw : ∀ l ∈ ls, l.1.length ≤ 5) : fewL (slsD ls) := fun ls' e _ => by
  have := sls_inj (D.tup.inj e)
  subst this
  exact ⟨h5, hw⟩
theorem prs_few {ls : List Sl} {rows : List (List Int)} {rds : List D} (o : SOk rds ls) (h5 : ls.length ≤ 5) (hw : ∀ l ∈ ls, l.1.length ≤ 5) : (prs ls rows).length < 64 := by
  have := flat_len (f := fun p : Sl × List Int => prsOf p.1 p.2) (c := 10) (ls.zip rows) fun p hp => by
    have hm := List.of_mem_zip (a := p.1) (b := p.2) hp
    have h1 := prsOf_len (r := p.2) (o.h p.1 hm.1).2.2.2.2.2.2
    have h2 := hw p.1 hm.1
    rw [List.length_zip] at h1
    omega
  have hz := List.length_zip (l₁ := ls) (l₂ := rows)
  show ((ls.zip rows).flatMap fun p => prsOf p.1 p.2).length < 64
  omega
section
variable {P : Program} {w : World} {K : PySem.W.Frag} {mg : Str → Option Value} {base : Heap}
def spOddS : Sp := fun vs H Q _ => ∃ (h c : Addr), vs = [.ref h] ∧ HandAt H h c ∧ ∀ v d H', HandAt H' h c → But h H H' → Rp H' h v d → (∀ ts, d = .tup ts → ts.length ≤ 5) → Q v H'
theorem ok__law_odd (T : Tx K mg) : FnOk P w K mg base CX0 2 T._law_odd.f T._law_odd.fd ["_law_hand_here"] spOddS := by
  refine T._law_odd.F.ok sc_law_odd (fun vs H Q E h => ?_) (fun cdv A outer s H vs Q E hr h => ?_)
  · obtain ⟨_, _, rfl, _⟩ := h
    rfl
  · obtain ⟨h, c, rfl, hA, k⟩ := h
    refine ⟨_, (pss_cons (ps_set (i := 1) sc_law_odd.nd rfl (Or.inl rfl) (pe_lst (pa_cons pe_non (pa_cons pe_bl (pa_cons pe_str (pa_cons pe_int (pa_cons (pe_un un_neg pe_int) (pa_cons pe_int (pa_cons (pe_op op_add (pe_op op_pow pe_int pe_int) pe_int) (pa_cons (pe_tup pa_nil) (pa_cons (pe_lst (pa_cons pe_int pa_nil)) (pa_cons (pe_tup (pa_cons pe_int (pa_cons pe_int pa_nil))) (pa_cons pe_dnewK (pa_cons (pe_op op_pow pe_int pe_int) pa_nil))))))))))))))
      (pss_one (ps_ret (pe_ix ix_list (pv 1) (pe_call (ok__law_draw T) (hr.mono (by decide)) rfl T._law_draw.g T._law_draw.F.kp T._law_draw.b .nil pass0 (pa_cons (pv 0) (pa_cons (pe_callB call_len_seq (by rfl) T.n_len (by decide +kernel) (pa_cons (pv 1) pa_nil)) pa_nil))) (fun _ _ => rfl))))), ?_⟩
    refine ⟨_, rfl, _, _, rfl, rfl, by unfold CPow; decide, _, _, rfl, rfl, by show 0 ≤ sizeLine; decide, fun t0 ht0 => ?_⟩
    obtain ⟨s2, e2, n2, _, p2⟩ := new_facts (o := .tup []) hA ht0 rfl
    generalize upd H t0 (.tup []) = H2 at s2 e2 p2 ⊢
    refine ⟨by show 1 ≤ sizeLine; decide, fun l1 hl1 => ?_⟩
    obtain ⟨s3, e3, n3, _, p3⟩ := new_facts (o := .lst [.int 1]) p2 hl1 rfl
    generalize upd H2 l1 (.lst [.int 1]) = H3 at s3 e3 p3 ⊢
    refine ⟨by show 2 ≤ sizeLine; decide, fun t2 ht2 => ?_⟩
    obtain ⟨s4, e4, n4, _, p4⟩ := new_facts (o := .tup [.int 1, .int 2]) p3 ht2 rfl
    generalize upd H3 t2 (.tup [.int 1, .int 2]) = H4 at s4 e4 p4 ⊢
    refine fun dd hdd => ?_
    obtain ⟨s5, e5, n5, _, p5⟩ := new_facts (o := .dK []) p4 hdd rfl
    generalize upd H4 dd (.dK []) = H5 at s5 e5 p5 ⊢
    refine ⟨_, _, rfl, rfl, by unfold CPow; decide, by show 12 ≤ sizeLine; decide, fun l hl => ?_⟩
    obtain ⟨s6, e6, n6, _, p6⟩ := new_facts (o := .lst [.non, .bl true, .str "1", .int 0, .int (-1), .int 3, .int (10 ^ (6 : Int).toNat + 1), .ref t0, .ref l1, .ref t2, .ref dd, .int (10 ^ (30 : Int).toNat)]) p5 hl rfl
    generalize hE : upd H5 l _ = H6
    have hE' : upd H5 l (.lst [.non, .bl true, .str "1", .int 0, .int (-1), .int 3, .int (10 ^ (6 : Int).toNat + 1), .ref t0, .ref l1, .ref t2, .ref dd, .int (10 ^ (30 : Int).toNat)]) = H6 := hE
    rw [hE'] at s6 e6 p6
    refine ⟨_, rfl, _, rfl, _, rfl, l, _, rfl, .inl (SqL.of e6), h, c, 12, rfl, p6, by decide, by decide, fun z H7 z0 z1 p7 b7 => ?_⟩
    have e7 := b7 _ _ e6 n6
    have b06 : But h H H6 := But.of ((((s2.trans s3).trans s4).trans s5).trans s6)
    have q0 : Rp H7 h (.ref t0) (.tup []) := (Rp.tup (s6 _ _ (s5 _ _ (s4 _ _ (s3 _ _ e2)))) (by simp) .nil : Rp H6 h (.ref t0) (.tup [])).monoB b7 p6
    have q1 : Rp H7 h (.ref l1) .lst := (Rp.lst (s6 _ _ (s5 _ _ (s4 _ _ e3))) n3 : Rp H6 h (.ref l1) .lst).monoB b7 p6
    have q2 : Rp H7 h (.ref t2) (.tup [.int 1, .int 2]) := (Rp.tup (s6 _ _ (s5 _ _ e4)) (by simp) (.cons (.int _) (.cons (.int _) .nil)) : Rp H6 h (.ref t2) (.tup [.int 1, .int 2])).monoB b7 p6
    have q3 : Rp H7 h (.ref dd) .dct := (Rp.dct (s6 _ _ e5) : Rp H6 h (.ref dd) .dct).monoB b7 p6
    have ra : RpA H7 h [.non, .bl true, .str "1", .int 0, .int (-1), .int 3, .int (10 ^ (6 : Int).toNat + 1), .ref t0, .ref l1, .ref t2, .ref dd, .int (10 ^ (30 : Int).toNat)] [.non, .bl true, .str "1", .int 0, .int (-1), .int 3, .int (10 ^ (6 : Int).toNat + 1), .tup [], .lst, .tup [.int 1, .int 2], .dct, .int (10 ^ (30 : Int).toNat)] :=
      .cons .non (.cons (.bl _) (.cons (.str _) (.cons (.int _) (.cons (.int _) (.cons (.int _) (.cons (.int _) (.cons q0 (.cons q1 (.cons q2 (.cons q3 (.cons (.int _) .nil)))))))))))
    obtain ⟨v, d, h1, h2, h3⟩ := ra.of z0 z1
    refine ⟨l, _, _, v, rfl, rfl, SqL.of e7, h1, k v d H7 p7 (b06.trans b7) h3 fun ts e => ?_⟩
    subst e
    simp only [List.mem_cons, List.not_mem_nil, or_false, reduceCtorEq, false_or, D.tup.injEq] at h2
    rcases h2 with rfl | rfl <;> simp
end
end Hc


set_option Elab.async false
set_option linter.all false
set_option pp.maxSteps 900
set_option maxRecDepth 100000
set_option maxHeartbeats 4000000
set_option autoImplicit false
namespace Hc
open PySem L2
theorem RpA.repS {H : Hp} {h : Addr} {v : V} {d : D} (r : Rp H h v d) : ∀ n : Nat, RpA H h (List.replicate n v) (List.replicate n d)
  | 0 => .nil
  | n + 1 => by rw [List.replicate_succ, List.replicate_succ]; exact .cons r (RpA.repS r n)
theorem flat_one {α : Type} (x : α) : ∀ n : Nat, (List.replicate n [x]).flatten = List.replicate n x
  | 0 => rfl
  | n + 1 => by rw [List.replicate_succ, List.flatten_cons, flat_one x n, List.replicate_succ]; rfl
section
variable {P : Program} {w : World} {K : PySem.W.Frag} {mg : Str → Option Value} {base : Heap}
def spSpLetters : Sp := fun vs H Q _ => ∃ (h c : Addr) (v vl : V) (n : Int) (rds : List D) (ls : List Sl), vs = [.ref h, v, vl] ∧ HandAt H h c ∧ RdL H h v n rds ∧ Rp H h vl (slsD ls) ∧ ls.length ≤ 5 ∧ (∀ l ∈ ls, 1 ≤ l.1.length ∧ l.1.length ≤ 5) ∧
  ∀ x d H', HandAt H' h c → But h H H' → Rp H' h x d → fewL d → Q x H'
theorem ok__law_spoiled_letters (T : Tx K mg) : FnOk P w K mg base CX0 3 T._law_spoiled_letters.f T._law_spoiled_letters.fd ["_law_hand_here", "_law_roads_here", "_law_letters"] spSpLetters := by
  refine T._law_spoiled_letters.F.ok sc_law_spoiled_letters (fun vs H Q E h => ?_) (fun cdv A outer s H vs Q E hr h => ?_)
  · obtain ⟨_, _, _, _, _, _, _, rfl, _⟩ := h
    rfl
  · obtain ⟨h, c, v, vl, n, rds, ls, rfl, hA, W, rl, l5, hw, k⟩ := h
    have hw5 : ∀ l ∈ ls, l.1.length ≤ 5 := fun l hl => (hw l hl).2
    refine ⟨_, (pss_cons (ps_set (i := 3) sc_law_spoiled_letters.nd rfl (Or.inl rfl) (pe_call (ok__law_draw T) (hr.mono (by decide)) rfl T._law_draw.g T._law_draw.F.kp T._law_draw.b .nil pass0 (pa_cons (pv 0) (pa_cons pe_int pa_nil))))
      (pss_cons (ps_if (PW.pt (pw_or (pt_cmpR op_eq (pv 3) pe_int (nomark _)) (pw_or1 (pt_cmpR op_eq (pe_callB call_len_seq (by rfl) T.n_len (by decide +kernel) (pa_cons (pv 2) pa_nil)) pe_int (nomark _)))))
      (pss_one (ps_ret (pe_ix ix_list (pe_lst (pa_cons (pe_callTy call_list_of (by rfl) T.n_list (by decide +kernel) (pa_cons (pv 2) pa_nil)) (pa_cons pe_non (pa_cons (pe_op op_catA (pv 2) (pe_tup (pa_cons pe_non pa_nil))) (pa_cons (pe_op op_catA (pv 2) (pe_op op_repA (pe_tup (pa_cons (pe_tup (pa_cons (pe_tup (pa_cons pe_int pa_nil)) (pa_cons pe_int (pa_cons pe_int pa_nil)))) pa_nil)) pe_int)) pa_nil))))) (pe_call (ok__law_draw T) (hr.mono (by decide)) rfl T._law_draw.g T._law_draw.F.kp T._law_draw.b .nil pass0 (pa_cons (pv 0) (pa_cons pe_int pa_nil))) (fun _ _ => rfl))))
      pss_nil)
      (pss_cons (ps_set (i := 4) sc_law_spoiled_letters.nd rfl (Or.inl rfl) (pe_call (ok__law_draw T) (hr.mono (by decide)) rfl T._law_draw.g T._law_draw.F.kp T._law_draw.b .nil pass0 (pa_cons (pv 0) (pa_cons (pe_callB call_len_seq (by rfl) T.n_len (by decide +kernel) (pa_cons (pv 2) pa_nil)) pa_nil))))
      (pss_cons (ps_set (i := 5) sc_law_spoiled_letters.nd rfl (Or.inl rfl) (pe_ix ix_tup (pv 2) (pv 4) (fun _ _ => rfl)))
      (pss_cons (ps_if (pt_cmpR op_lt (pv 3) pe_int (nomark _))
      (pss_one (ps_ret (pe_call (ok__law_put T) (hr.mono (by decide)) rfl T._law_put.g T._law_put.F.kp T._law_put.b .nil pass0 (pa_cons (pv 2) (pa_cons (pv 4) (pa_cons (pe_call (ok__law_put T) (hr.mono (by decide)) rfl T._law_put.g T._law_put.F.kp T._law_put.b .nil pass0 (pa_cons (pv 5) (pa_cons (pe_call (ok__law_draw T) (hr.mono (by decide)) rfl T._law_draw.g T._law_draw.F.kp T._law_draw.b .nil pass0 (pa_cons (pv 0) (pa_cons pe_int pa_nil))) (pa_cons (pe_call (ok__law_odd T) (hr.mono (by decide)) rfl T._law_odd.g T._law_odd.F.kp T._law_odd.b .nil pass0 (pa_cons (pv 0) pa_nil)) pa_nil)))) pa_nil))))))
      pss_nil)
      (pss_cons (ps_if (pt_cmpR op_eq (pv 3) pe_int (nomark _))
      (pss_one (ps_ret (pe_call (ok__law_put T) (hr.mono (by decide)) rfl T._law_put.g T._law_put.F.kp T._law_put.b .nil pass0 (pa_cons (pv 2) (pa_cons (pv 4) (pa_cons (pe_ix ix_list (pe_lst (pa_cons (pe_slice sl_tupA (pv 5) po_none (po_some pe_int)) (pa_cons (pe_callTy call_list_of (by rfl) T.n_list (by decide +kernel) (pa_cons (pv 5) pa_nil)) (pa_cons (pe_op op_catA (pv 5) (pe_tup (pa_cons pe_int pa_nil))) (pa_cons pe_non pa_nil))))) (pe_call (ok__law_draw T) (hr.mono (by decide)) rfl T._law_draw.g T._law_draw.F.kp T._law_draw.b .nil pass0 (pa_cons (pv 0) (pa_cons pe_int pa_nil))) (fun _ _ => rfl)) pa_nil))))))
      pss_nil)
      (pss_cons (ps_if (pt_cmpR op_eq (pv 3) pe_int (nomark _))
      (pss_cons (ps_set (i := 6) sc_law_spoiled_letters.nd rfl (Or.inl rfl) (pe_call (ok__law_draw T) (hr.mono (by decide)) rfl T._law_draw.g T._law_draw.F.kp T._law_draw.b .nil pass0 (pa_cons (pv 0) (pa_cons (pe_callB call_len_seq (by rfl) T.n_len (by decide +kernel) (pa_cons (pe_ix ix_tup (pv 5) pe_int (fun _ _ => rfl)) pa_nil)) pa_nil))))
      (pss_one (ps_ret (pe_call (ok__law_put T) (hr.mono (by decide)) rfl T._law_put.g T._law_put.F.kp T._law_put.b .nil pass0 (pa_cons (pv 2) (pa_cons (pv 4) (pa_cons (pe_op op_catA (pe_tup (pa_cons (pe_call (ok__law_put T) (hr.mono (by decide)) rfl T._law_put.g T._law_put.F.kp T._law_put.b .nil pass0 (pa_cons (pe_ix ix_tup (pv 5) pe_int (fun _ _ => rfl)) (pa_cons (pv 6) (pa_cons (pe_call (ok__law_draw T) (hr.mono (by decide)) rfl T._law_draw.g T._law_draw.F.kp T._law_draw.b .nil pass0 (pa_cons (pv 0) (pa_cons (pe_op op_add (pe_callB call_len_seq (by rfl) T.n_len (by decide +kernel) (pa_cons (pv 1) pa_nil)) pe_int) pa_nil))) pa_nil)))) pa_nil)) (pe_slice sl_tupA (pv 5) (po_some pe_int) po_none)) pa_nil)))))))
      pss_nil)
      (pss_one (ps_ret (pe_call (ok__law_put T) (hr.mono (by decide)) rfl T._law_put.g T._law_put.F.kp T._law_put.b .nil pass0 (pa_cons (pv 2) (pa_cons (pv 4) (pa_cons (pe_tup (pa_cons (pe_ix ix_tup (pv 5) pe_int (fun _ _ => rfl)) (pa_cons (pe_op op_add (pe_op op_add (pe_ix ix_tup (pv 5) pe_int (fun _ _ => rfl)) pe_int) (pe_call (ok__law_draw T) (hr.mono (by decide)) rfl T._law_draw.g T._law_draw.F.kp T._law_draw.b .nil pass0 (pa_cons (pv 0) (pa_cons pe_int pa_nil)))) (pa_cons (pe_op op_add pe_int (pe_call (ok__law_draw T) (hr.mono (by decide)) rfl T._law_draw.g T._law_draw.F.kp T._law_draw.b .nil pass0 (pa_cons (pv 0) (pa_cons pe_int pa_nil)))) pa_nil)))) pa_nil))))))))))))), ?_⟩
    refine ⟨_, rfl, h, c, 7, rfl, hA, by decide, by decide, fun y H1 y0 y1 p1 b1 => ?_⟩
    have rl1 := rl.monoB b1 hA
    have W1 := W.nl (b1.nl hA.lst)
    obtain ⟨q, xs, rfl, eq, lx, at_⟩ := sls_at rl1
    obtain ⟨qr, xr, rfl, eqr, _, rxr⟩ := tup_inv W1.r
    have lxr := rxr.len
    have wl1 := W1.l1
    have wl2 := W1.l2
    have fin : ∀ (x : V) (d : Hc.D) (H6 H7 : Hp), HandAt H6 h c → But h H H6 → Same H6 H7 → Rp H7 h x d → fewL d → Q x H7 := fun x d H6 H7 p6 b6 s7 r7 hn => k x d H7 (p6.mono s7) (b6.trans (But.of s7)) r7 hn
    have neq : ∀ a z : Int, a ≠ z → decide (V.int a = V.int z) = false := fun a z n => decide_eq_false fun e => n (V.int.inj e)
    refine ⟨_, rfl, rfl, _, rfl, ?_⟩
    by_cases g0 : y = 0
    · rw [show decide (V.int y = V.int 0) = true by rw [g0]; rfl]
      refine iteT (iteT ?_)
      refine ⟨_, rfl, q, _, rfl, .inr (SqT.of eq), fun L1 hL1 => ?_⟩
      obtain ⟨s2, e2, n2, _, p2⟩ := new_facts (o := .lst xs) p1 hL1 rfl
      generalize upd H1 L1 (.lst xs) = H2 at s2 e2 p2 ⊢
      refine ⟨_, rfl, by show 1 ≤ sizeLine; decide, fun u hu => ?_⟩
      obtain ⟨s3, e3, n3, _, p3⟩ := new_facts (o := .tup [.non]) p2 hu rfl
      generalize upd H2 u (.tup [.non]) = H3 at s3 e3 p3 ⊢
      refine catS ((rl1.same s2).same s3) (.tup e3 (by simp) (.cons .non .nil)) (by rw [List.length_map]; simp; omega) fun v1 H4 s4 r4 => ?_
      have p4 := p3.mono s4
      refine ⟨_, rfl, by show 1 ≤ sizeLine; decide, fun t1 ht1 => ?_⟩
      obtain ⟨s5, e5, n5, _, p5⟩ := new_facts (o := .tup [.int 0]) p4 ht1 rfl
      generalize upd H4 t1 (.tup [.int 0]) = H5 at s5 e5 p5 ⊢
      refine ⟨by show 3 ≤ sizeLine; decide, fun t2 ht2 => ?_⟩
      obtain ⟨s6, e6, n6, _, p6⟩ := new_facts (o := .tup [.ref t1, .int 1, .int 1]) p5 ht2 rfl
      generalize upd H5 t2 (.tup [.ref t1, .int 1, .int 1]) = H6 at s6 e6 p6 ⊢
      refine ⟨by show 1 ≤ sizeLine; decide, fun t3 ht3 => ?_⟩
      obtain ⟨s7, e7, n7, _, p7⟩ := new_facts (o := .tup [.ref t2]) p6 ht3 rfl
      generalize upd H6 t3 (.tup [.ref t2]) = H7 at s7 e7 p7 ⊢
      refine ⟨t3, 61, [.ref t2], rfl, rfl, SqT.of e7, (by simp), by decide, by decide, (by simp), fun z => absurd z (by decide), fun _ t4 ht4 => ?_⟩
      obtain ⟨s8, e8, n8, _, p8⟩ := new_facts (o := .tup (List.replicate (61 : Int).toNat [V.ref t2]).flatten) p7 ht4 rfl
      generalize upd H7 t4 (.tup (List.replicate (61 : Int).toNat [V.ref t2]).flatten) = H8 at s8 e8 p8 ⊢
      rw [flat_one] at e8
      have rt : Rp H8 h (.ref t2) (.tup [.tup [.int 0], .int 1, .int 1]) := .tup (s8 _ _ (s7 _ _ e6)) (by simp) (.cons (.tup (s8 _ _ (s7 _ _ (s6 _ _ e5))) (by simp) (.cons (.int _) .nil)) (.cons (.int _) (.cons (.int _) .nil)))
      have r48 : Rp H8 h (.ref t4) (.tup (List.replicate 61 (.tup [.tup [.int 0], .int 1, .int 1]))) := .tup e8 (by rw [List.length_replicate]; decide) (RpA.repS rt 61)
      have s28 := ((((((s3.trans s4).trans s5).trans s6).trans s7).trans s8))
      refine catS ((rl1.same s2).same s28) r48 (by rw [List.length_map, List.length_replicate]; omega) fun v5 H9 s9 r9 => ?_
      have p9 := p8.mono s9
      refine ⟨by show 4 ≤ sizeLine; decide, fun L hL => ?_⟩
      obtain ⟨s10, e10, n10, _, p10⟩ := new_facts (o := .lst [.ref L1, .non, v1, v5]) p9 hL rfl
      generalize hE : upd H9 L _ = H10
      have hE' : upd H9 L (.lst [.ref L1, .non, v1, v5]) = H10 := hE
      rw [hE'] at s10 e10 p10
      have s410 := ((((((s5.trans s6).trans s7).trans s8).trans s9).trans s10))
      have s210 := (s28.trans s9).trans s10
      refine ⟨_, rfl, h, c, 4, rfl, p10, by decide, by decide, fun z H11 z0 z1 p11 b11 => ?_⟩
      have rall : RpA H11 h [.ref L1, .non, v1, v5] [.lst, .non, .tup (ls.map slD ++ [.non]), .tup (ls.map slD ++ List.replicate 61 (.tup [.tup [.int 0], .int 1, .int 1]))] :=
        .cons ((Rp.lst (s210 _ _ e2) n2 : Rp H10 h (.ref L1) .lst).monoB b11 p10) (.cons .non (.cons ((r4.same s410).monoB b11 p10) (.cons ((r9.same s10).monoB b11 p10) .nil)))
      obtain ⟨xo, od, h1, h2, h3⟩ := rall.of z0 z1
      refine ⟨L, _, _, xo, rfl, rfl, SqL.of (b11 _ _ e10 n10), h1, ?_⟩
      refine fin xo od H11 H11 p11 ((b1.trans (But.of (s2.trans s210))).trans b11) (Same.refl _) h3 ?_
      simp only [List.mem_cons, List.not_mem_nil, or_false] at h2
      rcases h2 with rfl | rfl | rfl | rfl
      · exact fewL_no fun ds e => by cases e
      · exact fewL_no fun ds e => by cases e
      · exact fewL_tail (List.mem_append_right _ (List.mem_singleton_self _)) fun l e => by cases e
      · exact fewL_long (by rw [List.length_append, List.length_replicate]; omega)
    rw [neq y 0 g0]
    refine iteF ⟨_, rfl, q, _, rfl, .inr (SqT.of eq), rfl, _, rfl, ?_⟩
    by_cases g1 : ls.length = 0
    · rw [show decide (V.int (xs.length : Nat) = V.int 0) = true by rw [show xs.length = 0 by omega]; rfl]
      refine iteT ?_
      refine ⟨_, rfl, q, _, rfl, .inr (SqT.of eq), fun L1 hL1 => ?_⟩
      obtain ⟨s2, e2, n2, _, p2⟩ := new_facts (o := .lst xs) p1 hL1 rfl
      generalize upd H1 L1 (.lst xs) = H2 at s2 e2 p2 ⊢
      refine ⟨_, rfl, by show 1 ≤ sizeLine; decide, fun u hu => ?_⟩
      obtain ⟨s3, e3, n3, _, p3⟩ := new_facts (o := .tup [.non]) p2 hu rfl
      generalize upd H2 u (.tup [.non]) = H3 at s3 e3 p3 ⊢
      refine catS ((rl1.same s2).same s3) (.tup e3 (by simp) (.cons .non .nil)) (by rw [List.length_map]; simp; omega) fun v1 H4 s4 r4 => ?_
      have p4 := p3.mono s4
      refine ⟨_, rfl, by show 1 ≤ sizeLine; decide, fun t1 ht1 => ?_⟩
      obtain ⟨s5, e5, n5, _, p5⟩ := new_facts (o := .tup [.int 0]) p4 ht1 rfl
      generalize upd H4 t1 (.tup [.int 0]) = H5 at s5 e5 p5 ⊢
      refine ⟨by show 3 ≤ sizeLine; decide, fun t2 ht2 => ?_⟩
      obtain ⟨s6, e6, n6, _, p6⟩ := new_facts (o := .tup [.ref t1, .int 1, .int 1]) p5 ht2 rfl
      generalize upd H5 t2 (.tup [.ref t1, .int 1, .int 1]) = H6 at s6 e6 p6 ⊢
      refine ⟨by show 1 ≤ sizeLine; decide, fun t3 ht3 => ?_⟩
      obtain ⟨s7, e7, n7, _, p7⟩ := new_facts (o := .tup [.ref t2]) p6 ht3 rfl
      generalize upd H6 t3 (.tup [.ref t2]) = H7 at s7 e7 p7 ⊢
      refine ⟨t3, 61, [.ref t2], rfl, rfl, SqT.of e7, (by simp), by decide, by decide, (by simp), fun z => absurd z (by decide), fun _ t4 ht4 => ?_⟩
      obtain ⟨s8, e8, n8, _, p8⟩ := new_facts (o := .tup (List.replicate (61 : Int).toNat [V.ref t2]).flatten) p7 ht4 rfl
      generalize upd H7 t4 (.tup (List.replicate (61 : Int).toNat [V.ref t2]).flatten) = H8 at s8 e8 p8 ⊢
      rw [flat_one] at e8
      have rt : Rp H8 h (.ref t2) (.tup [.tup [.int 0], .int 1, .int 1]) := .tup (s8 _ _ (s7 _ _ e6)) (by simp) (.cons (.tup (s8 _ _ (s7 _ _ (s6 _ _ e5))) (by simp) (.cons (.int _) .nil)) (.cons (.int _) (.cons (.int _) .nil)))
      have r48 : Rp H8 h (.ref t4) (.tup (List.replicate 61 (.tup [.tup [.int 0], .int 1, .int 1]))) := .tup e8 (by rw [List.length_replicate]; decide) (RpA.repS rt 61)
      have s28 := ((((((s3.trans s4).trans s5).trans s6).trans s7).trans s8))
      refine catS ((rl1.same s2).same s28) r48 (by rw [List.length_map, List.length_replicate]; omega) fun v5 H9 s9 r9 => ?_
      have p9 := p8.mono s9
      refine ⟨by show 4 ≤ sizeLine; decide, fun L hL => ?_⟩
      obtain ⟨s10, e10, n10, _, p10⟩ := new_facts (o := .lst [.ref L1, .non, v1, v5]) p9 hL rfl
      generalize hE : upd H9 L _ = H10
      have hE' : upd H9 L (.lst [.ref L1, .non, v1, v5]) = H10 := hE
      rw [hE'] at s10 e10 p10
      have s410 := ((((((s5.trans s6).trans s7).trans s8).trans s9).trans s10))
      have s210 := (s28.trans s9).trans s10
      refine ⟨_, rfl, h, c, 4, rfl, p10, by decide, by decide, fun z H11 z0 z1 p11 b11 => ?_⟩
      have rall : RpA H11 h [.ref L1, .non, v1, v5] [.lst, .non, .tup (ls.map slD ++ [.non]), .tup (ls.map slD ++ List.replicate 61 (.tup [.tup [.int 0], .int 1, .int 1]))] :=
        .cons ((Rp.lst (s210 _ _ e2) n2 : Rp H10 h (.ref L1) .lst).monoB b11 p10) (.cons .non (.cons ((r4.same s410).monoB b11 p10) (.cons ((r9.same s10).monoB b11 p10) .nil)))
      obtain ⟨xo, od, h1, h2, h3⟩ := rall.of z0 z1
      refine ⟨L, _, _, xo, rfl, rfl, SqL.of (b11 _ _ e10 n10), h1, ?_⟩
      refine fin xo od H11 H11 p11 ((b1.trans (But.of (s2.trans s210))).trans b11) (Same.refl _) h3 ?_
      simp only [List.mem_cons, List.not_mem_nil, or_false] at h2
      rcases h2 with rfl | rfl | rfl | rfl
      · exact fewL_no fun ds e => by cases e
      · exact fewL_no fun ds e => by cases e
      · exact fewL_tail (List.mem_append_right _ (List.mem_singleton_self _)) fun l e => by cases e
      · exact fewL_long (by rw [List.length_append, List.length_replicate]; omega)
    rw [neq (xs.length : Nat) 0 (by omega)]
    refine iteF ⟨_, rfl, _, rfl, q, _, rfl, .inr (SqT.of eq), h, c, _, rfl, p1, by omega, by omega, fun a H2 a0 a1 p2 b2 => ?_⟩
    obtain ⟨a, rfl⟩ := Int.eq_ofNat_of_zero_le a0
    have hal : a < ls.length := by omega
    have rl2 := rl1.monoB b2 p1
    obtain ⟨l, el⟩ : ∃ l, ls[a]? = some l := ⟨_, List.getElem?_eq_getElem hal⟩
    have hlm := List.mem_of_getElem? el
    obtain ⟨w1, w5⟩ := hw l hlm
    obtain ⟨xv, exv, rxv⟩ := at_ a l el
    have rx2 := rxv.monoB b2 p1
    obtain ⟨q1, ys, rfl, eq1, _, ry⟩ := tup_inv rx2
    cases ry with
    | @cons v1 _ _ _ r1 ry =>
    cases ry with
    | @cons v2 _ _ _ r2 ry =>
    cases ry with
    | @cons v3 _ _ _ r3 ry =>
    cases ry
    cases r2
    cases r3
    obtain ⟨qw, xw, rfl, eqw, _, rxw⟩ := tup_inv r1
    have lxw := rxw.len
    rw [List.length_map] at lxw
    have eq2 : H2 q = some (.tup xs) := by
      obtain ⟨q', xs', e, e2, _⟩ := sls_at rl2
      cases e
      have : q ≠ h := fun z => by
        subst z
        obtain ⟨_, z2⟩ := p1.lst
        rw [z2] at eq; cases eq
      exact b2 _ _ eq this
    have b12 := b1.trans b2
    have lsm : (ls.map slD).length ≤ 1000 := by rw [List.length_map]; omega
    have put : ∀ (x : V) (d : Hc.D) (H6 H7 : Hp), HandAt H6 h c → But h H2 H6 → Same H6 H7 → Rp H7 h x d → wayFew d → ∃ (h : Addr) (v x_1 : V) (ds : List Hc.D) (d : Hc.D) (at_ : Nat), [V.ref q, V.int (a : Nat), x] = [v, .int (at_ : Nat), x_1] ∧ Rp H7 h v (.tup ds) ∧ Rp H7 h x_1 d ∧ ds.length ≤ 1000 ∧ ∀ t H', Same H7 H' → Rp H' h t (.tup (cutD ds none (some (at_ : Int)) ++ [d] ++ cutD ds (some ((at_ : Int) + 1)) none)) → Q t H' :=
      fun x d H6 H7 p6 b6 s7 r7 hn => ⟨h, .ref q, x, _, d, a, rfl, (rl2.monoB b6 p2).same s7, r7, lsm, fun t H8 s8 r8 => fin t _ H6 H8 p6 (b12.trans b6) (s7.trans s8) r8 (fewL_put l5 hw5 hal hn)⟩
    refine ⟨_, rfl, _, rfl, q, _, _, _, rfl, rfl, SqT.of eq2, atI_nat exv, ?_⟩
    refine ⟨_, rfl, _, _, rfl, rfl, _, rfl, ?_⟩
    by_cases g4 : y < 4
    · rw [decide_eq_true g4]
      refine iteT ⟨_, rfl, _, rfl, _, rfl, _, rfl, h, c, 3, rfl, p2, by decide, by decide, fun i H3 i0 i1 p3 b3 => ⟨_, rfl, h, c, rfl, p3, fun xo od H4 p4 b4 ro hod => ?_⟩⟩
      obtain ⟨i, rfl⟩ := Int.eq_ofNat_of_zero_le i0
      refine ⟨h, .ref q1, xo, _, od, i, rfl, (rx2.monoB b3 p2).monoB b4 p3, ro, (by show [nD l.1, Hc.D.int l.2.1, .int l.2.2].length ≤ 1000; simp), fun t H5 s5 r5 => ?_⟩
      refine put t _ H4 H5 p4 (b3.trans b4) s5 r5 fun l' e => ?_
      have e := D.tup.inj e
      have hi3 : i < 3 := by omega
      have c3 : i = 0 ∨ i = 1 ∨ i = 2 := by omega
      rw [cut_head _ (by simp; omega), cut_tail _ (by simp; omega)] at e
      rcases c3 with rfl | rfl | rfl
      · have e1 := (List.cons.inj e).1
        have := hod _ e1
        rw [List.length_map] at this
        exact this
      · have e1 : nD l.1 = nD l'.1 := (List.cons.inj e).1
        rw [← nat_map_inj (D.tup.inj e1)]; exact w5
      · have e1 : nD l.1 = nD l'.1 := (List.cons.inj e).1
        rw [← nat_map_inj (D.tup.inj e1)]; exact w5
    rw [decide_eq_false g4]
    refine iteF ⟨_, rfl, rfl, _, rfl, ?_⟩
    by_cases g5 : y = 4
    · rw [show decide (V.int y = V.int 4) = true by rw [g5]; rfl]
      refine iteT ⟨_, rfl, _, rfl, _, rfl, ?_⟩
      delta tNoPart
      refine ⟨_, rfl, slS rx2 fun va H3 s3 ra => ?_⟩
      have p3 := p2.mono s3
      refine ⟨_, rfl, q1, _, rfl, .inr (SqT.of (s3 _ _ eq1)), fun L1 hL1 => ?_⟩
      obtain ⟨s4, e4, n4, _, p4⟩ := new_facts (o := .lst [.ref qw, .int l.2.1, .int l.2.2]) p3 hL1 rfl
      generalize upd H3 L1 (.lst [.ref qw, .int l.2.1, .int l.2.2]) = H4 at s4 e4 p4 ⊢
      refine ⟨_, rfl, by show 1 ≤ sizeLine; decide, fun u hu => ?_⟩
      obtain ⟨s5, e5, n5, _, p5⟩ := new_facts (o := .tup [.int 1]) p4 hu rfl
      generalize upd H4 u (.tup [.int 1]) = H5 at s5 e5 p5 ⊢
      have s25 := (s3.trans s4).trans s5
      refine catS (rx2.same s25) (.tup e5 (by simp) (.cons (.int 1) .nil)) (by simp) fun vc H6 s6 rc => ?_
      have p6 := p5.mono s6
      refine ⟨by show 4 ≤ sizeLine; decide, fun L hL => ?_⟩
      obtain ⟨s7, e7, n7, _, p7⟩ := new_facts (o := .lst [va, .ref L1, vc, .non]) p6 hL rfl
      generalize hE : upd H6 L _ = H7
      have hE' : upd H6 L (.lst [va, .ref L1, vc, .non]) = H7 := hE
      rw [hE'] at s7 e7 p7
      have s27 := (s25.trans s6).trans s7
      refine ⟨_, rfl, h, c, 4, rfl, p7, by decide, by decide, fun z H8 z0 z1 p8 b8 => ?_⟩
      have rall : RpA H8 h [va, .ref L1, vc, .non] [.tup (cutD [nD l.1, .int l.2.1, .int l.2.2] none (some 2)), .lst, .tup ([nD l.1, .int l.2.1, .int l.2.2] ++ [.int 1]), .non] :=
        .cons (((((ra.same s4).same s5).same s6).same s7).monoB b8 p7) (.cons ((Rp.lst (s7 _ _ (s6 _ _ (s5 _ _ e4))) n4 : Rp H7 h (.ref L1) .lst).monoB b8 p7) (.cons ((rc.same s7).monoB b8 p7) (.cons .non .nil)))
      obtain ⟨xo, od, h1, h2, h3⟩ := rall.of z0 z1
      refine ⟨L, _, _, xo, rfl, rfl, SqL.of (b8 _ _ e7 n7), h1, ?_⟩
      refine put xo od H8 H8 p8 ((But.of s27).trans b8) (Same.refl _) h3 fun l' e => ?_
      subst e
      simp only [List.mem_cons, List.not_mem_nil, or_false] at h2
      rcases h2 with h2 | h2 | h2 | h2
      · have h2 := congrArg List.length (D.tup.inj h2)
        have : (cutD [nD l.1, .int l.2.1, .int l.2.2] none (some 2)).length = 2 := rfl
        rw [this] at h2
        simp at h2
      · cases h2
      · have h2 := congrArg List.length (D.tup.inj h2)
        simp at h2
      · cases h2
    rw [neq y 4 g5]
    refine iteF ⟨_, rfl, rfl, _, rfl, ?_⟩
    by_cases g6 : y = 5
    · rw [show decide (V.int y = V.int 5) = true by rw [g6]; rfl]
      refine iteT ⟨_, rfl, _, rfl, q1, _, 0, _, rfl, rfl, SqT.of eq1, atI_nat (j := 0) rfl, qw, _, rfl, .inr (SqT.of eqw), h, c, _, rfl, p2, by omega, by omega, fun i H3 i0 i1 p3 b3 => ?_⟩
      obtain ⟨i, rfl⟩ := Int.eq_ofNat_of_zero_le i0
      have rx3 := rx2.monoB b3 p2
      have r13 := r1.monoB b3 p2
      have eq13 := b3 _ _ eq1 (fun z => by
        subst z
        obtain ⟨_, z2⟩ := p2.lst
        rw [z2] at eq1; cases eq1)
      have eqr3 : H3 qr = some (.tup xr) := by
        have nr : qr ≠ h := fun z => by
          subst z
          obtain ⟨_, z2⟩ := p1.lst
          rw [z2] at eqr; cases eqr
        exact b3 _ _ (b2 _ _ eqr nr) nr
      refine ⟨_, rfl, _, rfl, _, rfl, q1, _, 0, _, rfl, rfl, SqT.of eq13, atI_nat (j := 0) rfl, _, rfl, _, rfl, _, rfl, qr, _, rfl, .inr (SqT.of eqr3), _, _, rfl, rfl, h, c, _, rfl, p3, by omega, by omega, fun z H4 z0 z1 p4 b4 => ?_⟩
      refine ⟨h, .ref qw, .int z, _, .int z, i, rfl, r13.monoB b4 p3, .int z, (by rw [List.length_map]; omega), fun t H5 s5 r5 => ?_⟩
      refine ⟨by show 1 ≤ sizeLine; decide, fun u hu => ?_⟩
      have p5 := p4.mono s5
      obtain ⟨s6, e6, n6, _, p6⟩ := new_facts (o := .tup [t]) p5 hu rfl
      generalize upd H5 u (.tup [t]) = H6 at s6 e6 p6 ⊢
      refine ⟨_, rfl, ?_⟩
      delta tNoPart
      refine ⟨_, rfl, slS (((rx3.monoB b4 p3).same s5).same s6) fun v2 H7 s7 r7 => ?_⟩
      have ru : Rp H7 h (.ref u) (.tup [.tup (cutD (l.1.map fun j => Hc.D.int (j : Nat)) none (some (i : Int)) ++ [.int z] ++ cutD (l.1.map fun j => Hc.D.int (j : Nat)) (some ((i : Int) + 1)) none)]) := (Rp.tup e6 (by simp) (.cons (r5.same s6) .nil) : Rp H6 h (.ref u) _).same s7
      have lc : (cutD [nD l.1, .int l.2.1, .int l.2.2] (some 1) none) = [.int l.2.1, .int l.2.2] := rfl
      refine catS ru r7 (by rw [lc]; simp) fun v3 H8 s8 r8 => ?_
      refine put v3 _ H4 H8 p4 (b3.trans b4) (((s5.trans s6).trans s7).trans s8) r8 fun l' e => ?_
      have e := D.tup.inj e
      rw [lc] at e
      have e1 := congrArg List.length (D.tup.inj (List.cons.inj e).1)
      rw [List.length_append, List.length_append, List.length_singleton, cut_head _ (by rw [List.length_map]; omega), cut_tail _ (by rw [List.length_map]; omega), List.length_take, List.length_drop, List.length_map, List.length_map] at e1
      omega
    rw [neq y 5 g6]
    refine iteF ⟨_, rfl, _, rfl, _, rfl, q1, _, 0, _, rfl, rfl, SqT.of eq1, atI_nat (j := 0) rfl, _, rfl, q1, _, 1, _, rfl, rfl, SqT.of eq1, atI_nat (j := 1) rfl, _, _, rfl, rfl, _, rfl, h, c, 4, rfl, p2, by decide, by decide, fun i H3 i0 i1 p3 b3 => ⟨_, _, rfl, rfl, _, rfl, h, c, 2, rfl, p3, by decide, by decide, fun z H4 z0 z1 p4 b4 => ⟨_, _, rfl, rfl, by show 3 ≤ sizeLine; decide, fun u hu => ?_⟩⟩⟩
    obtain ⟨s5, e5, n5, _, p5⟩ := new_facts (o := .tup [.ref qw, .int (l.2.1 + 1 + i), .int (1 + z)]) p4 hu rfl
    generalize upd H4 u (.tup [.ref qw, .int (l.2.1 + 1 + i), .int (1 + z)]) = H5 at s5 e5 p5 ⊢
    have b24 := b3.trans b4
    refine put (.ref u) (slD (l.1, l.2.1 + 1 + i, 1 + z)) H4 H5 p4 b24 s5 (.tup e5 (by simp) (.cons ((r1.monoB b24 p2).same s5) (.cons (.int _) (.cons (.int _) .nil)))) fun l' e => ?_
    rw [← slD_inj e]; exact w5
end
end Hc


set_option Elab.async false
set_option linter.all false
set_option pp.maxSteps 900
set_option maxRecDepth 100000
set_option maxHeartbeats 4000000
set_option autoImplicit false
namespace Hc
open PySem L2
section
variable {P : Program} {w : World} {K : PySem.W.Frag} {mg : Str → Option Value} {base : Heap}
def spSpHours : Sp := fun vs H Q _ => ∃ (h c : Addr) (vh : V) (rows : List (List Int)), vs = [.ref h, vh] ∧ HandAt H h c ∧ Rp H h vh (rowsD rows) ∧ rows.length ≤ 60 ∧ (∀ r ∈ rows, 1 ≤ r.length ∧ r.length ≤ 8) ∧
  ∀ x d H', HandAt H' h c → But h H H' → Rp H' h x d → Q x H'
theorem ok__law_spoiled_hours (T : Tx K mg) : FnOk P w K mg base CX0 3 T._law_spoiled_hours.f T._law_spoiled_hours.fd ["_law_hand_here", "_law_hours"] spSpHours := by
  refine T._law_spoiled_hours.F.ok sc_law_spoiled_hours (fun vs H Q E h => ?_) (fun cdv A outer s H vs Q E hr h => ?_)
  · obtain ⟨_, _, _, _, rfl, _⟩ := h
    rfl
  · obtain ⟨h, c, vh, rows, rfl, hA, rl, l60, hw, k⟩ := h
    refine ⟨_, (pss_cons (ps_set (i := 2) sc_law_spoiled_hours.nd rfl (Or.inl rfl) (pe_call (ok__law_draw T) (hr.mono (by decide)) rfl T._law_draw.g T._law_draw.F.kp T._law_draw.b .nil pass0 (pa_cons (pv 0) (pa_cons pe_int pa_nil))))
      (pss_cons (ps_if (PW.pt (pw_or (pt_cmpR op_eq (pv 2) pe_int (nomark _)) (pw_or1 (pt_cmpR op_eq (pe_callB call_len_seq (by rfl) T.n_len (by decide +kernel) (pa_cons (pv 1) pa_nil)) pe_int (nomark _)))))
      (pss_one (ps_ret (pe_ix ix_list (pe_lst (pa_cons (pe_callTy call_list_of (by rfl) T.n_list (by decide +kernel) (pa_cons (pv 1) pa_nil)) (pa_cons pe_non (pa_cons (pe_op op_catA (pv 1) (pe_tup (pa_cons (pe_tup (pa_cons pe_int pa_nil)) pa_nil))) (pa_cons (pe_slice sl_tupA (pv 1) (po_some pe_int) po_none) pa_nil))))) (pe_call (ok__law_draw T) (hr.mono (by decide)) rfl T._law_draw.g T._law_draw.F.kp T._law_draw.b .nil pass0 (pa_cons (pv 0) (pa_cons pe_int pa_nil))) (fun _ _ => rfl))))
      pss_nil)
      (pss_cons (ps_set (i := 3) sc_law_spoiled_hours.nd rfl (Or.inl rfl) (pe_call (ok__law_draw T) (hr.mono (by decide)) rfl T._law_draw.g T._law_draw.F.kp T._law_draw.b .nil pass0 (pa_cons (pv 0) (pa_cons (pe_callB call_len_seq (by rfl) T.n_len (by decide +kernel) (pa_cons (pv 1) pa_nil)) pa_nil))))
      (pss_cons (ps_set (i := 4) sc_law_spoiled_hours.nd rfl (Or.inr rfl) (pe_ix ix_tup (pv 1) (pv 3) (fun _ _ => rfl)))
      (pss_cons (ps_set (i := 5) sc_law_spoiled_hours.nd rfl (Or.inr rfl) (pe_call (ok__law_draw T) (hr.mono (by decide)) rfl T._law_draw.g T._law_draw.F.kp T._law_draw.b .nil pass0 (pa_cons (pv 0) (pa_cons (pe_callB call_len_seq (by rfl) T.n_len (by decide +kernel) (pa_cons (pv 4) pa_nil)) pa_nil))))
      (pss_cons (ps_if (pt_cmpR op_eq (pv 2) pe_int (nomark _))
      (pss_one (ps_ret (pe_call (ok__law_put T) (hr.mono (by decide)) rfl T._law_put.g T._law_put.F.kp T._law_put.b .nil pass0 (pa_cons (pv 1) (pa_cons (pv 3) (pa_cons (pe_ix ix_list (pe_lst (pa_cons (pe_callTy call_list_of (by rfl) T.n_list (by decide +kernel) (pa_cons (pv 4) pa_nil)) (pa_cons (pe_op op_catA (pv 4) (pe_tup (pa_cons (pe_op op_add (pe_ix ix_tup (pv 4) (pe_un un_neg pe_int) (fun _ _ => rfl)) pe_int) pa_nil))) (pa_cons (pe_slice sl_tupA (pv 4) (po_some pe_int) po_none) (pa_cons (pe_call (ok__law_odd T) (hr.mono (by decide)) rfl T._law_odd.g T._law_odd.F.kp T._law_odd.b .nil pass0 (pa_cons (pv 0) pa_nil)) pa_nil))))) (pe_call (ok__law_draw T) (hr.mono (by decide)) rfl T._law_draw.g T._law_draw.F.kp T._law_draw.b .nil pass0 (pa_cons (pv 0) (pa_cons pe_int pa_nil))) (fun _ _ => rfl)) pa_nil))))))
      pss_nil)
      (pss_cons (ps_if (pt_cmpR op_eq (pv 2) pe_int (nomark _))
      (pss_one (ps_ret (pe_call (ok__law_put T) (hr.mono (by decide)) rfl T._law_put.g T._law_put.F.kp T._law_put.b .nil pass0 (pa_cons (pv 1) (pa_cons (pv 3) (pa_cons (pe_call (ok__law_put T) (hr.mono (by decide)) rfl T._law_put.g T._law_put.F.kp T._law_put.b .nil pass0 (pa_cons (pv 4) (pa_cons (pv 5) (pa_cons (pe_call (ok__law_odd T) (hr.mono (by decide)) rfl T._law_odd.g T._law_odd.F.kp T._law_odd.b .nil pass0 (pa_cons (pv 0) pa_nil)) pa_nil)))) pa_nil))))))
      pss_nil)
      (pss_cons (ps_if (pt_cmpR op_eq (pv 2) pe_int (nomark _))
      (pss_cons (ps_set (i := 6) sc_law_spoiled_hours.nd rfl (Or.inl rfl) (pe_ix ix_tup (pv 1) (pe_call (ok__law_draw T) (hr.mono (by decide)) rfl T._law_draw.g T._law_draw.F.kp T._law_draw.b .nil pass0 (pa_cons (pv 0) (pa_cons (pe_callB call_len_seq (by rfl) T.n_len (by decide +kernel) (pa_cons (pv 1) pa_nil)) pa_nil))) (fun _ _ => rfl)))
      (pss_one (ps_ret (pe_call (ok__law_put T) (hr.mono (by decide)) rfl T._law_put.g T._law_put.F.kp T._law_put.b .nil pass0 (pa_cons (pv 1) (pa_cons (pv 3) (pa_cons (pe_call (ok__law_put T) (hr.mono (by decide)) rfl T._law_put.g T._law_put.F.kp T._law_put.b .nil pass0 (pa_cons (pv 4) (pa_cons (pv 5) (pa_cons (pe_ix ix_tup (pv 6) (pe_call (ok__law_draw T) (hr.mono (by decide)) rfl T._law_draw.g T._law_draw.F.kp T._law_draw.b .nil pass0 (pa_cons (pv 0) (pa_cons (pe_callB call_len_seq (by rfl) T.n_len (by decide +kernel) (pa_cons (pv 6) pa_nil)) pa_nil))) (fun _ _ => rfl)) pa_nil)))) pa_nil)))))))
      pss_nil)
      (pss_cons (ps_set (i := 7) sc_law_spoiled_hours.nd rfl (Or.inr rfl) (pe_op op_sub (pe_call (ok__law_draw T) (hr.mono (by decide)) rfl T._law_draw.g T._law_draw.F.kp T._law_draw.b .nil pass0 (pa_cons (pv 0) (pa_cons pe_int pa_nil))) pe_int))
      (pss_one (ps_ret (pe_call (ok__law_put T) (hr.mono (by decide)) rfl T._law_put.g T._law_put.F.kp T._law_put.b .nil pass0 (pa_cons (pv 1) (pa_cons (pv 3) (pa_cons (pe_callTy call_tuple_of (by rfl) T.n_tuple (by decide +kernel) (pa_cons (pe_lc (own := [("_law_j", 8)]) (g := (gName 8)) (tt := tYes) (te := (tOp (rI0 fun i j => .int (i + j)) (tOp (rIxT K) (tVar 4) (tVar 8)) (tOp (rI CMul fun i j => .int (i * j)) (tVar 7) (tCB (fun xs H Q => (∃ i, xs = [.int i] ∧ Q (.int i) H) ∨ ∃ k, xs = [.bl k] ∧ Q (.int (if k then 1 else 0)) H) (tCons (tOp (rI0 fun i j => .bl (decide (j ≤ i))) (tVar 8) (tVar 5)) tNil))))) rfl sc_law_spoiled_hours.nd (pi_range1 (by rfl) T.n_range (pa_cons (pe_callB call_len_seq (by rfl) T.n_len (by decide +kernel) (pa_cons (pv 4) pa_nil)) pa_nil)) (blkOk_by (own := [("_law_j", 8)]) (N := ["_law_hand_here", "_law_hours", "_law_way_here", "_law_k", "_law_row", "_law_at", "_law_other", "_law_change", "_law_j"]) (sc := defScope s_law_spoiled_hours) (by decide +kernel)) (fun _ _ _ _ _ => (pg_name (i := 8) sc_law_spoiled_hours.nd rfl (Or.inl rfl))) (fun _ _ _ _ _ => pts_nil) (fun _ _ _ _ _ => (by exact (pe_op op_add (pe_ix ix_tup (pv 4) (pv 8) (fun _ _ => rfl)) (pe_op op_mul (pv 7) (pe_callTy call_int1 (by rfl) T.n_int (by decide +kernel) (pa_cons (pe_cmpR op_ge (pv 8) (pv 5) (nomark _)) pa_nil))))))) pa_nil)) pa_nil))))))))))))))), ?_⟩
    refine ⟨_, rfl, h, c, 7, rfl, hA, by decide, by decide, fun y H1 y0 y1 p1 b1 => ?_⟩
    have rl1 := rl.monoB b1 hA
    obtain ⟨q, xs, rfl, eq, lx, at_⟩ := rows_at rl1
    have fin : ∀ (x : V) (d : Hc.D) (H6 H7 : Hp), HandAt H6 h c → But h H H6 → Same H6 H7 → Rp H7 h x d → Q x H7 := fun x d H6 H7 p6 b6 s7 r7 => k x d H7 (p6.mono s7) (b6.trans (But.of s7)) r7
    have neq : ∀ a z : Int, a ≠ z → decide (V.int a = V.int z) = false := fun a z n => decide_eq_false fun e => n (V.int.inj e)
    have nth : ∀ {H1 : Hp} {z : Addr} {ys : List V}, HandAt H1 h c → H1 z = some (.tup ys) → z ≠ h := fun p e z => by
      subst z
      obtain ⟨_, z2⟩ := p.lst
      rw [z2] at e; cases e
    have lrm : (rows.map rowD).length ≤ 1000 := by rw [List.length_map]; omega
    refine ⟨_, rfl, rfl, _, rfl, ?_⟩
    by_cases g0 : y = 0
    · rw [show decide (V.int y = V.int 0) = true by rw [g0]; rfl]
      refine iteT (iteT ?_)
      refine ⟨_, rfl, q, _, rfl, .inr (SqT.of eq), fun L1 hL1 => ?_⟩
      obtain ⟨s2, e2, n2, _, p2⟩ := new_facts (o := .lst xs) p1 hL1 rfl
      generalize upd H1 L1 (.lst xs) = H2 at s2 e2 p2 ⊢
      refine ⟨_, rfl, by show 1 ≤ sizeLine; decide, fun t1 ht1 => ?_⟩
      obtain ⟨s3, e3, n3, _, p3⟩ := new_facts (o := .tup [.int 1]) p2 ht1 rfl
      generalize upd H2 t1 (.tup [.int 1]) = H3 at s3 e3 p3 ⊢
      refine ⟨by show 1 ≤ sizeLine; decide, fun t2 ht2 => ?_⟩
      obtain ⟨s4, e4, n4, _, p4⟩ := new_facts (o := .tup [.ref t1]) p3 ht2 rfl
      generalize upd H3 t2 (.tup [.ref t1]) = H4 at s4 e4 p4 ⊢
      have s24 := (s2.trans s3).trans s4
      refine catS (rl1.same s24) (.tup e4 (by simp) (.cons (.tup (s4 _ _ e3) (by simp) (.cons (.int 1) .nil)) .nil)) (by rw [List.length_map]; simp; omega) fun v1 H5 s5 r5 => ?_
      have p5 := p4.mono s5
      refine ⟨_, rfl, ?_⟩
      delta tNoPart
      refine ⟨_, rfl, slS ((rl1.same s24).same s5) fun v2 H6 s6 r6 => ?_⟩
      have p6 := p5.mono s6
      refine ⟨by show 4 ≤ sizeLine; decide, fun L hL => ?_⟩
      obtain ⟨s7, e7, n7, _, p7⟩ := new_facts (o := .lst [.ref L1, .non, v1, v2]) p6 hL rfl
      generalize hE : upd H6 L _ = H7
      have hE' : upd H6 L (.lst [.ref L1, .non, v1, v2]) = H7 := hE
      rw [hE'] at s7 e7 p7
      have s37 := (((s3.trans s4).trans s5).trans s6).trans s7
      refine ⟨_, rfl, h, c, 4, rfl, p7, by decide, by decide, fun z H8 z0 z1 p8 b8 => ?_⟩
      have rall : RpA H8 h [.ref L1, .non, v1, v2] [.lst, .non, .tup (rows.map rowD ++ [.tup [.int 1]]), .tup (cutD (rows.map rowD) (some 1) none)] :=
        .cons ((Rp.lst (s37 _ _ e2) n2 : Rp H7 h (.ref L1) .lst).monoB b8 p7) (.cons .non (.cons (((r5.same s6).same s7).monoB b8 p7) (.cons ((r6.same s7).monoB b8 p7) .nil)))
      obtain ⟨xo, od, h1, h2, h3⟩ := rall.of z0 z1
      refine ⟨L, _, _, xo, rfl, rfl, SqL.of (b8 _ _ e7 n7), h1, ?_⟩
      exact fin xo od H8 H8 p8 ((b1.trans (But.of (s2.trans s37))).trans b8) (Same.refl _) h3
    rw [neq y 0 g0]
    refine iteF ⟨_, rfl, q, _, rfl, .inr (SqT.of eq), rfl, _, rfl, ?_⟩
    by_cases g1 : rows.length = 0
    · rw [show decide (V.int (xs.length : Nat) = V.int 0) = true by rw [show xs.length = 0 by omega]; rfl]
      refine iteT ?_
      refine ⟨_, rfl, q, _, rfl, .inr (SqT.of eq), fun L1 hL1 => ?_⟩
      obtain ⟨s2, e2, n2, _, p2⟩ := new_facts (o := .lst xs) p1 hL1 rfl
      generalize upd H1 L1 (.lst xs) = H2 at s2 e2 p2 ⊢
      refine ⟨_, rfl, by show 1 ≤ sizeLine; decide, fun t1 ht1 => ?_⟩
      obtain ⟨s3, e3, n3, _, p3⟩ := new_facts (o := .tup [.int 1]) p2 ht1 rfl
      generalize upd H2 t1 (.tup [.int 1]) = H3 at s3 e3 p3 ⊢
      refine ⟨by show 1 ≤ sizeLine; decide, fun t2 ht2 => ?_⟩
      obtain ⟨s4, e4, n4, _, p4⟩ := new_facts (o := .tup [.ref t1]) p3 ht2 rfl
      generalize upd H3 t2 (.tup [.ref t1]) = H4 at s4 e4 p4 ⊢
      have s24 := (s2.trans s3).trans s4
      refine catS (rl1.same s24) (.tup e4 (by simp) (.cons (.tup (s4 _ _ e3) (by simp) (.cons (.int 1) .nil)) .nil)) (by rw [List.length_map]; simp; omega) fun v1 H5 s5 r5 => ?_
      have p5 := p4.mono s5
      refine ⟨_, rfl, ?_⟩
      delta tNoPart
      refine ⟨_, rfl, slS ((rl1.same s24).same s5) fun v2 H6 s6 r6 => ?_⟩
      have p6 := p5.mono s6
      refine ⟨by show 4 ≤ sizeLine; decide, fun L hL => ?_⟩
      obtain ⟨s7, e7, n7, _, p7⟩ := new_facts (o := .lst [.ref L1, .non, v1, v2]) p6 hL rfl
      generalize hE : upd H6 L _ = H7
      have hE' : upd H6 L (.lst [.ref L1, .non, v1, v2]) = H7 := hE
      rw [hE'] at s7 e7 p7
      have s37 := (((s3.trans s4).trans s5).trans s6).trans s7
      refine ⟨_, rfl, h, c, 4, rfl, p7, by decide, by decide, fun z H8 z0 z1 p8 b8 => ?_⟩
      have rall : RpA H8 h [.ref L1, .non, v1, v2] [.lst, .non, .tup (rows.map rowD ++ [.tup [.int 1]]), .tup (cutD (rows.map rowD) (some 1) none)] :=
        .cons ((Rp.lst (s37 _ _ e2) n2 : Rp H7 h (.ref L1) .lst).monoB b8 p7) (.cons .non (.cons (((r5.same s6).same s7).monoB b8 p7) (.cons ((r6.same s7).monoB b8 p7) .nil)))
      obtain ⟨xo, od, h1, h2, h3⟩ := rall.of z0 z1
      refine ⟨L, _, _, xo, rfl, rfl, SqL.of (b8 _ _ e7 n7), h1, ?_⟩
      exact fin xo od H8 H8 p8 ((b1.trans (But.of (s2.trans s37))).trans b8) (Same.refl _) h3
    rw [neq (xs.length : Nat) 0 (by omega)]
    refine iteF ⟨_, rfl, _, rfl, q, _, rfl, .inr (SqT.of eq), h, c, _, rfl, p1, by omega, by omega, fun a H2 a0 a1 p2 b2 => ?_⟩
    obtain ⟨a, rfl⟩ := Int.eq_ofNat_of_zero_le a0
    have hal : a < rows.length := by omega
    have rl2 := rl1.monoB b2 p1
    obtain ⟨r, er⟩ : ∃ r, rows[a]? = some r := ⟨_, List.getElem?_eq_getElem hal⟩
    obtain ⟨w1, w8⟩ := hw r (List.mem_of_getElem? er)
    obtain ⟨qb, exv, eqb1⟩ := at_ a r er
    have eq2 := b2 _ _ eq (nth p1 eq)
    have eqb := b2 _ _ eqb1 (nth p1 eqb1)
    refine ⟨_, rfl, _, rfl, q, _, _, _, rfl, rfl, SqT.of eq2, atI_nat exv, ?_⟩
    refine ⟨_, rfl, _, rfl, qb, _, rfl, .inr (SqT.of eqb), h, c, _, rfl, p2, by rw [List.length_map]; omega, by rw [List.length_map]; omega, fun i H3 i0 i1 p3 b3 => ?_⟩
    rw [List.length_map] at i1
    obtain ⟨i, rfl⟩ := Int.eq_ofNat_of_zero_le i0
    have hi : i < r.length := by omega
    have rl3 := rl2.monoB b3 p2
    have eq3 := b3 _ _ eq2 (nth p2 eq2)
    have eqb3 := b3 _ _ eqb (nth p2 eqb)
    have rb3 : Rp H3 h (.ref qb) (rowD r) := .tup eqb3 (by rw [List.length_map]; omega) (RpA.ints r)
    have b13 := (b1.trans b2).trans b3
    have put : ∀ (x : V) (d : Hc.D) (H6 H7 : Hp), HandAt H6 h c → But h H3 H6 → Same H6 H7 → Rp H7 h x d → ∃ (h : Addr) (v x_1 : V) (ds : List Hc.D) (d : Hc.D) (at_ : Nat), [V.ref q, V.int (a : Nat), x] = [v, .int (at_ : Nat), x_1] ∧ Rp H7 h v (.tup ds) ∧ Rp H7 h x_1 d ∧ ds.length ≤ 1000 ∧ ∀ t H', Same H7 H' → Rp H' h t (.tup (cutD ds none (some (at_ : Int)) ++ [d] ++ cutD ds (some ((at_ : Int) + 1)) none)) → Q t H' :=
      fun x d H6 H7 p6 b6 s7 r7 => ⟨h, .ref q, x, _, d, a, rfl, (rl3.monoB b6 p3).same s7, r7, lrm, fun t H8 s8 r8 => fin t _ H6 H8 p6 (b13.trans b6) (s7.trans s8) r8⟩
    refine ⟨_, rfl, rfl, _, rfl, ?_⟩
    by_cases g2 : y = 1
    · rw [show decide (V.int y = V.int 1) = true by rw [g2]; rfl]
      refine iteT ⟨_, rfl, _, rfl, _, rfl, qb, _, rfl, .inr (SqT.of eqb3), fun L1 hL1 => ?_⟩
      obtain ⟨s4, e4, n4, _, p4⟩ := new_facts (o := .lst (r.map V.int)) p3 hL1 rfl
      generalize upd H3 L1 (.lst (r.map V.int)) = H4 at s4 e4 p4 ⊢
      obtain ⟨r', xl, erl⟩ : ∃ r' xl, r = r' ++ [xl] := by
        rcases List.eq_nil_or_concat r with e | ⟨r', xl, e⟩
        · subst e; simp at w1
        · exact ⟨r', xl, by rw [e, List.concat_eq_append]⟩
      have ela : atI (r.map V.int) (-1) = some (.int xl) := by
        rw [erl, List.map_append]
        exact atI_last _ _
      refine ⟨_, rfl, _, rfl, _, rfl, qb, _, _, _, rfl, rfl, SqT.of (s4 _ _ eqb3), ela, _, _, rfl, rfl, by show 1 ≤ sizeLine; decide, fun u hu => ?_⟩
      obtain ⟨s5, e5, n5, _, p5⟩ := new_facts (o := .tup [.int (xl + 3)]) p4 hu rfl
      generalize upd H4 u (.tup [.int (xl + 3)]) = H5 at s5 e5 p5 ⊢
      refine catS ((rb3.same s4).same s5) (.tup e5 (by simp) (.cons (.int _) .nil)) (by rw [List.length_map]; simp; omega) fun v1 H6 s6 r6 => ?_
      have p6 := p5.mono s6
      refine ⟨_, rfl, ?_⟩
      delta tNoPart
      refine ⟨_, rfl, slS (((rb3.same s4).same s5).same s6) fun v2 H7 s7 r7 => ?_⟩
      have p7 := p6.mono s7
      refine ⟨_, rfl, h, c, rfl, p7, fun xo od H8 p8 b8 ro _ => ?_⟩
      refine ⟨by show 4 ≤ sizeLine; decide, fun L hL => ?_⟩
      obtain ⟨s9, e9, n9, _, p9⟩ := new_facts (o := .lst [.ref L1, v1, v2, xo]) p8 hL rfl
      generalize hE : upd H8 L _ = H9
      have hE' : upd H8 L (.lst [.ref L1, v1, v2, xo]) = H9 := hE
      rw [hE'] at s9 e9 p9
      refine ⟨_, rfl, h, c, 4, rfl, p9, by decide, by decide, fun z H10 z0 z1 p10 b10 => ?_⟩
      have s57 := (s5.trans s6).trans s7
      have rall : RpA H10 h [.ref L1, v1, v2, xo] [.lst, .tup (r.map Hc.D.int ++ [.int (xl + 3)]), .tup (cutD (r.map Hc.D.int) (some 1) none), od] :=
        .cons ((((Rp.lst (s57 _ _ e4) n4 : Rp H7 h (.ref L1) .lst).monoB b8 p7).same s9).monoB b10 p9) (.cons ((((r6.same s7).monoB b8 p7).same s9).monoB b10 p9) (.cons (((r7.monoB b8 p7).same s9).monoB b10 p9) (.cons ((ro.same s9).monoB b10 p9) .nil)))
      obtain ⟨xo', od', h1, h2, h3⟩ := rall.of z0 z1
      refine ⟨L, _, _, xo', rfl, rfl, SqL.of (b10 _ _ e9 n9), h1, ?_⟩
      exact put xo' od' H10 H10 p10 ((((But.of (s4.trans s57)).trans b8).trans (But.of s9)).trans b10) (Same.refl _) h3
    rw [neq y 1 g2]
    refine iteF ⟨_, rfl, rfl, _, rfl, ?_⟩
    by_cases g3 : y = 2
    · rw [show decide (V.int y = V.int 2) = true by rw [g3]; rfl]
      refine iteT ⟨_, rfl, _, rfl, _, rfl, _, rfl, _, rfl, h, c, rfl, p3, fun xo od H4 p4 b4 ro _ => ?_⟩
      refine ⟨h, .ref qb, xo, _, od, i, rfl, rb3.monoB b4 p3, ro, (by rw [List.length_map]; omega), fun t H5 s5 r5 => ?_⟩
      exact put t _ H4 H5 p4 b4 s5 r5
    rw [neq y 2 g3]
    refine iteF ⟨_, rfl, rfl, _, rfl, ?_⟩
    by_cases g4 : y = 3
    · rw [show decide (V.int y = V.int 3) = true by rw [g4]; rfl]
      refine iteT ⟨_, rfl, _, rfl, _, rfl, q, _, rfl, .inr (SqT.of eq3), h, c, _, rfl, p3, by omega, by omega, fun j H4 j0 j1 p4 b4 => ?_⟩
      obtain ⟨j, rfl⟩ := Int.eq_ofNat_of_zero_le j0
      have hjl : j < rows.length := by omega
      obtain ⟨r2, er2⟩ : ∃ r, rows[j]? = some r := ⟨_, List.getElem?_eq_getElem hjl⟩
      obtain ⟨w12, w82⟩ := hw r2 (List.mem_of_getElem? er2)
      obtain ⟨qo, exo, eqo1⟩ := at_ j r2 er2
      have eqo2 := b2 _ _ eqo1 (nth p1 eqo1)
      have eqo3 := b3 _ _ eqo2 (nth p2 eqo2)
      have eqo4 := b4 _ _ eqo3 (nth p3 eqo3)
      have eq4 := b4 _ _ eq3 (nth p3 eq3)
      refine ⟨q, _, _, _, rfl, rfl, SqT.of eq4, atI_nat exo, ?_⟩
      refine ⟨_, rfl, _, rfl, _, rfl, _, rfl, _, rfl, _, rfl, _, rfl, qo, _, rfl, .inr (SqT.of eqo4), h, c, _, rfl, p4, by rw [List.length_map]; omega, by rw [List.length_map]; omega, fun m H5 m0 m1 p5 b5 => ?_⟩
      rw [List.length_map] at m1
      obtain ⟨m, rfl⟩ := Int.eq_ofNat_of_zero_le m0
      have hm : m < r2.length := by omega
      refine ⟨qo, _, _, _, rfl, rfl, SqT.of (b5 _ _ eqo4 (nth p4 eqo4)), atI_nat (int_at r2 hm), ?_⟩
      refine ⟨h, .ref qb, .int (r2.getD m 0), _, .int (r2.getD m 0), i, rfl, (rb3.monoB b4 p3).monoB b5 p4, .int _, (by rw [List.length_map]; omega), fun t H6 s6 r6 => ?_⟩
      exact put t _ H5 H6 p5 (b4.trans b5) s6 r6
    rw [neq y 3 g4]
    refine iteF ⟨_, rfl, h, c, 7, rfl, p3, by decide, by decide, fun z H4 z0 z1 p4 b4 => ⟨_, _, rfl, rfl, ?_⟩⟩
    have eqb4 := b4 _ _ eqb3 (nth p3 eqb3)
    refine ⟨_, rfl, _, rfl, _, rfl, qb, _, rfl, .inr (SqT.of eqb4), ((r.map V.int).length : Nat), rfl, by omega, by rw [List.length_map]; omega, fun D hD => ?_⟩
    rw [List.length_map, Int.toNat_natCast]
    refine lc_range (lo := 0) (n := r.length) (fun m H' => Same H4 H' ∧ ∃ ns : List Int, H' D = some (.lst (ns.map V.int)) ∧ ns.length = m) ⟨same_upd hD, [], upd_same, rfl⟩ ?_ ?_
    · rintro m H5 hm ⟨s5, ns, e5, l5⟩
      have e5m : (r.map V.int)[m]? = some (.int (r.getD m 0)) := int_at r hm
      refine ⟨rfl, tyes ⟨_, rfl, _, rfl, qb, _, _, _, rfl, rfl, SqT.of (s5 _ _ eqb4), at_of (j := m) (by omega) e5m, _, rfl, _, rfl, _, rfl, _, _, rfl, rfl, .inr ⟨_, rfl, _, _, rfl, rfl, ?_, _, _, rfl, rfl, _, e5, by rw [List.length_map]; exact line_lt (by omega), same_putX s5 hD, ns ++ [_], by rw [upd_same, List.map_append]; rfl, by rw [List.length_append, l5]; rfl⟩⟩⟩
      by_cases gz : decide (((i : Nat) : Int) ≤ 0 + ((m : Nat) : Int)) = true
      · rw [if_pos gz]; unfold CMul; omega
      · rw [if_neg gz]; unfold CMul; omega
    · rintro H5 ⟨s5, ns, e5, l5⟩
      refine ⟨D, _, rfl, .inl ⟨SqL.of e5, fun u hu => ?_⟩⟩
      have s6 : Same H5 (upd H5 u (.tup (ns.map V.int))) := same_upd hu
      exact put (.ref u) (rowD ns) H4 _ p4 b4 (s5.trans s6) (.tup upd_same (by rw [List.length_map]; omega) (RpA.ints ns))
end
end Hc


set_option Elab.async false
set_option linter.all false
set_option pp.maxSteps 900
set_option maxRecDepth 100000
set_option maxHeartbeats 4000000
set_option autoImplicit false
namespace Hc
open PySem L2
structure PartsOk (n : Int) (rds : List D) (rm tm : List Int) : Prop where
  n0 : 2 ≤ n
  n1 : n ≤ 12
  all : rds.all (isBE n) = true
  l1 : 1 ≤ rds.length
  l2 : rds.length ≤ 24
  lr : rm.length = rds.length
  lt : tm.length = rds.length
  br : ∀ x ∈ rm, 1 ≤ x ∧ x ≤ 3
  bt : ∀ x ∈ tm, 1 ≤ x ∧ x ≤ 3
theorem newSame {H : Hp} {x dx C : Addr} (hx : H x = none) (hdx : H dx = none) : Same H (upd (upd H dx (.own x)) x (.ins C dx [])) := fun b o q => by
  rw [upd_ne (ne_of_none q hx), upd_ne (ne_of_none q hdx)]; exact q
theorem webDue {n : Int} {rds : List D} {rm tm : List Int} (p : PartsOk n rds rm tm) : due (.int n) (.tup rds) (.tup (rm.map Hc.D.int)) (.tup (tm.map Hc.D.int)) = none := by
  have cnt : ∀ ns : List Int, ns.length = rds.length → (∀ x ∈ ns, 1 ≤ x ∧ x ≤ 3) → areBtw (rds.length : Nat) 1 3 (.tup (ns.map Hc.D.int)) = true := fun ns h1 h2 => by
    rw [areBtw_tup, List.length_map, decide_eq_true (show ((ns.length : Nat) : Int) = (rds.length : Nat) by omega), Bool.true_and, List.all_eq_true]
    intro d hd
    obtain ⟨x, hx, rfl⟩ := List.mem_map.mp hd
    exact btw_of (h2 x hx).1 (h2 x hx).2
  have q1 : ¬ isBtw 2 12 (.int n) = false := by rw [btw_of p.n0 p.n1]; decide
  have q2 : ¬ areRoads (num (.int n)) (.tup rds) = false := by
    show ¬ areRoads n (.tup rds) = false
    rw [areRoads_tup, decide_eq_true p.l1, decide_eq_true p.l2, p.all]; decide
  have q3 : ¬ areBtw (dlen (.tup rds)) 1 3 (.tup (rm.map Hc.D.int)) = false := by
    show ¬ areBtw (rds.length : Nat) 1 3 (.tup (rm.map Hc.D.int)) = false
    rw [cnt rm p.lr p.br]; decide
  have q4 : ¬ areBtw (dlen (.tup rds)) 1 3 (.tup (tm.map Hc.D.int)) = false := by
    show ¬ areBtw (rds.length : Nat) 1 3 (.tup (tm.map Hc.D.int)) = false
    rw [cnt tm p.lt p.bt]; decide
  exact (if_neg q1).trans ((if_neg q2).trans ((if_neg q3).trans (if_neg q4)))
theorem webFacts {C : Addr} {H H7 : Hp} {h x dx : Addr} {v2 v3 v4 : V} {n : Int} {rds : List D} {rm tm : List Int} (p : PartsOk n rds rm tm) (r2 : Rp H h v2 (.tup rds)) (r3 : Rp H h v3 (.tup (rm.map D.int))) (r4 : Rp H h v4 (.tup (tm.map D.int))) (hx : H x = none) (hdx : H dx = none)
    (b7 : But x (upd (upd H dx (.own x)) x (.ins C dx [])) H7) (e7 : H7 x = some (.ins C dx (webF (.int n) v2 v3 v4))) : Same H H7 ∧ WebX C H7 h x n rds rm tm := by
  have s7 : Same H H7 := fun b o q => b7 _ _ (newSame hx hdx _ _ q) (ne_of_none q hx)
  exact ⟨s7, ⟨dx, _, _, _, e7, r2.same s7, r3.same s7, r4.same s7⟩, ⟨dx, _, _, _, _, e7, r2.same s7, r3.same s7, r4.same s7⟩, p.all, p.l1, p.l2, p.lr, p.lt, p.br, p.bt⟩
theorem sdayFacts {C CW : Addr} {H H7 : Hp} {h pw x dx : Addr} {v2 v3 : V} {n : Int} {rds : List D} {rm tm : List Int} {ls : List Sl} {rows : List (List Int)} (W : WebX CW H h pw n rds rm tm) (r2 : Rp H h v2 (slsD ls)) (r3 : Rp H h v3 (rowsD rows)) (hx : H x = none) (hdx : H dx = none)
    (b7 : But x (upd (upd H dx (.own x)) x (.ins C dx [])) H7) (e7 : H7 x = some (.ins C dx (dayF (.ref pw) v2 v3))) : Same H H7 ∧ DayX C CW H7 h x n rds rm tm (slsD ls) (rowsD rows) := by
  have s7 : Same H H7 := fun b o q => b7 _ _ (newSame hx hdx _ _ q) (ne_of_none q hx)
  have l1 : (dayF (.ref pw) v2 v3).length < 10 := putF_lt (n := 9) (putF_lt (n := 8) (putF_lt (n := 7) (by decide)))
  exact ⟨s7, ⟨dx, _, pw, v2, v3, e7, by omega, dF_w _ _ _, dF_l _ _ _, dF_h _ _ _, W.same s7, r2.same s7, r3.same s7⟩, isIn_sls ls, isIn_rows rows⟩
theorem SdOk.not {rds : List D} {rm tm : List Int} {ls : List Sl} {rows : List (List Int)} (x : SdOk rds rm tm ls rows) {part : Str} : ¬ DueS rds rm tm (slsD ls) (rowsD rows) part := by
  intro h
  generalize e1 : slsD ls = d2 at h
  generalize e2 : rowsD rows = d3 at h
  cases h with
  | web h => rw [x.p] at h; cases h
  | letters _ h => subst e1; rw [sls_ok x.o x.l] at h; cases h
  | hours _ _ _ h =>
    obtain rfl := sls_inj (D.tup.inj e1)
    subst e2
    rw [hours_ok x.n] at h; cases h
  | early _ _ _ _ h =>
    obtain rfl := sls_inj (D.tup.inj e1)
    obtain rfl := rows_inj (D.tup.inj e2)
    rw [x.e] at h; cases h
  | full _ _ _ _ _ h =>
    obtain rfl := sls_inj (D.tup.inj e1)
    obtain rfl := rows_inj (D.tup.inj e2)
    rw [x.f] at h; cases h
theorem DueS.eq {rds : List D} {rm tm : List Int} {d2 d3 : D} {p q : Str} (a : DueS rds rm tm d2 d3 p) (b : DueS rds rm tm d2 d3 q) : p = q := by
  cases a with
  | web h1 =>
    cases b with
    | web _ => rfl
    | _ => simp_all
  | letters h1 h2 =>
    cases b with
    | web h => rw [h1] at h; cases h
    | letters _ _ => rfl
    | hours _ o l _ => rw [sls_ok o l] at h2; cases h2
    | early _ o l _ _ => rw [sls_ok o l] at h2; cases h2
    | full _ o l _ _ _ => rw [sls_ok o l] at h2; cases h2
  | hours h1 o l h2 =>
    generalize e1 : slsD _ = x at b
    cases b with
    | web h => rw [h1] at h; cases h
    | letters _ h => subst e1; rw [sls_ok o l] at h; cases h
    | hours _ _ _ _ => rfl
    | early _ _ _ n _ => obtain rfl := sls_inj (D.tup.inj e1); rw [hours_ok n] at h2; cases h2
    | full _ _ _ n _ _ => obtain rfl := sls_inj (D.tup.inj e1); rw [hours_ok n] at h2; cases h2
  | early h1 o l n h2 =>
    generalize e1 : slsD _ = x at b
    generalize e2 : rowsD _ = y at b
    cases b with
    | web h => rw [h1] at h; cases h
    | letters _ h => subst e1; rw [sls_ok o l] at h; cases h
    | hours _ _ _ h => obtain rfl := sls_inj (D.tup.inj e1); subst e2; rw [hours_ok n] at h; cases h
    | early _ _ _ _ _ => rfl
    | full _ _ _ _ h _ =>
      obtain rfl := sls_inj (D.tup.inj e1)
      obtain rfl := rows_inj (D.tup.inj e2)
      rw [h2] at h; cases h
  | full h1 o l n h2 h3 =>
    generalize e1 : slsD _ = x at b
    generalize e2 : rowsD _ = y at b
    cases b with
    | web h => rw [h1] at h; cases h
    | letters _ h => subst e1; rw [sls_ok o l] at h; cases h
    | hours _ _ _ h => obtain rfl := sls_inj (D.tup.inj e1); subst e2; rw [hours_ok n] at h; cases h
    | early _ _ _ _ h =>
      obtain rfl := sls_inj (D.tup.inj e1)
      obtain rfl := rows_inj (D.tup.inj e2)
      rw [h2] at h; cases h
    | full _ _ _ _ _ _ => rfl
section
variable {P : Program} {w : World} {K : PySem.W.Frag} {mg : Str → Option Value} {base : Heap}
def spTold (C CW : Addr) : Sp := fun vs H Q _ => ∃ (h pw : Addr) (v2 v3 : V) (d2 d3 : D) (n : Int) (rds : List D) (rm tm : List Int), vs = [.ref pw, v2, v3] ∧ WebX CW H h pw n rds rm tm ∧ Rp H h v2 d2 ∧ Rp H h v3 d3 ∧
  (∀ part H' u, Same H H' → DueS rds rm tm d2 d3 part → H' u = some (.tup [.str "bad", .str part]) → Q (.ref u) H') ∧
  (∀ ls rows H' u p, Same H H' → d2 = slsD ls → d3 = rowsD rows → SdOk rds rm tm ls rows → DayX C CW H' h p n rds rm tm (slsD ls) (rowsD rows) → H' u = some (.tup [.str "made", .ref p]) → Q (.ref u) H')
theorem ok__law_told (T : Tx K mg) : FnOk P w K mg base CX0 11 T._law_told.f T._law_told.fd ["_law_web", "_law_letters", "_law_hours"] (spTold T.SizedDay.C T.Web.C) := by
  refine T._law_told.F.ok sc_law_told (fun vs H Q E h => ?_) (fun cdv A outer s H vs Q E hr h => ?_)
  · obtain ⟨_, _, _, _, _, _, _, _, _, _, rfl, _⟩ := h
    rfl
  · obtain ⟨h, pw, v2, v3, d2, d3, n, rds, rm, tm, rfl, W, r2, r3, k1, k2⟩ := h
    refine ⟨_, (pss_cons (ps_set (i := 3) sc_law_told.nd rfl (Or.inl rfl) (pe_tup (pa_cons pe_str (pa_cons pe_non pa_nil))))
      (pss_cons (ps_try_as (i := 4) (tb := fun W => tAsg (tTup (tCons (tC (.str "made")) (tCons (tMakeS T.SizedDay.C (spSday T.SizedDay.C T.Web.C T.x_BadDay.C) [] (WE W) (tCons (tVar 0) (tCons (tVar 1) (tCons (tVar 2) tNil)))) tNil))) (gName 3)) (ts := fun a cls d => tAsg (tTup (tCons (tC (.str "bad")) (tCons (tXf a cls d T.x_BadDay.C "part" (tVar 4)) tNil))) (gName 3)) (Wout := fun _ _ _ _ => False) rfl rfl sc_law_told.nd rfl rfl ⟨rfl, by decide, Or.inl T.x_BadDay.g⟩ takes0
      (fun W pn xe tk _ => pss_one (ps_set (i := 3) sc_law_told.nd rfl (Or.inl rfl) (by exact (pe_tup (pa_cons pe_str (pa_cons (pe_makeS T.SizedDay.mk1 (ok_SizedDay___init T) (hr.mono (by decide)) rfl T.SizedDay.g T.SizedDay.b .nil (fun σ => passAt tk σ) (by exact (pa_cons (pv 0) (pa_cons (pv 1) (pa_cons (pv 2) pa_nil))))) pa_nil))))))
      (fun a oe cls d pn hz hf => pss_one (ps_set (i := 3) sc_law_told.nd rfl (Or.inl rfl) (by exact (pe_tup (pa_cons pe_str (pa_cons (pe_xf T.x_BadDay.xf (T.x_BadDay.no _ (by simp)) hz hf (pv 4)) pa_nil)))))))
      (pss_one (ps_ret (pv 3))))), ?_⟩
    refine ⟨by show 2 ≤ sizeLine; decide, fun u0 hu0 => ?_⟩
    have s0 := same_upd (o := .tup [.str "made", .non]) hu0
    generalize upd H u0 (.tup [.str "made", .non]) = H0 at s0 ⊢
    refine ⟨_, rfl, _, rfl, _, rfl, fun x dx hx hdx nx => ?_⟩
    have sx := newSame (C := T.SizedDay.C) hx hdx
    refine ⟨h, x, dx, pw, v2, v3, d2, d3, n, rds, rm, tm, rfl, upd_same, (W.same s0).w.same sx, (r2.same s0).same sx, (r3.same s0).same sx, fun ls rows e1 e2 ok H9 b9 e9 => ⟨rfl, ?_⟩, fun part hdue H' dd s' e1 => ?_⟩
    · subst e1 e2
      obtain ⟨s9, X9⟩ := sdayFacts (W.same s0) (r2.same s0) (r3.same s0) hx hdx b9 e9
      refine ⟨by show 2 ≤ sizeLine; decide, fun u hu => ?_⟩
      have s10 := same_upd (o := .tup [.str "made", .ref x]) hu
      exact ⟨_, rfl, k2 ls rows _ u x ((s0.trans s9).trans s10) rfl rfl ok (X9.same s10) upd_same⟩
    · refine ⟨true, T.x_BadDay.te, fun _ a ha => ?_, fun z => by cases z⟩
      have l1 : List.lookup ("part" : Str) [(("part" : Str), V.str part)] = some (V.str part) := by simp [List.lookup]
      refine ⟨_, rfl, rfl, rfl, dd, _, _, rfl, e1, l1, by show 2 ≤ sizeLine; decide, fun u hu => ?_⟩
      have s10 := same_upd (o := .tup [.str "bad", .str part]) hu
      exact ⟨_, rfl, k1 part _ u (((s0.trans sx).trans s').trans s10) hdue upd_same⟩
end
end Hc


set_option Elab.async false
set_option linter.all false
set_option maxRecDepth 100000
set_option maxHeartbeats 1000000
set_option autoImplicit false
namespace L2
open PySem PySem.Spec PyProof.Rows
/-! ### max(xs), xs a tuple of ints -/
section
variable {prog : Program} {w : World} {A : Around} {E : Value → Shared → Prop} {s : Shared} {l : Addr} {its : List Value} {ns : List Int} {Q : Value → Shared → Prop}
theorem max_tup (hh : A.handled = none) (hl : s.heap.IsTuple l its.toArray) (hi : IntsAre its ns) (hne : 0 < ns.length)
    (h : ∀ h' tk M t', (∀ b o, s.heap.get? b = some o → h'.get? b = some o) → M ∈ ns → (∀ a, a ∈ ns → a ≤ M) → Q (.int M t') { s with heap := h', toks := tk }) : wpAny (model prog w) A (call (.builtin "max") [.ref l]) Q E s := by
  obtain ⟨xs, e⟩ := hi.allInts.items
  have hn : numsOf (intItems xs).toList = ns := by rw [← e]; exact hi.numsOf
  rw [nums_intItems] at hn
  subst hn
  rw [e] at hl
  have hsz : 0 < xs.size := by simpa using hne
  refine PySem.call_max_walk (wpAny_pyIter_tuple hl ?_)
  have hlt : l < s.heap.objs.size := by
    obtain ⟨o, ho, _⟩ := hl
    exact Heap.lt_size ho
  refine ⟨s.heap.objs.size, _, _, _, _, _, _, rfl, Walks.tuple (A := A.in1) hh _ l (Nat.ne_of_lt hlt) (intItems xs), ⟨⟨_, Heap.get?_push_size _ rfl, rfl, rfl⟩, hl.at fun o e => Heap.get?_push_of_some _ e⟩, ?_, by simpa [intItems] using hsz, CmpOf.ints_gt (numAt xs) (fun _ _ => intItems_at), fun v h' tk hP hk => ?_⟩
  · intro b hb
    simp at hb
    rcases hb with rfl | rfl
    · show _ < (s.heap.push _).objs.size
      rw [size_push']; exact Nat.lt_succ_self _
    · show _ < (s.heap.push _).objs.size
      rw [size_push']; exact Nat.lt_succ_of_lt hlt
  · have hP : (intItems xs)[argBest (fun i j => decide (numAt xs i > numAt xs j)) (xs.size - 1)]? = some v := by simpa [intItems] using hP
    obtain ⟨t, rfl⟩ := intItems_at hP
    obtain ⟨h1, h2⟩ := argBest_gt (numAt xs) (xs.size - 1)
    refine h h' tk _ t (fun b o e => hk b o (by simp; exact Nat.ne_of_lt (Heap.lt_size e)) (Heap.get?_push_of_some _ e)) ?_ fun a ha => ?_
    · rw [numAt_eq]; exact PySem.getD_mem (by rw [List.length_map, Array.length_toList]; omega)
    · obtain ⟨j, hj, rfl⟩ := mem_getD ha
      rw [List.length_map, Array.length_toList] at hj
      have := h2 j (by omega)
      rw [numAt_eq, numAt_eq] at this
      rw [numAt_eq]
      omega
end
section
variable {X : Cx}
def rMaxT (K : PySem.W.Frag) : List V → Hp → VK → Prop := fun vs H Q => ∃ (a : Addr) (ns : List Int), vs = [V.ref a] ∧ SqT K H a (ns.map V.int) ∧ 0 < ns.length ∧ ∀ m, m ∈ ns → (∀ y, y ∈ ns → y ≤ m) → Q (.int m) H
theorem cr_maxT (hc : X.calm = true) : CallR X (.builtin "max") (rMaxT X.K) := by
  intro pins s σ H vs us Q I r h
  obtain ⟨a, ns, rfl, hs, hne, q⟩ := h
  obtain ⟨its, rv, hl, _⟩ := I.tuple hs
  rw [Vals.ref1 r]
  exact max_tup (I.ok.hd hc) (show s.heap.IsTuple a its.toArray from hl) rv.ints hne fun h' tk m t' hk h1 h2 => ⟨.int _, H, I.kept hk, ⟨_, rfl⟩, q m h1 h2⟩
end
end L2


set_option Elab.async false
set_option linter.all false
set_option pp.maxSteps 900
set_option maxRecDepth 100000
set_option maxHeartbeats 4000000
set_option autoImplicit false
namespace Hc
open PySem L2
theorem neD_same {K : PySem.W.Frag} {H : Hp} {h : Addr} {n : Nat} (hn : n ≤ 64) {v w : V} {a : D} {Q : VK} (r1 : Rp H h v a) (r2 : Rp H h w a) (i : isIn n a = true) (k : Q (.bl false) H) : rNeD K v w H Q := neDP hn r1 r2 i i fun c hc => by
  cases c with
  | false => exact k
  | true => exact absurd rfl (hc.mp rfl)
theorem wTot_le8 {k : Nat} : ∀ {ls : List Lt}, (∀ l ∈ ls, l.1.length ≤ k) → wTot ls ≤ k * ls.length
  | [], _ => Nat.zero_le _
  | l :: ls, h => by
    have h1 := h l (List.mem_cons_self ..)
    have h2 := wTot_le8 (k := k) (ls := ls) fun x hx => h x (List.mem_cons_of_mem _ hx)
    unfold wTot at h2 ⊢
    rw [List.map_cons, List.sum_cons, List.length_cons, Nat.mul_succ]; omega
/-! ### a day an hour later -/
def lat (rows : List (List Int)) : List (List Int) := rows.map fun r => r.map fun x => x + 1
theorem lat_len {ls : List Lt} {rows : List (List Int)} (o : LenOk ls rows) : LenOk ls (lat rows) := by
  refine ⟨by unfold lat; rw [List.length_map]; exact o.1, fun k l r e1 e2 => ?_⟩
  unfold lat at e2
  rw [List.getElem?_map] at e2
  cases e : rows[k]? with
  | none => rw [e] at e2; cases e2
  | some r0 =>
    rw [e] at e2
    cases e2
    rw [List.length_map]
    exact o.2 k l r0 e1 e
theorem lat_early1 {l : Sl} {r : List Int} (h : early1 l r = false) : early1 l (r.map fun x => x + 1) = false := by
  rw [early1_eq] at h ⊢
  rw [List.any_eq_false] at h ⊢
  intro a ha
  rw [List.length_map] at ha
  have hal := List.mem_range.mp ha
  have h0 := h a ha
  have h0 : ¬ r.getD a 0 < leastS l r a := fun z => h0 (decide_eq_true z)
  have g : ∀ b, b < r.length → (r.map fun x => x + 1).getD b 0 = r.getD b 0 + 1 := fun b hb => by
    rw [List.getD_eq_getElem?_getD, List.getElem?_map, List.getD_eq_getElem?_getD, List.getElem?_eq_getElem hb]; rfl
  intro z
  have z := of_decide_eq_true z
  rw [g a hal] at z
  unfold leastS at h0 z
  by_cases q : a = 0
  · rw [if_pos q] at h0 z
    omega
  · rw [if_neg q] at h0 z
    rw [g (a - 1) (by omega)] at z
    omega
theorem lat_early {ls : List Sl} {rows : List (List Int)} (h : earlyS ls rows = false) : earlyS ls (lat rows) = false := by
  unfold earlyS at h ⊢
  rw [List.any_eq_false] at h ⊢
  rintro ⟨l, r⟩ hp
  obtain ⟨k, hk, e⟩ := List.mem_iff_getElem.mp hp
  have e2 : (ls.zip (lat rows))[k]? = some (l, r) := by rw [List.getElem?_eq_getElem hk, e]
  rw [List.getElem?_zip_eq_some] at e2
  obtain ⟨e3, e4⟩ := e2
  unfold lat at e4
  rw [List.getElem?_map] at e4
  cases er : rows[k]? with
  | none => rw [er] at e4; cases e4
  | some r0 =>
    rw [er] at e4
    cases e4
    have hm : (l, r0) ∈ ls.zip rows := by
      have : (ls.zip rows)[k]? = some (l, r0) := by rw [List.getElem?_zip_eq_some]; exact ⟨e3, er⟩
      exact List.mem_of_getElem? this
    have := h _ hm
    rw [Bool.not_eq_true] at this ⊢
    exact lat_early1 this
theorem lat_prsOf (l : Sl) (r : List Int) : prsOf l (r.map fun x => x + 1) = (prsOf l r).map fun e => (e.1, e.2 + 1) := by
  unfold prsOf
  rw [List.zip_map_right, List.flatMap_map, List.map_flatMap]
  congr 1
  funext p
  rw [List.map_map]
  congr 1
  funext k
  show (p.1, p.2 + 1 + (k : Int)) = (p.1, p.2 + (k : Int) + 1)
  rw [Int.add_right_comm]
theorem lat_prs (ls : List Sl) (rows : List (List Int)) : prs ls (lat rows) = (prs ls rows).map fun e => (e.1, e.2 + 1) := by
  unfold prs lat
  rw [List.zip_map_right, List.flatMap_map, List.map_flatMap]
  congr 1
  funext p
  exact lat_prsOf p.1 p.2
theorem lat_full {ls : List Sl} {rows : List (List Int)} (h : fullS ls rows = false) : fullS ls (lat rows) = false := by
  unfold fullS at h ⊢
  have h1 : (prs ls rows).Nodup := by
    by_cases q : (prs ls rows).Nodup
    · exact q
    · rw [decide_eq_false q] at h; cases h
  have h2 : (prs ls (lat rows)).Nodup := by
    rw [lat_prs, List.Nodup, List.pairwise_map]
    refine List.Pairwise.imp ?_ h1
    rintro ⟨a1, a2⟩ ⟨b1, b2⟩ hne z
    refine hne ?_
    have z1 := congrArg Prod.fst z
    have z2 := congrArg Prod.snd z
    have z1 : a1 = b1 := z1
    have z2 : a2 + 1 = b2 + 1 := z2
    rw [z1, show a2 = b2 by omega]
  rw [decide_eq_true h2]; rfl
theorem SdOk.lat {rds : List D} {rm tm : List Int} {ls : List Sl} {rows : List (List Int)} (x : SdOk rds rm tm ls rows) : SdOk rds rm tm ls (lat rows) := ⟨x.p, x.o, x.l, lat_len x.n, lat_early x.e, lat_full x.f⟩
theorem lat_ne {rds : List D} {rm tm : List Int} {ls : List Sl} {rows : List (List Int)} (x : SdOk rds rm tm ls rows) : (rows = lat rows) ↔ ls.length = 0 := by
  obtain ⟨l1, l2⟩ := ltOf_len x.n
  constructor
  · intro e
    refine Classical.byContradiction fun z => ?_
    have h0 : 0 < ls.length := by omega
    have h1 : 0 < rows.length := by omega
    have hl := l2 0 ls[0] rows[0] (List.getElem?_eq_getElem h0) (List.getElem?_eq_getElem h1)
    have ho := (x.o.h ls[0] (List.getElem_mem h0)).1
    have e0 : rows[0]? = (Hc.lat rows)[0]? := by rw [← e]
    unfold Hc.lat at e0
    rw [List.getElem?_map, List.getElem?_eq_getElem h1] at e0
    have e0 := Option.some.inj e0
    have e1 := congrArg (·[0]?) e0
    simp only [List.getElem?_map] at e1
    rw [List.getElem?_eq_getElem (show 0 < rows[0].length by omega)] at e1
    have e1 : rows[0][0] = rows[0][0] + 1 := Option.some.inj e1
    omega
  · intro e
    have : rows = [] := List.eq_nil_of_length_eq_zero (by omega)
    rw [this]; rfl
section
variable {P : Program} {w : World} {K : PySem.W.Frag} {mg : Str → Option Value} {base : Heap}
theorem rep_ones {H : Hp} {h c : Addr} (hA : HandAt H h c) {m : Nat} (m1 : 1 ≤ m) (m2 : m ≤ 1000) {Q : VK} (k : ∀ v H', HandAt H' h c → Same H H' → Rp H' h v (.tup ((List.replicate m (1 : Int)).map D.int)) → Q v H') {p : Addr} (hp : H p = none) : rRepA K (.ref p) (.int (m : Nat)) (upd H p (.tup [.int 1])) Q := by
  obtain ⟨s1, e1, n1, _, hA1⟩ := new_facts (o := .tup [.int 1]) hA hp rfl
  generalize upd H p (.tup [.int 1]) = H1 at s1 e1 hA1 ⊢
  refine ⟨p, m, [.int 1], rfl, rfl, SqT.of e1, by simp, by omega, by omega, by simp, fun e => ?_, fun e q hq => ?_⟩
  · have : m = 1 := by omega
    subst this
    exact k _ _ hA1 s1 (.tup e1 (by simp) (.cons (.int 1) .nil))
  · have s2 := same_upd (o := .tup (List.replicate ((m : Nat) : Int).toNat [V.int 1]).flatten) hq
    refine k _ _ (hA1.mono s2) (s1.trans s2) ?_
    rw [List.map_replicate]
    rw [Int.toNat_natCast]
    exact .tup upd_same (by simp; omega) (RpA.rep (.int 1) m)
theorem nt {H : Hp} {h c z : Addr} {ys : List V} (hA : HandAt H h c) (e : H z = some (.tup ys)) : z ≠ h := fun q => by
  subst q
  obtain ⟨_, z2⟩ := hA.lst
  rw [z2] at e; cases e
theorem ones_mem {m : Nat} : ∀ x ∈ List.replicate m (1 : Int), 1 ≤ x ∧ x ≤ 3 := fun x hx => by rw [List.eq_of_mem_replicate hx]; decide
/-- what stays while the law draws -/
structure LwS (C : Addr) (H : Hp) (h c pw pc : Addr) (vr vm vt : V) (n : Int) (rds : List D) (rm tm : List Int) : Prop where
  p : HandAt H h c
  W : WebX C H h pw n rds rm tm
  R : RdL H h vr n rds
  e : H pc = some (.tup [vm, vt])
  r3 : Rp H h vm (.tup (rm.map D.int))
  r4 : Rp H h vt (.tup (tm.map D.int))
theorem LwS.but {C : Addr} {H H' : Hp} {h c pw pc : Addr} {vr vm vt : V} {n : Int} {rds : List D} {rm tm : List Int} (x : LwS C H h c pw pc vr vm vt n rds rm tm) (b : But h H H') (p : HandAt H' h c) : LwS C H' h c pw pc vr vm vt n rds rm tm :=
  ⟨p, x.W.nl (b.nl x.p.lst), x.R.nl (b.nl x.p.lst), b _ _ x.e (nt x.p x.e), x.r3.monoB b x.p, x.r4.monoB b x.p⟩
theorem LwS.same {C : Addr} {H H' : Hp} {h c pw pc : Addr} {vr vm vt : V} {n : Int} {rds : List D} {rm tm : List Int} (x : LwS C H h c pw pc vr vm vt n rds rm tm) (s : Same H H') : LwS C H' h c pw pc vr vm vt n rds rm tm := x.but (But.of s) (x.p.mono s)
theorem DueS.sh {rds : List D} {rm tm : List Int} {d2 d3 : D} {p : Str} (a : DueS rds rm tm d2 d3 p) : SeqAt.shaped (.tuple [.str "bad", .str p]) = true ∧ PyData.canLay0 (.tuple [.str "bad", .str p]) = true := by
  cases a <;> exact ⟨by decide +kernel, by decide +kernel⟩
theorem strsTup {K : PySem.W.Frag} {H : Hp} {u v : Addr} {a b : Str} {Q : VK} (hs : SeqAt.shaped (.tuple [.str a, .str b]) = true ∧ PyData.canLay0 (.tuple [.str a, .str b]) = true) (e1 : H u = some (.tup [.str a, .str b])) (e2 : H v = some (.tup [.str a, .str b])) (k : Q (.bl true) H) : rEqD K (.ref u) (.ref v) H Q := by
  have sh := hs.1
  refine ⟨.tuple [.str a, .str b], .tuple [.str a, .str b], .tup (SqT.of e1) (.cons (.str a) (.cons (.str b) .nil)), .tup (SqT.of e2) (.cons (.str a) (.cons (.str b) .nil)), sh, sh, ?_⟩
  rw [PySem.SeqAt.eqv_refl _ hs.2]
  exact k
def spLaw (K : PySem.W.Frag) : Sp := fun vs H Q _ => ∃ (a : Addr) (ns : List Int), vs = [.ref a] ∧ SqL K H a (ns.map V.int) ∧ ns.length ≤ 63 ∧ ∀ H', Q (.bl true) H'
theorem ok_law (T : Tx K mg) : FnOk P w K mg base CX0 14 T.law.f T.law.fd ["_law_script"] (spLaw K) := by
  refine T.law.F.ok sc_law (fun vs H Q E h => ?_) (fun cdv A outer s H vs Q E hr h => ?_)
  · obtain ⟨a, ns, rfl, _⟩ := h
    rfl
  · obtain ⟨a, ns, rfl, hS, hl, k⟩ := h
    refine ⟨_, (pss_cons (ps_set (i := 1) sc_law.nd rfl (Or.inl rfl) (pe_call (ok__law_hand T) (hr.mono (by decide)) rfl T._law_hand.g T._law_hand.F.kp T._law_hand.b .nil pass0 (pa_cons (pv 0) pa_nil)))
      (pss_cons (ps_set (i := 2) sc_law.nd rfl (Or.inl rfl) (pe_op op_add pe_int (pe_call (ok__law_draw T) (hr.mono (by decide)) rfl T._law_draw.g T._law_draw.F.kp T._law_draw.b .nil pass0 (pa_cons (pv 1) (pa_cons pe_int pa_nil)))))
      (pss_cons (ps_set (i := 3) sc_law.nd rfl (Or.inl rfl) (pe_call (ok__law_roads T) (hr.mono (by decide)) rfl T._law_roads.g T._law_roads.F.kp T._law_roads.b .nil pass0 (pa_cons (pv 1) (pa_cons (pv 2) (pa_cons (pe_op op_add pe_int (pe_call (ok__law_draw T) (hr.mono (by decide)) rfl T._law_draw.g T._law_draw.F.kp T._law_draw.b .nil pass0 (pa_cons (pv 1) (pa_cons pe_int pa_nil)))) pa_nil)))))
      (pss_cons (ps_set (i := 4) sc_law.nd rfl (Or.inl rfl) (pe_tup (pa_cons (pe_op op_repA (pe_tup (pa_cons pe_int pa_nil)) (pe_callB call_len_seq (by rfl) T.n_len (by decide +kernel) (pa_cons (pv 3) pa_nil))) (pa_cons (pe_op op_repA (pe_tup (pa_cons pe_int pa_nil)) (pe_callB call_len_seq (by rfl) T.n_len (by decide +kernel) (pa_cons (pv 3) pa_nil))) pa_nil))))
      (C8.pss_cut (ps_if (pt_cmpR op_eq (pe_call (ok__law_draw T) (hr.mono (by decide)) rfl T._law_draw.g T._law_draw.F.kp T._law_draw.b .nil pass0 (pa_cons (pv 1) (pa_cons pe_int pa_nil))) pe_int (nomark _))
      (pss_one (ps_set (i := 4) sc_law.nd rfl (Or.inl rfl) (pe_tup (pa_cons (pe_call (ok__law_counts T) (hr.mono (by decide)) rfl T._law_counts.g T._law_counts.F.kp T._law_counts.b .nil pass0 (pa_cons (pv 1) (pa_cons (pe_callB call_len_seq (by rfl) T.n_len (by decide +kernel) (pa_cons (pv 3) pa_nil)) (pa_cons pe_int pa_nil)))) (pa_cons (pe_call (ok__law_counts T) (hr.mono (by decide)) rfl T._law_counts.g T._law_counts.F.kp T._law_counts.b .nil pass0 (pa_cons (pv 1) (pa_cons (pe_callB call_len_seq (by rfl) T.n_len (by decide +kernel) (pa_cons (pv 3) pa_nil)) (pa_cons pe_int pa_nil)))) pa_nil)))))
      pss_nil)
      (pss_cons (ps_set (i := 5) sc_law.nd rfl (Or.inl rfl) (pe_make T.Web.mk1 (ok_Web___init T) (hr.mono (by decide)) rfl T.Web.g T.Web.b .nil passL (pa_cons (pv 2) (pa_cons (pv 3) (pa_cons (pe_ix ix_tup (pv 4) pe_int (fun _ _ => rfl)) (pa_cons (pe_ix ix_tup (pv 4) pe_int (fun _ _ => rfl)) pa_nil))))))
      (C8.pss_cut (ps_set (i := 6) sc_law.nd rfl (Or.inl rfl) (pe_cmpR op_eq (pe_callB (cr_maxT rfl) (by rfl) T.n_max (by decide +kernel) (pa_cons (pe_op op_catA (pe_ix ix_tup (pv 4) pe_int (fun _ _ => rfl)) (pe_ix ix_tup (pv 4) pe_int (fun _ _ => rfl))) pa_nil)) pe_int (nomark _)))
      (C8.pss_cut (ps_set (i := 7) sc_law.nd rfl (Or.inl rfl) (pe_call (ok__law_sized_letters T) (hr.mono (by decide)) rfl T._law_sized_letters.g T._law_sized_letters.F.kp T._law_sized_letters.b .nil pass0 (pa_cons (pv 1) (pa_cons (pv 3) (pa_cons (pe_call (ok__law_draw T) (hr.mono (by decide)) rfl T._law_draw.g T._law_draw.F.kp T._law_draw.b .nil pass0 (pa_cons (pv 1) (pa_cons pe_int pa_nil))) (pa_cons pe_int pa_nil))))))
      (C8.pss_cut (ps_set (i := 8) sc_law.nd rfl (Or.inl rfl) (pe_call (ok__law_sized_hours T) (hr.mono (by decide)) rfl T._law_sized_hours.g T._law_sized_hours.F.kp T._law_sized_hours.b .nil pass0 (pa_cons (pv 1) (pa_cons (pv 3) (pa_cons (pv 7) pa_nil)))))
      (pss_cons (ps_set (i := 9) sc_law.nd rfl (Or.inl rfl) (pe_call (ok__law_draw T) (hr.mono (by decide)) rfl T._law_draw.g T._law_draw.F.kp T._law_draw.b .nil pass0 (pa_cons (pv 1) (pa_cons pe_int pa_nil))))
      (C8.pss_cut (ps_if (PW.pt (pw_or (pt_cmpR op_eq (pv 9) pe_int (nomark _)) (pw_or1 (pt_cmpR op_eq (pv 9) pe_int (nomark _)))))
      (pss_one (ps_set (i := 7) sc_law.nd rfl (Or.inl rfl) (pe_call (ok__law_spoiled_letters T) (hr.mono (by decide)) rfl T._law_spoiled_letters.g T._law_spoiled_letters.F.kp T._law_spoiled_letters.b .nil pass0 (pa_cons (pv 1) (pa_cons (pv 3) (pa_cons (pv 7) pa_nil))))))
      pss_nil)
      (C8.pss_cut (ps_if (pt_cmpR op_gt (pv 9) pe_int (nomark _))
      (pss_one (ps_set (i := 8) sc_law.nd rfl (Or.inl rfl) (pe_call (ok__law_spoiled_hours T) (hr.mono (by decide)) rfl T._law_spoiled_hours.g T._law_spoiled_hours.F.kp T._law_spoiled_hours.b .nil pass0 (pa_cons (pv 1) (pa_cons (pv 8) pa_nil)))))
      pss_nil)
      (C8.pss_cut (ps_set (i := 10) sc_law.nd rfl (Or.inl rfl) (pe_call (ok__law_fault T) (hr.mono (by decide)) rfl T._law_fault.g T._law_fault.F.kp T._law_fault.b .nil pass0 (pa_cons (pv 6) (pa_cons (pv 3) (pa_cons (pv 7) (pa_cons (pv 8) pa_nil))))))
      (C8.pss_cut (ps_set (i := 11) sc_law.nd rfl (Or.inl rfl) (pe_call (ok__law_told T) (hr.mono (by decide)) rfl T._law_told.g T._law_told.F.kp T._law_told.b .nil pass0 (pa_cons (pv 5) (pa_cons (pv 7) (pa_cons (pv 8) pa_nil)))))
      (pss_cons (ps_if (pt_cmpR op_notN (pv 10) pe_non (nomark _))
      (pss_one (ps_ret (pe_cmpR (op_eqD hr.units) (pv 11) (pe_tup (pa_cons pe_str (pa_cons (pv 10) pa_nil))) (nomark _))))
      pss_nil)
      (pss_cons (ps_set (i := 12) sc_law.nd rfl (Or.inl rfl) (pe_ix ix_tup (pv 11) pe_int (fun _ _ => rfl)))
      (C8.pss_cut (ps_if (PW.pt (pw_or (pt_cmpR op_ne (pe_ix ix_tup (pv 11) pe_int (fun _ _ => rfl)) pe_str (nomark _)) (pw_or (pt_cmpR (op_neO (webEqR T) T.e_Web.i T.e_Web.t T.e_Web.ne T.e_Web.sb (hr.mono (by decide)) pass0) (pe_fld (pv 12) rfl) (pv 5) (nomark _)) (pw_or (pt_cmpR (op_neD hr.units) (pe_fld (pv 12) rfl) (pv 7) (nomark _)) (pw_or1 (pt_cmpR (op_neD hr.units) (pe_fld (pv 12) rfl) (pv 8) (nomark _)))))))
      (pss_one (ps_ret pe_bl))
      pss_nil)
      (pss_cons (ps_if (pt_not (pt_val (pe_call (ok__law_flag T) (hr.mono (by decide)) rfl T._law_flag.g T._law_flag.F.kp T._law_flag.b .nil pass0 (pa_cons (pe_cmpR (op_eqO (sdayEqR T) T.e_SizedDay.i T.e_SizedDay.t (hr.mono (by decide)) pass0) (pv 12) (pe_make T.SizedDay.mk1 (ok_SizedDay___init T) (hr.mono (by decide)) rfl T.SizedDay.g T.SizedDay.b .nil passL (pa_cons (pe_make T.Web.mk1 (ok_Web___init T) (hr.mono (by decide)) rfl T.Web.g T.Web.b .nil passL (pa_cons (pv 2) (pa_cons (pv 3) (pa_cons (pe_ix ix_tup (pv 4) pe_int (fun _ _ => rfl)) (pa_cons (pe_ix ix_tup (pv 4) pe_int (fun _ _ => rfl)) pa_nil))))) (pa_cons (pv 7) (pa_cons (pv 8) pa_nil)))) (nomark _)) (pa_cons pe_bl pa_nil)))))
      (pss_one (ps_ret pe_bl))
      pss_nil)
      (C8.pss_cut (ps_set (i := 13) sc_law.nd rfl (Or.inl rfl) (pe_callTy call_tuple_of (by rfl) T.n_tuple (by decide +kernel) (pa_cons (pe_lc (own := [("_law_row", 14)]) (g := (gName 14)) (tt := tYes) (te := (tCB (rTupOf K) (tCons (tLc (iTup K (tVar 14)) (gName 15) tYes (tOp (rI0 fun i j => .int (i + j)) (tVar 15) (tC (.int 1))) (([("_law_hour", 15)] : List (Str × Nat)).map (·.2))) tNil))) rfl sc_law.nd (pi_tup (pv 8)) (blkOk_by (own := [("_law_row", 14)]) (N := ["_law_script", "_law_hand_here", "_law_houses", "_law_roads_here", "_law_counts_here", "_law_web", "_law_plain", "_law_letters", "_law_hours", "_law_spoil", "_law_fault_here", "_law_told_here", "_law_day", "_law_later", "_law_row", "_law_hour"]) (sc := defScope s_law) (by decide +kernel)) (fun _ _ _ _ _ => (pg_name (i := 14) sc_law.nd rfl (Or.inl rfl))) (fun _ _ _ _ _ => pts_nil) (fun _ _ _ _ _ => (by exact (pe_callTy call_tuple_of (by rfl) T.n_tuple (by decide +kernel) (pa_cons (pe_lc (own := [("_law_hour", 15)]) (g := (gName 15)) (tt := tYes) rfl sc_law.nd (pi_tup (pv 14)) (blkOk_by (own := [("_law_hour", 15)]) (N := ["_law_script", "_law_hand_here", "_law_houses", "_law_roads_here", "_law_counts_here", "_law_web", "_law_plain", "_law_letters", "_law_hours", "_law_spoil", "_law_fault_here", "_law_told_here", "_law_day", "_law_later", "_law_row", "_law_hour"]) (sc := ({ kind := .function, names := [(".0", .local), ("_law_row", .local), ("tuple", .globalImplicit)], isGenerator := false, isCoroutine := false } : Scope)) (by decide +kernel)) (fun _ _ _ _ _ => (pg_name (i := 15) sc_law.nd rfl (Or.inl rfl))) (fun _ _ _ _ _ => pts_nil) (fun _ _ _ _ _ => (by exact (pe_op op_add (pv 15) pe_int)))) pa_nil))))) pa_nil)))
      (pss_cons (ps_if (pt_not (pt_val (pe_call (ok__law_flag T) (hr.mono (by decide)) rfl T._law_flag.g T._law_flag.F.kp T._law_flag.b .nil pass0 (pa_cons (pe_cmpR (op_eqO (sdayEqR T) T.e_SizedDay.i T.e_SizedDay.t (hr.mono (by decide)) pass0) (pv 12) (pe_make T.SizedDay.mk1 (ok_SizedDay___init T) (hr.mono (by decide)) rfl T.SizedDay.g T.SizedDay.b .nil passL (pa_cons (pv 5) (pa_cons (pv 7) (pa_cons (pv 13) pa_nil)))) (nomark _)) (pa_cons (pe_cmpR op_eq (pe_callB call_len_seq (by rfl) T.n_len (by decide +kernel) (pa_cons (pv 7) pa_nil)) pe_int (nomark _)) pa_nil)))))
      (pss_one (ps_ret pe_bl))
      pss_nil)
      (pss_one (ps_ret (pe_not (pe_or (pe_cmpR (op_eqO (sdayEqR T) T.e_SizedDay.i T.e_SizedDay.t (hr.mono (by decide)) pass0) (pv 12) pe_non (nomark _)) (pe_or (pe_cmpR (op_eqO (sdayEqR T) T.e_SizedDay.i T.e_SizedDay.t (hr.mono (by decide)) pass0) (pv 12) (pv 8) (nomark _)) (pe_one (pe_cmpR (op_eqO (sdayEqR T) T.e_SizedDay.i T.e_SizedDay.t (hr.mono (by decide)) pass0) (pv 12) (pe_tup (pa_cons (pv 5) (pa_cons (pv 7) (pa_cons (pv 8) pa_nil)))) (nomark _)))))))))))))))))))))))))))), ?_⟩
    refine ⟨_, rfl, a, ns, rfl, hS, hl, fun h c H0 s0 p0 => ?_⟩
    clear hS hl s0
    refine ⟨_, rfl, h, c, 5, rfl, p0, by decide, by decide, fun x H1 x0 x1 p1 b1 => ⟨_, _, rfl, rfl, ?_⟩⟩
    refine ⟨_, rfl, _, rfl, _, rfl, h, c, 8, rfl, p1, by decide, by decide, fun y H2 y0 y1 p2 b2 => ⟨_, _, rfl, rfl, h, c, 2 + x, 1 + y, rfl, p2, by omega, by omega, by omega, by omega, fun vr rds H3 p3 b3 rr all lr => ?_⟩⟩
    clear b1 b2 b3 p1 p2 p0
    obtain ⟨qr, xr, rfl, eqr, _, rxr⟩ := tup_inv rr
    have lxr := rxr.len
    refine ⟨by show 1 ≤ sizeLine; decide, fun p hp => ?_⟩
    have s4 := same_upd (o := .tup [.int 1]) hp
    refine ⟨_, rfl, qr, _, rfl, .inr (SqT.of (s4 _ _ eqr)), rep_ones p3 (by omega) (by omega) (fun vm H4 p4 s4 rvm => ?_) hp⟩
    refine ⟨by show 1 ≤ sizeLine; decide, fun p5 hp5 => ?_⟩
    have s5 := same_upd (o := .tup [.int 1]) hp5
    refine ⟨_, rfl, qr, _, rfl, .inr (SqT.of (s5 _ _ (s4 _ _ eqr))), rep_ones p4 (by omega) (by omega) (fun vt H5 p5' s5 rvt => ?_) hp5⟩
    have rr5 := (rr.same s4).same s5
    have rvm5 := rvm.same s5
    have eqr5 := s5 _ _ (s4 _ _ eqr)
    refine ⟨by show 2 ≤ sizeLine; decide, fun pc0 hpc0 => ?_⟩
    obtain ⟨s6, e6, n6, _, p6⟩ := new_facts (o := .tup [vm, vt]) p5' hpc0 rfl
    generalize upd H5 pc0 (.tup [vm, vt]) = H6 at s6 e6 p6 ⊢
    -- the counts
    refine ⟨fun σ' H' => ∃ (pc : Addr) (vm vt : V) (rm tm : List Int), σ' = [some (.ref a), some (.ref h), some (.int (2 + x)), some (.ref qr), some (.ref pc), none, none, none, none, none, none, none, none, none, none, none] ∧ HandAt H' h c ∧ H' pc = some (.tup [vm, vt]) ∧ Rp H' h (.ref qr) (.tup rds) ∧ Rp H' h vm (.tup (rm.map Hc.D.int)) ∧ Rp H' h vt (.tup (tm.map Hc.D.int)) ∧ PartsOk (2 + x) rds rm tm, ?_, ?_⟩
    · refine ⟨_, rfl, h, c, 8, rfl, p6, by decide, by decide, fun z H7 z0 z1 p7 b7 => ⟨rfl, _, rfl, ?_⟩⟩
      have rr7 := (rr5.same s6).monoB b7 p6
      have eqr7 := b7 _ _ (s6 _ _ eqr5) (nt p6 (s6 _ _ eqr5))
      refine ite2 (fun _ => ?_) (fun _ => ?_)
      · refine ⟨_, rfl, _, rfl, qr, _, rfl, .inr (SqT.of eqr7), h, c, _, 2, rfl, p7, by omega, by omega, by omega, by omega, fun vm' ns H8 p8 b8 r8 ln bn => ?_⟩
        refine ⟨_, rfl, _, rfl, qr, _, rfl, .inr (SqT.of (b8 _ _ eqr7 (nt p7 eqr7))), h, c, _, 3, rfl, p8, by omega, by omega, by omega, by omega, fun vt' ms H9 p9 b9 r9 lm bm => ?_⟩
        refine ⟨by show 2 ≤ sizeLine; decide, fun pc hpc => ?_⟩
        obtain ⟨s10, e10, n10, _, p10⟩ := new_facts (o := .tup [vm', vt']) p9 hpc rfl
        exact ⟨_, vm', vt', ns, ms, rfl, p10, e10, ((rr7.monoB b8 p7).monoB b9 p8).same s10, (r8.monoB b9 p8).same s10, r9.same s10, ⟨by omega, by omega, all, by omega, by omega, by omega, by omega, bn, bm⟩⟩
      · exact ⟨pc0, vm, vt, _, _, rfl, p7, b7 _ _ e6 n6, rr7, (rvm5.same s6).monoB b7 p6, (rvt.same s6).monoB b7 p6, ⟨by omega, by omega, all, by omega, by omega, by rw [List.length_replicate]; omega, by rw [List.length_replicate]; omega, ones_mem, ones_mem⟩⟩
    clear rr5 rvm5 eqr5 s6 e6 n6 p6 hpc0 s4 s5 rvm rvt p5' p4 eqr rr rxr p3 hp5 hp
    rintro σ' H6 ⟨pc, vm, vt, rm, tm, rfl, p6, e6, rr6, rvm6, rvt6, po⟩
    -- the web
    refine ⟨_, rfl, _, rfl, _, rfl, pc, _, 0, _, rfl, rfl, SqT.of e6, atI_nat (j := 0) rfl, _, rfl, pc, _, 1, _, rfl, rfl, SqT.of e6, atI_nat (j := 1) rfl, fun pw dx hx hdx nx => ?_⟩
    have sx := newSame (C := T.Web.C) hx hdx
    refine ⟨h, pw, dx, .int (2 + x), _, _, _, .int (2 + x), .tup rds, .tup (rm.map Hc.D.int), .tup (tm.map Hc.D.int), rfl, upd_same, .int _, rr6.same sx, rvm6.same sx, rvt6.same sx, fun _ H7 b7 e7 => ⟨rfl, ?_⟩, fun part hd => by rw [webDue po] at hd; cases hd⟩
    obtain ⟨s7, X7⟩ := webFacts po rr6 rvm6 rvt6 hx hdx b7 e7
    have L7 : LwS T.Web.C H7 h c pw pc (.ref qr) vm vt (2 + x) rds rm tm := ⟨p6.mono s7, X7, ⟨rr6.same s7, all, by omega, by omega⟩, s7 _ _ e6, rvm6.same s7, rvt6.same s7⟩
    clear s7 X7 b7 e7 sx hx hdx nx rr6 rvm6 rvt6 e6 p6
    -- plain
    refine ⟨fun σ' H' => σ' = [some (.ref a), some (.ref h), some (.int (2 + x)), some (.ref qr), some (.ref pc), some (.ref pw), some (.bl (plainB rm tm)), none, none, none, none, none, none, none, none, none] ∧ LwS T.Web.C H' h c pw pc (.ref qr) vm vt (2 + x) rds rm tm, ?_, ?_⟩
    · refine ⟨_, rfl, pc, _, 0, _, rfl, rfl, SqT.of L7.e, atI_nat (j := 0) rfl, _, rfl, pc, _, 1, _, rfl, rfl, SqT.of L7.e, atI_nat (j := 1) rfl, ?_⟩
      have lrm := po.lr
      have ltm := po.lt
      refine catS L7.r3 L7.r4 (by rw [List.length_map, List.length_map]; omega) fun v8 H8 s8 r8 => ?_
      rw [← List.map_append] at r8
      obtain ⟨q8, x8, rfl, e8, _, ra8⟩ := tup_inv r8
      rw [ra8.ints_inv] at e8
      refine ⟨q8, rm ++ tm, rfl, SqT.of e8, by rw [List.length_append]; omega, fun m hm hmax => ⟨rfl, ?_⟩⟩
      have em : decide (V.int m = V.int 1) = plainB rm tm := by
        rw [int_eqd]
        unfold plainB
        rw [Bool.eq_iff_iff, decide_eq_true_eq, List.all_eq_true]
        constructor
        · intro e1 y hy
          have h1 := hmax y hy
          have h2 : 1 ≤ y := by
            rcases List.mem_append.mp hy with hy | hy
            · exact (po.br y hy).1
            · exact (po.bt y hy).1
          exact decide_eq_true (by omega)
        · exact fun hh => of_decide_eq_true (hh m hm)
      rw [em]
      exact ⟨rfl, L7.same s8⟩
    clear L7
    rintro σ' H8 ⟨rfl, L8⟩
    -- the letters
    refine ⟨fun σ' H' => ∃ (vl : V) (ls : List Sl), σ' = [some (.ref a), some (.ref h), some (.int (2 + x)), some (.ref qr), some (.ref pc), some (.ref pw), some (.bl (plainB rm tm)), some vl, none, none, none, none, none, none, none, none] ∧ LwS T.Web.C H' h c pw pc (.ref qr) vm vt (2 + x) rds rm tm ∧ Rp H' h vl (slsD ls) ∧ SOk rds ls ∧ ls.length ≤ 5 ∧ ∀ l ∈ ls, l.2.1 ≤ 8 ∧ (l.1.length : Int) ≤ 5, ?_, ?_⟩
    · refine ⟨_, rfl, _, rfl, _, rfl, h, c, 6, rfl, L8.p, by decide, by decide, fun y H9 y0 y1 p9 b9 => ?_⟩
      obtain ⟨m, rfl⟩ := Int.eq_ofNat_of_zero_le y0
      have L9 := L8.but b9 p9
      refine ⟨h, c, .ref qr, _, rds, m, 5, rfl, p9, L9.R, by omega, by decide, by decide, fun vl ls H10 p10 b10 r10 l10 o10 c10 => ?_⟩
      exact ⟨vl, ls, rfl, L9.but b10 p10, r10, o10, by omega, c10⟩
    clear L8
    rintro σ' H9 ⟨vl, ls, rfl, L9, rl9, o, l5, c8⟩
    have w5 : ∀ l ∈ ls, l.1.length ≤ 5 := fun l hl => by have := (c8 l hl).2; omega
    have wt : wTot (ls.map ltOf) ≤ 100 := by
      have := wTot_le8 (k := 5) (ls := ls.map ltOf) fun l hl => by
        obtain ⟨l0, h0, rfl⟩ := List.mem_map.mp hl
        exact w5 l0 h0
      rw [List.length_map] at this
      omega
    -- the hours
    refine ⟨fun σ' H' => ∃ (vh : V) (rows : List (List Int)), σ' = [some (.ref a), some (.ref h), some (.int (2 + x)), some (.ref qr), some (.ref pc), some (.ref pw), some (.bl (plainB rm tm)), some vl, some vh, none, none, none, none, none, none, none] ∧ LwS T.Web.C H' h c pw pc (.ref qr) vm vt (2 + x) rds rm tm ∧ Rp H' h vl (slsD ls) ∧ Rp H' h vh (rowsD rows) ∧ LenOk (ls.map ltOf) rows, ?_, ?_⟩
    · refine ⟨_, rfl, _, rfl, _, rfl, h, c, .ref qr, vl, rds, ls, rfl, L9.p, L9.R.r, noL_be all, by omega, rl9, o, by omega, fun l hl => (c8 l hl).1, wt, fun vh rows H10 p10 b10 rh ok => ?_⟩
      exact ⟨vh, rows, rfl, L9.but b10 p10, rl9.monoB b10 L9.p, rh, ok⟩
    clear L9 rl9
    rintro σ' H10 ⟨vh, rows, rfl, L10, rl10, rh10, ok⟩
    obtain ⟨lr1, lk1⟩ := ltOf_len ok
    -- what is spoiled
    refine ⟨_, rfl, h, c, 5, rfl, L10.p, by decide, by decide, fun sp H11 sp0 sp1 p11 b11 => ?_⟩
    have L11 := L10.but b11 p11
    have rl11 := rl10.monoB b11 L10.p
    have rh11 := rh10.monoB b11 L10.p
    clear L10 rl10 rh10 b11 p11
    refine ⟨fun σ' H' => ∃ (vl : V) (d2 : Hc.D), σ' = [some (.ref a), some (.ref h), some (.int (2 + x)), some (.ref qr), some (.ref pc), some (.ref pw), some (.bl (plainB rm tm)), some vl, some vh, some (.int sp), none, none, none, none, none, none] ∧ LwS T.Web.C H' h c pw pc (.ref qr) vm vt (2 + x) rds rm tm ∧ Rp H' h vl d2 ∧ fewL d2 ∧ Rp H' h vh (rowsD rows), ?_, ?_⟩
    · have go : ∃ (vl' : V) (d2 : Hc.D), [some (V.ref a), some (.ref h), some (.int (2 + x)), some (.ref qr), some (.ref pc), some (.ref pw), some (.bl (plainB rm tm)), some vl, some vh, some (.int sp), none, none, none, none, none, none] = [some (.ref a), some (.ref h), some (.int (2 + x)), some (.ref qr), some (.ref pc), some (.ref pw), some (.bl (plainB rm tm)), some vl', some vh, some (.int sp), none, none, none, none, none, none] ∧ LwS T.Web.C H11 h c pw pc (.ref qr) vm vt (2 + x) rds rm tm ∧ Rp H11 h vl' d2 ∧ fewL d2 ∧ Rp H11 h vh (rowsD rows) := ⟨vl, _, rfl, L11, rl11, fewL_of l5 w5, rh11⟩
      have ho : ∀ l ∈ ls, 1 ≤ l.1.length ∧ l.1.length ≤ 5 := fun l hl => ⟨(o.h l hl).1, w5 l hl⟩
      refine ⟨_, rfl, rfl, _, rfl, ?_⟩
      by_cases g1 : decide (V.int sp = V.int 1) = true
      · rw [g1]
        refine iteT (iteT ⟨_, rfl, _, rfl, _, rfl, h, c, .ref qr, vl, _, rds, ls, rfl, L11.p, L11.R, rl11, l5, ho, fun x' d H12 p12 b12 r12 f12 => ?_⟩)
        exact ⟨x', d, rfl, L11.but b12 p12, r12, f12, rh11.monoB b12 L11.p⟩
      · rw [Bool.not_eq_true] at g1
        rw [g1]
        refine iteF ⟨_, rfl, rfl, _, rfl, ?_⟩
        refine ite2 (fun _ => ?_) (fun _ => go)
        refine ⟨_, rfl, _, rfl, _, rfl, h, c, .ref qr, vl, _, rds, ls, rfl, L11.p, L11.R, rl11, l5, ho, fun x' d H12 p12 b12 r12 f12 => ?_⟩
        exact ⟨x', d, rfl, L11.but b12 p12, r12, f12, rh11.monoB b12 L11.p⟩
    clear L11 rl11 rh11
    rintro σ' H12 ⟨vl, d2, rfl, L12, r12, few, rh12⟩
    refine ⟨fun σ' H' => ∃ (vh : V) (d3 : Hc.D), σ' = [some (.ref a), some (.ref h), some (.int (2 + x)), some (.ref qr), some (.ref pc), some (.ref pw), some (.bl (plainB rm tm)), some vl, some vh, some (.int sp), none, none, none, none, none, none] ∧ LwS T.Web.C H' h c pw pc (.ref qr) vm vt (2 + x) rds rm tm ∧ Rp H' h vl d2 ∧ Rp H' h vh d3, ?_, ?_⟩
    · refine ⟨_, rfl, _, _, rfl, rfl, _, rfl, ?_⟩
      refine ite2 (fun _ => ?_) (fun _ => ⟨vh, _, rfl, L12, r12, rh12⟩)
      refine ⟨_, rfl, _, rfl, h, c, vh, rows, rfl, L12.p, rh12, by omega, fun r hr => ?_, fun x' d H13 p13 b13 r13 => ⟨x', d, rfl, L12.but b13 p13, r12.monoB b13 L12.p, r13⟩⟩
      obtain ⟨j, hj, ej⟩ := List.mem_iff_getElem.mp hr
      have hjl : j < ls.length := by omega
      have h1 := lk1 j ls[j] r (List.getElem?_eq_getElem hjl) (by rw [List.getElem?_eq_getElem hj, ej])
      have h2 := o.h _ (List.getElem_mem hjl)
      omega
    clear L12 r12 rh12
    rintro σ' H13 ⟨vh, d3, rfl, L13, r2, r3⟩
    -- the judge
    refine ⟨fun σ' H' => ∃ fv : V, σ' = [some (.ref a), some (.ref h), some (.int (2 + x)), some (.ref qr), some (.ref pc), some (.ref pw), some (.bl (plainB rm tm)), some vl, some vh, some (.int sp), some fv, none, none, none, none, none] ∧ LwS T.Web.C H' h c pw pc (.ref qr) vm vt (2 + x) rds rm tm ∧ Rp H' h vl d2 ∧ Rp H' h vh d3 ∧ ((∃ part, fv = .str part ∧ DueS rds rm tm d2 d3 part) ∨ (fv = .non ∧ ∃ ls rows, d2 = slsD ls ∧ d3 = rowsD rows ∧ SdOk rds rm tm ls rows)), ?_, ?_⟩
    · refine ⟨_, rfl, _, rfl, _, rfl, _, rfl, h, .ref qr, vl, vh, _, rds, rm, tm, d2, d3, rfl, L13.R, r2, r3, fun ls rows e1 _ o' l60 _ => ?_, fun part H' s' due => ⟨_, rfl, L13.same s', r2.same s', r3.same s', .inl ⟨part, rfl, due⟩⟩, fun ls rows H' s' e1 e2 ok => ⟨_, rfl, L13.same s', r2.same s', r3.same s', .inr ⟨rfl, ls, rows, e1, e2, ok⟩⟩⟩
      obtain ⟨f1, f2⟩ := few ls e1 l60
      exact prs_few o' f1 f2
    clear L13 r2 r3
    rintro σ' H14 ⟨fv, rfl, L14, r2, r3, cas⟩
    -- what is told
    refine ⟨fun σ' H' => ∃ u : Addr, σ' = [some (.ref a), some (.ref h), some (.int (2 + x)), some (.ref qr), some (.ref pc), some (.ref pw), some (.bl (plainB rm tm)), some vl, some vh, some (.int sp), some fv, some (.ref u), none, none, none, none] ∧ LwS T.Web.C H' h c pw pc (.ref qr) vm vt (2 + x) rds rm tm ∧ Rp H' h vl d2 ∧ Rp H' h vh d3 ∧ ((∃ part, fv = .str part ∧ DueS rds rm tm d2 d3 part ∧ H' u = some (.tup [.str "bad", .str part])) ∨ (fv = .non ∧ ∃ ls rows pd, d2 = slsD ls ∧ d3 = rowsD rows ∧ SdOk rds rm tm ls rows ∧ DayX T.SizedDay.C T.Web.C H' h pd (2 + x) rds rm tm (slsD ls) (rowsD rows) ∧ H' u = some (.tup [.str "made", .ref pd]))), ?_, ?_⟩
    · refine ⟨_, rfl, _, rfl, _, rfl, h, pw, vl, vh, d2, d3, _, rds, rm, tm, rfl, L14.W, r2, r3, fun part H' u s' due e => ⟨u, rfl, L14.same s', r2.same s', r3.same s', ?_⟩, fun ls rows H' u pd s' e1 e2 ok X e => ⟨u, rfl, L14.same s', r2.same s', r3.same s', ?_⟩⟩
      · rcases cas with ⟨part', e1, due'⟩ | ⟨e1, ls, rows, e2, e3, ok⟩
        · rw [due'.eq due] at e1
          exact .inl ⟨part, e1, due, e⟩
        · subst e2 e3
          exact absurd due ok.not
      · rcases cas with ⟨part', e3, due'⟩ | ⟨e3, _⟩
        · subst e1 e2
          exact absurd due' ok.not
        · exact .inr ⟨e3, ls, rows, pd, e1, e2, ok, X, e⟩
    clear L14 r2 r3 cas
    rintro σ' H15 ⟨u, rfl, L15, r2, r3, cas⟩
    rcases cas with ⟨part, rfl, due, eu⟩ | ⟨rfl, ls, rows, pd, rfl, rfl, ok, X15, eu⟩
    · refine ⟨_, rfl, rfl, _, rfl, iteT ⟨_, rfl, _, rfl, by show 2 ≤ sizeLine; decide, fun u2 hu2 => ?_⟩⟩
      exact strsTup due.sh (same_upd hu2 _ _ eu) upd_same (k _)
    refine ⟨_, rfl, rfl, _, rfl, iteF ⟨_, rfl, u, _, 1, _, rfl, rfl, SqT.of eu, atI_nat (j := 1) rfl, ?_⟩⟩
    have no : ∀ f ∈ (["web", "letters", "hours"] : List Str), NoAttr K T.SizedDay.C f := T.SizedDay.no
    refine ⟨fun σ' H' => H' = H15 ∧ σ' = [some (.ref a), some (.ref h), some (.int (2 + x)), some (.ref qr), some (.ref pc), some (.ref pw), some (.bl (plainB rm tm)), some vl, some vh, some (.int sp), some .non, some (.ref u), some (.ref pd), none, none, none], ?_, ?_⟩
    · obtain ⟨dxd, fs, pwd, v2d, v3d, epd, _, fw, fl, fh, Wd, rdl, rdh⟩ := X15.ex
      refine ⟨_, rfl, u, _, 0, _, rfl, rfl, SqT.of eu, atI_nat (j := 0) rfl, rfl, _, rfl, ?_⟩
      rw [show (!decide (V.str "made" = V.str "made")) = false by rw [decide_eq_true rfl]; rfl]
      refine iteF ⟨_, rfl, pd, T.SizedDay.C, dxd, _, _, rfl, epd, T.SizedDay.cl, no _ (by simp), fw, _, rfl, neWW T Wd L15.W fun c hc => ⟨_, rfl, ?_⟩⟩
      have hc1 := hc.mpr ⟨rfl, rfl, rfl, rfl⟩
      subst hc1
      refine iteF ⟨_, rfl, pd, T.SizedDay.C, dxd, _, _, rfl, epd, T.SizedDay.cl, no _ (by simp), fl, _, rfl, neD_same (h := h) (n := 3) (by decide) rdl r2 X15.il ⟨_, rfl, ?_⟩⟩
      refine iteF ⟨_, rfl, pd, T.SizedDay.C, dxd, _, _, rfl, epd, T.SizedDay.cl, no _ (by simp), fh, _, rfl, neD_same (h := h) (n := 3) (by decide) rdh r3 X15.ih ⟨_, rfl, iteF ⟨rfl, rfl⟩⟩⟩
    rintro σ' H' ⟨rfl, rfl⟩
    -- what is made of equal parts
    refine ⟨_, rfl, _, rfl, _, rfl, _, rfl, pc, _, 0, _, rfl, rfl, SqT.of L15.e, atI_nat (j := 0) rfl, _, rfl, pc, _, 1, _, rfl, rfl, SqT.of L15.e, atI_nat (j := 1) rfl, fun pw2 dx2 hx2 hdx2 nx2 => ?_⟩
    have sx2 := newSame (C := T.Web.C) hx2 hdx2
    refine ⟨h, pw2, dx2, .int (2 + x), _, _, _, .int (2 + x), .tup rds, .tup (rm.map Hc.D.int), .tup (tm.map Hc.D.int), rfl, upd_same, .int _, L15.R.r.same sx2, L15.r3.same sx2, L15.r4.same sx2, fun _ H16 b16 e16 => ⟨rfl, ?_⟩, fun part hd => by rw [webDue po] at hd; cases hd⟩
    obtain ⟨s16, W16⟩ := webFacts po L15.R.r L15.r3 L15.r4 hx2 hdx2 b16 e16
    have rl16 := r2.same s16
    have rh16 := r3.same s16
    refine ⟨_, rfl, _, rfl, fun x3 dx3 hx3 hdx3 nx3 => ?_⟩
    have sx3 := newSame (C := T.SizedDay.C) hx3 hdx3
    refine ⟨h, x3, dx3, pw2, vl, vh, slsD ls, rowsD rows, _, rds, rm, tm, rfl, upd_same, W16.w.same sx3, rl16.same sx3, rh16.same sx3, fun _ _ _ _ _ H17 b17 e17 => ⟨rfl, ?_⟩, fun part hd => absurd hd ok.not⟩
    obtain ⟨s17, X17⟩ := sdayFacts W16 rl16 rh16 hx3 hdx3 b17 e17
    have s157 := s16.trans s17
    refine eqSS T (X15.same s157) X17 fun c hc => ?_
    have hc1 := hc.mpr ⟨⟨rfl, rfl, rfl, rfl⟩, rfl, rfl⟩
    subst hc1
    refine ⟨true, true, rfl, ⟨_, rfl, ?_⟩⟩
    refine iteF ?_
    have L17 := L15.same s157
    have X17' := X15.same s157
    have r217 := r2.same s157
    have r317 := r3.same s157
    clear X15 L15 r2 r3 eu rl16 rh16 W16 X17 s16 s17 s157 b16 e16 b17 e17 sx2 sx3 hx2 hdx2 hx3 hdx3
    -- an hour later
    refine ⟨fun σ' H' => ∃ vl' : V, σ' = [some (.ref a), some (.ref h), some (.int (2 + x)), some (.ref qr), some (.ref pc), some (.ref pw), some (.bl (plainB rm tm)), some vl, some vh, some (.int sp), some .non, some (.ref u), some (.ref pd), some vl', none, none] ∧ LwS T.Web.C H' h c pw pc (.ref qr) vm vt (2 + x) rds rm tm ∧ DayX T.SizedDay.C T.Web.C H' h pd (2 + x) rds rm tm (slsD ls) (rowsD rows) ∧ Rp H' h vl (slsD ls) ∧ Rp H' h vh (rowsD rows) ∧ Rp H' h vl' (rowsD (lat rows)), ?_, ?_⟩
    · obtain ⟨qh, xh, rfl, eqh, lxh, ath⟩ := rows_at r317
      refine ⟨_, rfl, qh, rfl, ⟨_, SqT.of eqh⟩, fun D1 hD1 => ?_⟩
      obtain ⟨lr2, lk2⟩ := ltOf_len ok.n
      have lls := ok.l
      refine lc_tup (K := K) (a := qh) (xs := xh) (fun i H' => Same H17 (fun b => if b = D1 then none else H' b) ∧ ∃ zs, H' D1 = some (.lst zs) ∧ RpA H' h zs ((lat (rows.take i)).map rowD))
        ⟨mask_upd hD1 (Same.refl _), [], upd_same, .nil⟩ (fun i H' _ ⟨s, _⟩ => SqT.of (mask hD1 s _ _ eqh)) ?_ ?_
      · rintro i xv H' hx ⟨s, zs, hd, ra⟩
        have sm := mask hD1 s
        have hi : i < rows.length := by rw [← lxh]; exact (List.getElem?_eq_some_iff.mp hx).1
        obtain ⟨r, er⟩ : ∃ r, rows[i]? = some r := ⟨_, List.getElem?_eq_getElem hi⟩
        obtain ⟨qi, exi, eqi⟩ := ath i r er
        rw [hx] at exi
        cases exi
        have r8 : r.length ≤ 8 := by
          have hil : i < ls.length := by omega
          have h1 := lk2 i ls[i] r (List.getElem?_eq_getElem hil) er
          have h2 := (ok.o.h _ (List.getElem_mem hil)).2.1
          omega
        refine ⟨rfl, tyes ⟨_, rfl, qi, rfl, ⟨_, SqT.of (sm _ _ eqi)⟩, fun D2 hD2 => ?_⟩⟩
        refine lc_tup (K := K) (a := qi) (xs := r.map V.int) (fun j H'' => Same H' H'' ∧ H'' D2 = some (.lst (((r.take j).map fun x => x + 1).map V.int)))
          ⟨same_upd hD2, upd_same⟩ (fun j H'' _ ⟨s, _⟩ => SqT.of (s _ _ (sm _ _ eqi))) ?_ ?_
        · rintro j xw H'' hxw ⟨s2, hd2⟩
          obtain ⟨z, ez, rfl⟩ : ∃ z, r[j]? = some z ∧ xw = .int z := by
            rw [List.getElem?_map] at hxw
            cases e : r[j]? with
            | none => rw [e] at hxw; cases hxw
            | some z => rw [e] at hxw; exact ⟨z, rfl, (Option.some.inj hxw).symm⟩
          refine ⟨rfl, tyes ⟨_, rfl, _, _, rfl, rfl, _, hd2, ?_, same_putX s2 hD2, ?_⟩⟩
          · rw [List.length_map, List.length_map, List.length_take]; exact line_lt (by omega)
          · rw [upd_same, take_more ez, List.map_append, List.map_append]; rfl
        · rintro H'' ⟨s2, hd2⟩
          rw [List.length_map, List.take_length] at hd2
          refine ⟨D2, _, rfl, .inl ⟨SqL.of hd2, fun t ht => ?_⟩⟩
          have s3 : Same H'' (upd H'' t (.tup ((r.map fun x => x + 1).map V.int))) := same_upd ht
          have e3 : (upd H'' t (.tup ((r.map fun x => x + 1).map V.int))) t = some (.tup ((r.map fun x => x + 1).map V.int)) := upd_same
          generalize upd H'' t (.tup ((r.map fun x => x + 1).map V.int)) = H3 at s3 e3 ⊢
          have s23 := s2.trans s3
          have hd3 := s23 _ _ hd
          have lz := ra.len
          unfold lat at lz
          rw [List.length_map, List.length_map, List.length_take] at lz
          refine ⟨zs, hd3, line_lt (by omega), mask_upd hD1 (sm.trans s23), zs ++ [.ref t], upd_same, ?_⟩
          have rb : Rp H3 h (.ref t) (rowD (r.map fun x => x + 1)) := .tup e3 (by rw [List.length_map, List.length_map]; omega) (RpA.ints _)
          have rall : RpA H3 h (zs ++ [.ref t]) ((lat (rows.take (i + 1))).map rowD) := by
            unfold lat
            rw [take_more er, List.map_append, List.map_append]
            exact (ra.same s23).app (.cons rb .nil)
          exact rall.nl (NL.upd hd3) (noL_rows _)
      · rintro H' ⟨s, zs, hd, ra⟩
        have sm := mask hD1 s
        rw [lxh, List.take_length] at ra
        refine ⟨D1, _, rfl, .inl ⟨SqL.of hd, fun t ht => ?_⟩⟩
        have s3 : Same H' (upd H' t (.tup zs)) := same_upd ht
        have lz := ra.len
        unfold lat at lz
        rw [List.length_map, List.length_map] at lz
        have sA := sm.trans s3
        exact ⟨_, rfl, L17.same sA, X17'.same sA, r217.same sA, r317.same sA, .tup upd_same (by omega) (ra.same s3)⟩
    clear L17 X17' r217 r317
    rintro σ' H18 ⟨vl', rfl, L18, X18, r2, r3, r4⟩
    refine ⟨_, rfl, _, rfl, _, rfl, _, rfl, fun x3 dx3 hx3 hdx3 nx3 => ?_⟩
    have sx3 := newSame (C := T.SizedDay.C) hx3 hdx3
    refine ⟨h, x3, dx3, pw, vl, vl', slsD ls, rowsD (lat rows), _, rds, rm, tm, rfl, upd_same, L18.W.w.same sx3, r2.same sx3, r4.same sx3, fun _ _ _ _ _ H19 b19 e19 => ⟨rfl, ?_⟩, fun part hd => absurd hd ok.lat.not⟩
    obtain ⟨s19, X19⟩ := sdayFacts L18.W r2 r4 hx3 hdx3 b19 e19
    refine eqSS T (X18.same s19) X19 fun c hc => ?_
    have hc1 : c = decide (ls.length = 0) := by
      rw [Bool.eq_iff_iff, hc, decide_eq_true_eq]
      exact ⟨fun z => (lat_ne ok).mp (rows_inj (D.tup.inj z.2.2)), fun z => ⟨⟨rfl, rfl, rfl, rfl⟩, rfl, congrArg rowsD ((lat_ne ok).mpr z)⟩⟩
    obtain ⟨ql, xl, rfl, eql, lxl, _⟩ := sls_at (r2.same s19)
    refine ⟨_, rfl, ql, xl, rfl, .inr (SqT.of eql), rfl, ?_⟩
    have hc2 : decide (V.int (xl.length : Nat) = V.int 0) = c := by
      rw [int_eqd, hc1, decide_eq_decide]; omega
    refine ⟨c, c, by rw [hc2]; rfl, ⟨_, rfl, ?_⟩⟩
    rw [show decide (V.bl c = V.bl c) = true from decide_eq_true rfl]
    refine iteF ?_
    -- what a day is not
    have Xf := X18.same s19
    have rhf := r3.same s19
    refine ⟨_, rfl, eqSO T Xf (.base .non) T.e_SizedDay.tN ⟨_, rfl, iteF ⟨_, rfl, _, rfl, eqSO T Xf rhf.ty T.e_SizedDay.tT ⟨_, rfl, iteF ⟨_, rfl, _, rfl, _, rfl, _, rfl, by show 3 ≤ sizeLine; decide, fun t ht => ?_⟩⟩⟩⟩⟩
    exact eqSO T (Xf.same (same_upd ht)) (.base (.tup upd_same)) T.e_SizedDay.tT ⟨_, rfl, k _⟩
end
end Hc


set_option Elab.async false
set_option linter.all false
set_option maxRecDepth 100000
set_option maxHeartbeats 4000000
set_option autoImplicit false
namespace Hc
open PySem L2
/-- an error of the class at S is what «except S» names -/
theorem exm_self {K : PySem.W.Frag} {S : Addr} (h1 : PySem.W.subIn K (.ref S) (.type "BaseException") = some true) (h2 : PySem.W.isClsIn K S = true) (h3 : PySem.W.typeIn K (.ref S) = some (.type "type")) (h4 : PySem.W.subIn K (.ref S) (.ref S) = some true) :
    PySem.W.exmOne K (.ref S) (.ref S) = some true := by
  have e1 : (PySem.W.subIn K (.ref S) (.type "BaseException") == some true) = true := by rw [h1] <;> rfl
  have e2 : ((PySem.W.clsIn K S).isSome && PySem.W.typeIn K (.ref S) == some (.type "type")) = true := by
    have h2' : (PySem.W.clsIn K S).isSome = true := h2
    rw [h2', h3] <;> rfl
  show (if (PySem.W.subIn K (.ref S) (.type "BaseException") == some true) = true then (if ((PySem.W.clsIn K S).isSome && PySem.W.typeIn K (.ref S) == some (.type "type")) = true then PySem.W.subIn K (.ref S) (.ref S) else none) else none) = some true
  rw [if_pos e1, if_pos e2]
  exact h4
/-- an error of one class is not what «except» of another names -/
theorem exm_two {K : PySem.W.Frag} {S R : Addr} (h1 : PySem.W.subIn K (.ref R) (.type "BaseException") = some true) (h2 : PySem.W.isClsIn K R = true) (h3 : PySem.W.typeIn K (.ref R) = some (.type "type")) {b : Bool} (h4 : PySem.W.subIn K (.ref S) (.ref R) = some b) :
    PySem.W.exmOne K (.ref S) (.ref R) = some b := by
  have e1 : (PySem.W.subIn K (.ref R) (.type "BaseException") == some true) = true := by rw [h1] <;> rfl
  have e2 : ((PySem.W.clsIn K R).isSome && PySem.W.typeIn K (.ref R) == some (.type "type")) = true := by
    have h2' : (PySem.W.clsIn K R).isSome = true := h2
    rw [h2', h3] <;> rfl
  show (if (PySem.W.subIn K (.ref R) (.type "BaseException") == some true) = true then (if ((PySem.W.clsIn K R).isSome && PySem.W.typeIn K (.ref R) == some (.type "type")) = true then PySem.W.subIn K (.ref S) (.ref R) else none) else none) = some b
  rw [if_pos e1, if_pos e2]
  exact h4
theorem tx_mk {K : PySem.W.Frag} {h : Heap} {mg : Str → Option Value} (X : K.In h) (G : h.Ns mainGlobals mg)
    {fisqinteger : Addr} {odisqinteger anisqinteger : Option Addr} {slisqinteger : Array (Option Value)} {ocisqinteger kVisqinteger dcisqinteger pmisqinteger cdisqinteger ctisqinteger : Value}
    {fisqbetween : Addr} {odisqbetween anisqbetween : Option Addr} {slisqbetween : Array (Option Value)} {ocisqbetween kVisqbetween dcisqbetween pmisqbetween cdisqbetween ctisqbetween : Value}
    {fisqtuple : Addr} {odisqtuple anisqtuple : Option Addr} {slisqtuple : Array (Option Value)} {ocisqtuple kVisqtuple dcisqtuple pmisqtuple cdisqtuple ctisqtuple : Value}
    {fareqintegers : Addr} {odareqintegers anareqintegers : Option Addr} {slareqintegers : Array (Option Value)} {ocareqintegers kVareqintegers dcareqintegers pmareqintegers cdareqintegers ctareqintegers : Value}
    {fareqbetween : Addr} {odareqbetween anareqbetween : Option Addr} {slareqbetween : Array (Option Value)} {ocareqbetween kVareqbetween dcareqbetween pmareqbetween cdareqbetween ctareqbetween : Value}
    {fareqroads : Addr} {odareqroads anareqroads : Option Addr} {slareqroads : Array (Option Value)} {ocareqroads kVareqroads dcareqroads pmareqroads cdareqroads ctareqroads : Value}
    {fisqbeginqandqend : Addr} {odisqbeginqandqend anisqbeginqandqend : Option Addr} {slisqbeginqandqend : Array (Option Value)} {ocisqbeginqandqend kVisqbeginqandqend dcisqbeginqandqend pmisqbeginqandqend cdisqbeginqandqend ctisqbeginqandqend : Value}
    {fisqroad : Addr} {odisqroad anisqroad : Option Addr} {slisqroad : Array (Option Value)} {ocisqroad kVisqroad dcisqroad pmisqroad cdisqroad ctisqroad : Value}
    {fisqway : Addr} {odisqway anisqway : Option Addr} {slisqway : Array (Option Value)} {ocisqway kVisqway dcisqway pmisqway cdisqway ctisqway : Value}
    {fisqplain : Addr} {odisqplain anisqplain : Option Addr} {slisqplain : Array (Option Value)} {ocisqplain kVisqplain dcisqplain pmisqplain cdisqplain ctisqplain : Value}
    {fareqsizedqletters : Addr} {odareqsizedqletters anareqsizedqletters : Option Addr} {slareqsizedqletters : Array (Option Value)} {ocareqsizedqletters kVareqsizedqletters dcareqsizedqletters pmareqsizedqletters cdareqsizedqletters ctareqsizedqletters : Value}
    {fisqsizedqletter : Addr} {odisqsizedqletter anisqsizedqletter : Option Addr} {slisqsizedqletter : Array (Option Value)} {ocisqsizedqletter kVisqsizedqletter dcisqsizedqletter pmisqsizedqletter cdisqsizedqletter ctisqsizedqletter : Value}
    {fisqsize : Addr} {odisqsize anisqsize : Option Addr} {slisqsize : Array (Option Value)} {ocisqsize kVisqsize dcisqsize pmisqsize cdisqsize ctisqsize : Value}
    {fareqsizedqhours : Addr} {odareqsizedqhours anareqsizedqhours : Option Addr} {slareqsizedqhours : Array (Option Value)} {ocareqsizedqhours kVareqsizedqhours dcareqsizedqhours pmareqsizedqhours cdareqsizedqhours ctareqsizedqhours : Value}
    {fsomeqsizedqearly : Addr} {odsomeqsizedqearly ansomeqsizedqearly : Option Addr} {slsomeqsizedqearly : Array (Option Value)} {ocsomeqsizedqearly kVsomeqsizedqearly dcsomeqsizedqearly pmsomeqsizedqearly cdsomeqsizedqearly ctsomeqsizedqearly : Value}
    {fsomeqsizedqfull : Addr} {odsomeqsizedqfull ansomeqsizedqfull : Option Addr} {slsomeqsizedqfull : Array (Option Value)} {ocsomeqsizedqfull kVsomeqsizedqfull dcsomeqsizedqfull pmsomeqsizedqfull cdsomeqsizedqfull ctsomeqsizedqfull : Value}
    {fqlawqhand : Addr} {odqlawqhand anqlawqhand : Option Addr} {slqlawqhand : Array (Option Value)} {ocqlawqhand kVqlawqhand dcqlawqhand pmqlawqhand cdqlawqhand ctqlawqhand : Value}
    {fqlawqdraw : Addr} {odqlawqdraw anqlawqdraw : Option Addr} {slqlawqdraw : Array (Option Value)} {ocqlawqdraw kVqlawqdraw dcqlawqdraw pmqlawqdraw cdqlawqdraw ctqlawqdraw : Value}
    {fqlawqroads : Addr} {odqlawqroads anqlawqroads : Option Addr} {slqlawqroads : Array (Option Value)} {ocqlawqroads kVqlawqroads dcqlawqroads pmqlawqroads cdqlawqroads ctqlawqroads : Value}
    {fqlawqcounts : Addr} {odqlawqcounts anqlawqcounts : Option Addr} {slqlawqcounts : Array (Option Value)} {ocqlawqcounts kVqlawqcounts dcqlawqcounts pmqlawqcounts cdqlawqcounts ctqlawqcounts : Value}
    {fqlawqnext : Addr} {odqlawqnext anqlawqnext : Option Addr} {slqlawqnext : Array (Option Value)} {ocqlawqnext kVqlawqnext dcqlawqnext pmqlawqnext cdqlawqnext ctqlawqnext : Value}
    {fqlawqway : Addr} {odqlawqway anqlawqway : Option Addr} {slqlawqway : Array (Option Value)} {ocqlawqway kVqlawqway dcqlawqway pmqlawqway cdqlawqway ctqlawqway : Value}
    {fqlawqsizedqletters : Addr} {odqlawqsizedqletters anqlawqsizedqletters : Option Addr} {slqlawqsizedqletters : Array (Option Value)} {ocqlawqsizedqletters kVqlawqsizedqletters dcqlawqsizedqletters pmqlawqsizedqletters cdqlawqsizedqletters ctqlawqsizedqletters : Value}
    {fqlawqled : Addr} {odqlawqled anqlawqled : Option Addr} {slqlawqled : Array (Option Value)} {ocqlawqled kVqlawqled dcqlawqled pmqlawqled cdqlawqled ctqlawqled : Value}
    {fqlawqsizedqhours : Addr} {odqlawqsizedqhours anqlawqsizedqhours : Option Addr} {slqlawqsizedqhours : Array (Option Value)} {ocqlawqsizedqhours kVqlawqsizedqhours dcqlawqsizedqhours pmqlawqsizedqhours cdqlawqsizedqhours ctqlawqsizedqhours : Value}
    {fqlawqflag : Addr} {odqlawqflag anqlawqflag : Option Addr} {slqlawqflag : Array (Option Value)} {ocqlawqflag kVqlawqflag dcqlawqflag pmqlawqflag cdqlawqflag ctqlawqflag : Value}
    {fqlawqisqinteger : Addr} {odqlawqisqinteger anqlawqisqinteger : Option Addr} {slqlawqisqinteger : Array (Option Value)} {ocqlawqisqinteger kVqlawqisqinteger dcqlawqisqinteger pmqlawqisqinteger cdqlawqisqinteger ctqlawqisqinteger : Value}
    {fqlawqisqway : Addr} {odqlawqisqway anqlawqisqway : Option Addr} {slqlawqisqway : Array (Option Value)} {ocqlawqisqway kVqlawqisqway dcqlawqisqway pmqlawqisqway cdqlawqisqway ctqlawqisqway : Value}
    {fqlawqput : Addr} {odqlawqput anqlawqput : Option Addr} {slqlawqput : Array (Option Value)} {ocqlawqput kVqlawqput dcqlawqput pmqlawqput cdqlawqput ctqlawqput : Value}
    {fqlawqareqletters : Addr} {odqlawqareqletters anqlawqareqletters : Option Addr} {slqlawqareqletters : Array (Option Value)} {ocqlawqareqletters kVqlawqareqletters dcqlawqareqletters pmqlawqareqletters cdqlawqareqletters ctqlawqareqletters : Value}
    {fqlawqareqhours : Addr} {odqlawqareqhours anqlawqareqhours : Option Addr} {slqlawqareqhours : Array (Option Value)} {ocqlawqareqhours kVqlawqareqhours dcqlawqareqhours pmqlawqareqhours cdqlawqareqhours ctqlawqareqhours : Value}
    {fqlawqfault : Addr} {odqlawqfault anqlawqfault : Option Addr} {slqlawqfault : Array (Option Value)} {ocqlawqfault kVqlawqfault dcqlawqfault pmqlawqfault cdqlawqfault ctqlawqfault : Value}
    {fqlawqodd : Addr} {odqlawqodd anqlawqodd : Option Addr} {slqlawqodd : Array (Option Value)} {ocqlawqodd kVqlawqodd dcqlawqodd pmqlawqodd cdqlawqodd ctqlawqodd : Value}
    {fqlawqspoiledqletters : Addr} {odqlawqspoiledqletters anqlawqspoiledqletters : Option Addr} {slqlawqspoiledqletters : Array (Option Value)} {ocqlawqspoiledqletters kVqlawqspoiledqletters dcqlawqspoiledqletters pmqlawqspoiledqletters cdqlawqspoiledqletters ctqlawqspoiledqletters : Value}
    {fqlawqspoiledqhours : Addr} {odqlawqspoiledqhours anqlawqspoiledqhours : Option Addr} {slqlawqspoiledqhours : Array (Option Value)} {ocqlawqspoiledqhours kVqlawqspoiledqhours dcqlawqspoiledqhours pmqlawqspoiledqhours cdqlawqspoiledqhours ctqlawqspoiledqhours : Value}
    {fqlawqtold : Addr} {odqlawqtold anqlawqtold : Option Addr} {slqlawqtold : Array (Option Value)} {ocqlawqtold kVqlawqtold dcqlawqtold pmqlawqtold cdqlawqtold ctqlawqtold : Value}
    {flaw : Addr} {odlaw anlaw : Option Addr} {sllaw : Array (Option Value)} {oclaw kVlaw dclaw pmlaw cdlaw ctlaw : Value}
    {tMOSTqHOUSES : Tok}
    {tMOSTqROADS : Tok}
    {tMOSTqROOMS : Tok}
    {tLONGESTqTIME : Tok}
    {tLONGESTqWAY : Tok}
    {tMOSTqLETTERS : Tok}
    {tLASTqTICK : Tok}
    {SSIZES : Addr} {ddSIZES : Option Addr} {nSIZES : Nat} {slSIZES : Array (Option Value)} {tSIZES0 tSIZES1 : Tok}
    {CWWeb fWWeb : Addr} {odWWeb anWWeb : Option Addr} {slWWeb : Array (Option Value)} {ocWWeb kVWWeb dcWWeb pmWWeb cdWWeb ctWWeb : Value}
    {CWSizedDay fWSizedDay : Addr} {odWSizedDay anWSizedDay : Option Addr} {slWSizedDay : Array (Option Value)} {ocWSizedDay kVWSizedDay dcWSizedDay pmWSizedDay cdWSizedDay ctWSizedDay : Value}
    {CXBadWeb fXBadWeb : Addr} {odXBadWeb anXBadWeb : Option Addr} {slXBadWeb : Array (Option Value)} {ocXBadWeb kVXBadWeb dcXBadWeb pmXBadWeb cdXBadWeb ctXBadWeb : Value} {nmXBadWeb qnXBadWeb : Str} {NXBadWeb : Addr} {bsXBadWeb bmXBadWeb : List Value} {snXBadWeb : List Str} {subXBadWeb : List Value} {abXBadWeb : Bool} {colXBadWeb : Option Bool} {ddXBadWeb : Option Addr} {m0XBadWeb m1XBadWeb m2XBadWeb m3XBadWeb m5XBadWeb : Option Value}
    {CXBadDay fXBadDay : Addr} {odXBadDay anXBadDay : Option Addr} {slXBadDay : Array (Option Value)} {ocXBadDay kVXBadDay dcXBadDay pmXBadDay cdXBadDay ctXBadDay : Value} {nmXBadDay qnXBadDay : Str} {NXBadDay : Addr} {bsXBadDay bmXBadDay : List Value} {snXBadDay : List Str} {subXBadDay : List Value} {abXBadDay : Bool} {colXBadDay : Option Bool} {ddXBadDay : Option Addr} {m0XBadDay m1XBadDay m2XBadDay m3XBadDay m5XBadDay : Option Value}
    {fQWeb : Addr} {odQWeb anQWeb : Option Addr} {slQWeb : Array (Option Value)} {ocQWeb kVQWeb dcQWeb pmQWeb cdQWeb ctQWeb : Value}
    {fQSizedDay : Addr} {odQSizedDay anQSizedDay : Option Addr} {slQSizedDay : Array (Option Value)} {ocQSizedDay kVQSizedDay dcQSizedDay pmQSizedDay cdQSizedDay ctQSizedDay : Value}
    (aisqinteger : PySem.W.nsIn K mainGlobals "is_integer" = some (some (.ref fisqinteger)))
    (lisqinteger : K.lookup fisqinteger = some ⟨ocisqinteger, odisqinteger, .func (PySem.W.fnOf "is_integer" "is_integer" (defArgs s_is_integer) (defBody s_is_integer) (defScope s_is_integer) .none kVisqinteger dcisqinteger pmisqinteger anisqinteger cdisqinteger ctisqinteger), slisqinteger⟩)
    (cisqinteger : PySem.W.codeIn K cdisqinteger "is_integer" = true)
    (kisqinteger : PySem.W.keepIn K (.ref fisqinteger) = true)
    (aisqbetween : PySem.W.nsIn K mainGlobals "is_between" = some (some (.ref fisqbetween)))
    (lisqbetween : K.lookup fisqbetween = some ⟨ocisqbetween, odisqbetween, .func (PySem.W.fnOf "is_between" "is_between" (defArgs s_is_between) (defBody s_is_between) (defScope s_is_between) .none kVisqbetween dcisqbetween pmisqbetween anisqbetween cdisqbetween ctisqbetween), slisqbetween⟩)
    (cisqbetween : PySem.W.codeIn K cdisqbetween "is_between" = true)
    (kisqbetween : PySem.W.keepIn K (.ref fisqbetween) = true)
    (aisqtuple : PySem.W.nsIn K mainGlobals "is_tuple" = some (some (.ref fisqtuple)))
    (lisqtuple : K.lookup fisqtuple = some ⟨ocisqtuple, odisqtuple, .func (PySem.W.fnOf "is_tuple" "is_tuple" (defArgs s_is_tuple) (defBody s_is_tuple) (defScope s_is_tuple) .none kVisqtuple dcisqtuple pmisqtuple anisqtuple cdisqtuple ctisqtuple), slisqtuple⟩)
    (cisqtuple : PySem.W.codeIn K cdisqtuple "is_tuple" = true)
    (kisqtuple : PySem.W.keepIn K (.ref fisqtuple) = true)
    (aareqintegers : PySem.W.nsIn K mainGlobals "are_integers" = some (some (.ref fareqintegers)))
    (lareqintegers : K.lookup fareqintegers = some ⟨ocareqintegers, odareqintegers, .func (PySem.W.fnOf "are_integers" "are_integers" (defArgs s_are_integers) (defBody s_are_integers) (defScope s_are_integers) .none kVareqintegers dcareqintegers pmareqintegers anareqintegers cdareqintegers ctareqintegers), slareqintegers⟩)
    (careqintegers : PySem.W.codeIn K cdareqintegers "are_integers" = true)
    (kareqintegers : PySem.W.keepIn K (.ref fareqintegers) = true)
    (aareqbetween : PySem.W.nsIn K mainGlobals "are_between" = some (some (.ref fareqbetween)))
    (lareqbetween : K.lookup fareqbetween = some ⟨ocareqbetween, odareqbetween, .func (PySem.W.fnOf "are_between" "are_between" (defArgs s_are_between) (defBody s_are_between) (defScope s_are_between) .none kVareqbetween dcareqbetween pmareqbetween anareqbetween cdareqbetween ctareqbetween), slareqbetween⟩)
    (careqbetween : PySem.W.codeIn K cdareqbetween "are_between" = true)
    (kareqbetween : PySem.W.keepIn K (.ref fareqbetween) = true)
    (aareqroads : PySem.W.nsIn K mainGlobals "are_roads" = some (some (.ref fareqroads)))
    (lareqroads : K.lookup fareqroads = some ⟨ocareqroads, odareqroads, .func (PySem.W.fnOf "are_roads" "are_roads" (defArgs s_are_roads) (defBody s_are_roads) (defScope s_are_roads) .none kVareqroads dcareqroads pmareqroads anareqroads cdareqroads ctareqroads), slareqroads⟩)
    (careqroads : PySem.W.codeIn K cdareqroads "are_roads" = true)
    (kareqroads : PySem.W.keepIn K (.ref fareqroads) = true)
    (aisqbeginqandqend : PySem.W.nsIn K mainGlobals "is_begin_and_end" = some (some (.ref fisqbeginqandqend)))
    (lisqbeginqandqend : K.lookup fisqbeginqandqend = some ⟨ocisqbeginqandqend, odisqbeginqandqend, .func (PySem.W.fnOf "is_begin_and_end" "is_begin_and_end" (defArgs s_is_begin_and_end) (defBody s_is_begin_and_end) (defScope s_is_begin_and_end) .none kVisqbeginqandqend dcisqbeginqandqend pmisqbeginqandqend anisqbeginqandqend cdisqbeginqandqend ctisqbeginqandqend), slisqbeginqandqend⟩)
    (cisqbeginqandqend : PySem.W.codeIn K cdisqbeginqandqend "is_begin_and_end" = true)
    (kisqbeginqandqend : PySem.W.keepIn K (.ref fisqbeginqandqend) = true)
    (aisqroad : PySem.W.nsIn K mainGlobals "is_road" = some (some (.ref fisqroad)))
    (lisqroad : K.lookup fisqroad = some ⟨ocisqroad, odisqroad, .func (PySem.W.fnOf "is_road" "is_road" (defArgs s_is_road) (defBody s_is_road) (defScope s_is_road) .none kVisqroad dcisqroad pmisqroad anisqroad cdisqroad ctisqroad), slisqroad⟩)
    (cisqroad : PySem.W.codeIn K cdisqroad "is_road" = true)
    (kisqroad : PySem.W.keepIn K (.ref fisqroad) = true)
    (aisqway : PySem.W.nsIn K mainGlobals "is_way" = some (some (.ref fisqway)))
    (lisqway : K.lookup fisqway = some ⟨ocisqway, odisqway, .func (PySem.W.fnOf "is_way" "is_way" (defArgs s_is_way) (defBody s_is_way) (defScope s_is_way) .none kVisqway dcisqway pmisqway anisqway cdisqway ctisqway), slisqway⟩)
    (cisqway : PySem.W.codeIn K cdisqway "is_way" = true)
    (kisqway : PySem.W.keepIn K (.ref fisqway) = true)
    (aisqplain : PySem.W.nsIn K mainGlobals "is_plain" = some (some (.ref fisqplain)))
    (lisqplain : K.lookup fisqplain = some ⟨ocisqplain, odisqplain, .func (PySem.W.fnOf "is_plain" "is_plain" (defArgs s_is_plain) (defBody s_is_plain) (defScope s_is_plain) .none kVisqplain dcisqplain pmisqplain anisqplain cdisqplain ctisqplain), slisqplain⟩)
    (cisqplain : PySem.W.codeIn K cdisqplain "is_plain" = true)
    (kisqplain : PySem.W.keepIn K (.ref fisqplain) = true)
    (aareqsizedqletters : PySem.W.nsIn K mainGlobals "are_sized_letters" = some (some (.ref fareqsizedqletters)))
    (lareqsizedqletters : K.lookup fareqsizedqletters = some ⟨ocareqsizedqletters, odareqsizedqletters, .func (PySem.W.fnOf "are_sized_letters" "are_sized_letters" (defArgs s_are_sized_letters) (defBody s_are_sized_letters) (defScope s_are_sized_letters) .none kVareqsizedqletters dcareqsizedqletters pmareqsizedqletters anareqsizedqletters cdareqsizedqletters ctareqsizedqletters), slareqsizedqletters⟩)
    (careqsizedqletters : PySem.W.codeIn K cdareqsizedqletters "are_sized_letters" = true)
    (kareqsizedqletters : PySem.W.keepIn K (.ref fareqsizedqletters) = true)
    (aisqsizedqletter : PySem.W.nsIn K mainGlobals "is_sized_letter" = some (some (.ref fisqsizedqletter)))
    (lisqsizedqletter : K.lookup fisqsizedqletter = some ⟨ocisqsizedqletter, odisqsizedqletter, .func (PySem.W.fnOf "is_sized_letter" "is_sized_letter" (defArgs s_is_sized_letter) (defBody s_is_sized_letter) (defScope s_is_sized_letter) .none kVisqsizedqletter dcisqsizedqletter pmisqsizedqletter anisqsizedqletter cdisqsizedqletter ctisqsizedqletter), slisqsizedqletter⟩)
    (cisqsizedqletter : PySem.W.codeIn K cdisqsizedqletter "is_sized_letter" = true)
    (kisqsizedqletter : PySem.W.keepIn K (.ref fisqsizedqletter) = true)
    (aisqsize : PySem.W.nsIn K mainGlobals "is_size" = some (some (.ref fisqsize)))
    (lisqsize : K.lookup fisqsize = some ⟨ocisqsize, odisqsize, .func (PySem.W.fnOf "is_size" "is_size" (defArgs s_is_size) (defBody s_is_size) (defScope s_is_size) .none kVisqsize dcisqsize pmisqsize anisqsize cdisqsize ctisqsize), slisqsize⟩)
    (cisqsize : PySem.W.codeIn K cdisqsize "is_size" = true)
    (kisqsize : PySem.W.keepIn K (.ref fisqsize) = true)
    (aareqsizedqhours : PySem.W.nsIn K mainGlobals "are_sized_hours" = some (some (.ref fareqsizedqhours)))
    (lareqsizedqhours : K.lookup fareqsizedqhours = some ⟨ocareqsizedqhours, odareqsizedqhours, .func (PySem.W.fnOf "are_sized_hours" "are_sized_hours" (defArgs s_are_sized_hours) (defBody s_are_sized_hours) (defScope s_are_sized_hours) .none kVareqsizedqhours dcareqsizedqhours pmareqsizedqhours anareqsizedqhours cdareqsizedqhours ctareqsizedqhours), slareqsizedqhours⟩)
    (careqsizedqhours : PySem.W.codeIn K cdareqsizedqhours "are_sized_hours" = true)
    (kareqsizedqhours : PySem.W.keepIn K (.ref fareqsizedqhours) = true)
    (asomeqsizedqearly : PySem.W.nsIn K mainGlobals "some_sized_early" = some (some (.ref fsomeqsizedqearly)))
    (lsomeqsizedqearly : K.lookup fsomeqsizedqearly = some ⟨ocsomeqsizedqearly, odsomeqsizedqearly, .func (PySem.W.fnOf "some_sized_early" "some_sized_early" (defArgs s_some_sized_early) (defBody s_some_sized_early) (defScope s_some_sized_early) .none kVsomeqsizedqearly dcsomeqsizedqearly pmsomeqsizedqearly ansomeqsizedqearly cdsomeqsizedqearly ctsomeqsizedqearly), slsomeqsizedqearly⟩)
    (csomeqsizedqearly : PySem.W.codeIn K cdsomeqsizedqearly "some_sized_early" = true)
    (ksomeqsizedqearly : PySem.W.keepIn K (.ref fsomeqsizedqearly) = true)
    (asomeqsizedqfull : PySem.W.nsIn K mainGlobals "some_sized_full" = some (some (.ref fsomeqsizedqfull)))
    (lsomeqsizedqfull : K.lookup fsomeqsizedqfull = some ⟨ocsomeqsizedqfull, odsomeqsizedqfull, .func (PySem.W.fnOf "some_sized_full" "some_sized_full" (defArgs s_some_sized_full) (defBody s_some_sized_full) (defScope s_some_sized_full) .none kVsomeqsizedqfull dcsomeqsizedqfull pmsomeqsizedqfull ansomeqsizedqfull cdsomeqsizedqfull ctsomeqsizedqfull), slsomeqsizedqfull⟩)
    (csomeqsizedqfull : PySem.W.codeIn K cdsomeqsizedqfull "some_sized_full" = true)
    (ksomeqsizedqfull : PySem.W.keepIn K (.ref fsomeqsizedqfull) = true)
    (aqlawqhand : PySem.W.nsIn K mainGlobals "_law_hand" = some (some (.ref fqlawqhand)))
    (lqlawqhand : K.lookup fqlawqhand = some ⟨ocqlawqhand, odqlawqhand, .func (PySem.W.fnOf "_law_hand" "_law_hand" (defArgs s_law_hand) (defBody s_law_hand) (defScope s_law_hand) .none kVqlawqhand dcqlawqhand pmqlawqhand anqlawqhand cdqlawqhand ctqlawqhand), slqlawqhand⟩)
    (cqlawqhand : PySem.W.codeIn K cdqlawqhand "_law_hand" = true)
    (kqlawqhand : PySem.W.keepIn K (.ref fqlawqhand) = true)
    (aqlawqdraw : PySem.W.nsIn K mainGlobals "_law_draw" = some (some (.ref fqlawqdraw)))
    (lqlawqdraw : K.lookup fqlawqdraw = some ⟨ocqlawqdraw, odqlawqdraw, .func (PySem.W.fnOf "_law_draw" "_law_draw" (defArgs s_law_draw) (defBody s_law_draw) (defScope s_law_draw) .none kVqlawqdraw dcqlawqdraw pmqlawqdraw anqlawqdraw cdqlawqdraw ctqlawqdraw), slqlawqdraw⟩)
    (cqlawqdraw : PySem.W.codeIn K cdqlawqdraw "_law_draw" = true)
    (kqlawqdraw : PySem.W.keepIn K (.ref fqlawqdraw) = true)
    (aqlawqroads : PySem.W.nsIn K mainGlobals "_law_roads" = some (some (.ref fqlawqroads)))
    (lqlawqroads : K.lookup fqlawqroads = some ⟨ocqlawqroads, odqlawqroads, .func (PySem.W.fnOf "_law_roads" "_law_roads" (defArgs s_law_roads) (defBody s_law_roads) (defScope s_law_roads) .none kVqlawqroads dcqlawqroads pmqlawqroads anqlawqroads cdqlawqroads ctqlawqroads), slqlawqroads⟩)
    (cqlawqroads : PySem.W.codeIn K cdqlawqroads "_law_roads" = true)
    (kqlawqroads : PySem.W.keepIn K (.ref fqlawqroads) = true)
    (aqlawqcounts : PySem.W.nsIn K mainGlobals "_law_counts" = some (some (.ref fqlawqcounts)))
    (lqlawqcounts : K.lookup fqlawqcounts = some ⟨ocqlawqcounts, odqlawqcounts, .func (PySem.W.fnOf "_law_counts" "_law_counts" (defArgs s_law_counts) (defBody s_law_counts) (defScope s_law_counts) .none kVqlawqcounts dcqlawqcounts pmqlawqcounts anqlawqcounts cdqlawqcounts ctqlawqcounts), slqlawqcounts⟩)
    (cqlawqcounts : PySem.W.codeIn K cdqlawqcounts "_law_counts" = true)
    (kqlawqcounts : PySem.W.keepIn K (.ref fqlawqcounts) = true)
    (aqlawqnext : PySem.W.nsIn K mainGlobals "_law_next" = some (some (.ref fqlawqnext)))
    (lqlawqnext : K.lookup fqlawqnext = some ⟨ocqlawqnext, odqlawqnext, .func (PySem.W.fnOf "_law_next" "_law_next" (defArgs s_law_next) (defBody s_law_next) (defScope s_law_next) .none kVqlawqnext dcqlawqnext pmqlawqnext anqlawqnext cdqlawqnext ctqlawqnext), slqlawqnext⟩)
    (cqlawqnext : PySem.W.codeIn K cdqlawqnext "_law_next" = true)
    (kqlawqnext : PySem.W.keepIn K (.ref fqlawqnext) = true)
    (aqlawqway : PySem.W.nsIn K mainGlobals "_law_way" = some (some (.ref fqlawqway)))
    (lqlawqway : K.lookup fqlawqway = some ⟨ocqlawqway, odqlawqway, .func (PySem.W.fnOf "_law_way" "_law_way" (defArgs s_law_way) (defBody s_law_way) (defScope s_law_way) .none kVqlawqway dcqlawqway pmqlawqway anqlawqway cdqlawqway ctqlawqway), slqlawqway⟩)
    (cqlawqway : PySem.W.codeIn K cdqlawqway "_law_way" = true)
    (kqlawqway : PySem.W.keepIn K (.ref fqlawqway) = true)
    (aqlawqsizedqletters : PySem.W.nsIn K mainGlobals "_law_sized_letters" = some (some (.ref fqlawqsizedqletters)))
    (lqlawqsizedqletters : K.lookup fqlawqsizedqletters = some ⟨ocqlawqsizedqletters, odqlawqsizedqletters, .func (PySem.W.fnOf "_law_sized_letters" "_law_sized_letters" (defArgs s_law_sized_letters) (defBody s_law_sized_letters) (defScope s_law_sized_letters) .none kVqlawqsizedqletters dcqlawqsizedqletters pmqlawqsizedqletters anqlawqsizedqletters cdqlawqsizedqletters ctqlawqsizedqletters), slqlawqsizedqletters⟩)
    (cqlawqsizedqletters : PySem.W.codeIn K cdqlawqsizedqletters "_law_sized_letters" = true)
    (kqlawqsizedqletters : PySem.W.keepIn K (.ref fqlawqsizedqletters) = true)
    (aqlawqled : PySem.W.nsIn K mainGlobals "_law_led" = some (some (.ref fqlawqled)))
    (lqlawqled : K.lookup fqlawqled = some ⟨ocqlawqled, odqlawqled, .func (PySem.W.fnOf "_law_led" "_law_led" (defArgs s_law_led) (defBody s_law_led) (defScope s_law_led) .none kVqlawqled dcqlawqled pmqlawqled anqlawqled cdqlawqled ctqlawqled), slqlawqled⟩)
    (cqlawqled : PySem.W.codeIn K cdqlawqled "_law_led" = true)
    (kqlawqled : PySem.W.keepIn K (.ref fqlawqled) = true)
    (aqlawqsizedqhours : PySem.W.nsIn K mainGlobals "_law_sized_hours" = some (some (.ref fqlawqsizedqhours)))
    (lqlawqsizedqhours : K.lookup fqlawqsizedqhours = some ⟨ocqlawqsizedqhours, odqlawqsizedqhours, .func (PySem.W.fnOf "_law_sized_hours" "_law_sized_hours" (defArgs s_law_sized_hours) (defBody s_law_sized_hours) (defScope s_law_sized_hours) .none kVqlawqsizedqhours dcqlawqsizedqhours pmqlawqsizedqhours anqlawqsizedqhours cdqlawqsizedqhours ctqlawqsizedqhours), slqlawqsizedqhours⟩)
    (cqlawqsizedqhours : PySem.W.codeIn K cdqlawqsizedqhours "_law_sized_hours" = true)
    (kqlawqsizedqhours : PySem.W.keepIn K (.ref fqlawqsizedqhours) = true)
    (aqlawqflag : PySem.W.nsIn K mainGlobals "_law_flag" = some (some (.ref fqlawqflag)))
    (lqlawqflag : K.lookup fqlawqflag = some ⟨ocqlawqflag, odqlawqflag, .func (PySem.W.fnOf "_law_flag" "_law_flag" (defArgs s_law_flag) (defBody s_law_flag) (defScope s_law_flag) .none kVqlawqflag dcqlawqflag pmqlawqflag anqlawqflag cdqlawqflag ctqlawqflag), slqlawqflag⟩)
    (cqlawqflag : PySem.W.codeIn K cdqlawqflag "_law_flag" = true)
    (kqlawqflag : PySem.W.keepIn K (.ref fqlawqflag) = true)
    (aqlawqisqinteger : PySem.W.nsIn K mainGlobals "_law_is_integer" = some (some (.ref fqlawqisqinteger)))
    (lqlawqisqinteger : K.lookup fqlawqisqinteger = some ⟨ocqlawqisqinteger, odqlawqisqinteger, .func (PySem.W.fnOf "_law_is_integer" "_law_is_integer" (defArgs s_law_is_integer) (defBody s_law_is_integer) (defScope s_law_is_integer) .none kVqlawqisqinteger dcqlawqisqinteger pmqlawqisqinteger anqlawqisqinteger cdqlawqisqinteger ctqlawqisqinteger), slqlawqisqinteger⟩)
    (cqlawqisqinteger : PySem.W.codeIn K cdqlawqisqinteger "_law_is_integer" = true)
    (kqlawqisqinteger : PySem.W.keepIn K (.ref fqlawqisqinteger) = true)
    (aqlawqisqway : PySem.W.nsIn K mainGlobals "_law_is_way" = some (some (.ref fqlawqisqway)))
    (lqlawqisqway : K.lookup fqlawqisqway = some ⟨ocqlawqisqway, odqlawqisqway, .func (PySem.W.fnOf "_law_is_way" "_law_is_way" (defArgs s_law_is_way) (defBody s_law_is_way) (defScope s_law_is_way) .none kVqlawqisqway dcqlawqisqway pmqlawqisqway anqlawqisqway cdqlawqisqway ctqlawqisqway), slqlawqisqway⟩)
    (cqlawqisqway : PySem.W.codeIn K cdqlawqisqway "_law_is_way" = true)
    (kqlawqisqway : PySem.W.keepIn K (.ref fqlawqisqway) = true)
    (aqlawqput : PySem.W.nsIn K mainGlobals "_law_put" = some (some (.ref fqlawqput)))
    (lqlawqput : K.lookup fqlawqput = some ⟨ocqlawqput, odqlawqput, .func (PySem.W.fnOf "_law_put" "_law_put" (defArgs s_law_put) (defBody s_law_put) (defScope s_law_put) .none kVqlawqput dcqlawqput pmqlawqput anqlawqput cdqlawqput ctqlawqput), slqlawqput⟩)
    (cqlawqput : PySem.W.codeIn K cdqlawqput "_law_put" = true)
    (kqlawqput : PySem.W.keepIn K (.ref fqlawqput) = true)
    (aqlawqareqletters : PySem.W.nsIn K mainGlobals "_law_are_letters" = some (some (.ref fqlawqareqletters)))
    (lqlawqareqletters : K.lookup fqlawqareqletters = some ⟨ocqlawqareqletters, odqlawqareqletters, .func (PySem.W.fnOf "_law_are_letters" "_law_are_letters" (defArgs s_law_are_letters) (defBody s_law_are_letters) (defScope s_law_are_letters) .none kVqlawqareqletters dcqlawqareqletters pmqlawqareqletters anqlawqareqletters cdqlawqareqletters ctqlawqareqletters), slqlawqareqletters⟩)
    (cqlawqareqletters : PySem.W.codeIn K cdqlawqareqletters "_law_are_letters" = true)
    (kqlawqareqletters : PySem.W.keepIn K (.ref fqlawqareqletters) = true)
    (aqlawqareqhours : PySem.W.nsIn K mainGlobals "_law_are_hours" = some (some (.ref fqlawqareqhours)))
    (lqlawqareqhours : K.lookup fqlawqareqhours = some ⟨ocqlawqareqhours, odqlawqareqhours, .func (PySem.W.fnOf "_law_are_hours" "_law_are_hours" (defArgs s_law_are_hours) (defBody s_law_are_hours) (defScope s_law_are_hours) .none kVqlawqareqhours dcqlawqareqhours pmqlawqareqhours anqlawqareqhours cdqlawqareqhours ctqlawqareqhours), slqlawqareqhours⟩)
    (cqlawqareqhours : PySem.W.codeIn K cdqlawqareqhours "_law_are_hours" = true)
    (kqlawqareqhours : PySem.W.keepIn K (.ref fqlawqareqhours) = true)
    (aqlawqfault : PySem.W.nsIn K mainGlobals "_law_fault" = some (some (.ref fqlawqfault)))
    (lqlawqfault : K.lookup fqlawqfault = some ⟨ocqlawqfault, odqlawqfault, .func (PySem.W.fnOf "_law_fault" "_law_fault" (defArgs s_law_fault) (defBody s_law_fault) (defScope s_law_fault) .none kVqlawqfault dcqlawqfault pmqlawqfault anqlawqfault cdqlawqfault ctqlawqfault), slqlawqfault⟩)
    (cqlawqfault : PySem.W.codeIn K cdqlawqfault "_law_fault" = true)
    (kqlawqfault : PySem.W.keepIn K (.ref fqlawqfault) = true)
    (aqlawqodd : PySem.W.nsIn K mainGlobals "_law_odd" = some (some (.ref fqlawqodd)))
    (lqlawqodd : K.lookup fqlawqodd = some ⟨ocqlawqodd, odqlawqodd, .func (PySem.W.fnOf "_law_odd" "_law_odd" (defArgs s_law_odd) (defBody s_law_odd) (defScope s_law_odd) .none kVqlawqodd dcqlawqodd pmqlawqodd anqlawqodd cdqlawqodd ctqlawqodd), slqlawqodd⟩)
    (cqlawqodd : PySem.W.codeIn K cdqlawqodd "_law_odd" = true)
    (kqlawqodd : PySem.W.keepIn K (.ref fqlawqodd) = true)
    (aqlawqspoiledqletters : PySem.W.nsIn K mainGlobals "_law_spoiled_letters" = some (some (.ref fqlawqspoiledqletters)))
    (lqlawqspoiledqletters : K.lookup fqlawqspoiledqletters = some ⟨ocqlawqspoiledqletters, odqlawqspoiledqletters, .func (PySem.W.fnOf "_law_spoiled_letters" "_law_spoiled_letters" (defArgs s_law_spoiled_letters) (defBody s_law_spoiled_letters) (defScope s_law_spoiled_letters) .none kVqlawqspoiledqletters dcqlawqspoiledqletters pmqlawqspoiledqletters anqlawqspoiledqletters cdqlawqspoiledqletters ctqlawqspoiledqletters), slqlawqspoiledqletters⟩)
    (cqlawqspoiledqletters : PySem.W.codeIn K cdqlawqspoiledqletters "_law_spoiled_letters" = true)
    (kqlawqspoiledqletters : PySem.W.keepIn K (.ref fqlawqspoiledqletters) = true)
    (aqlawqspoiledqhours : PySem.W.nsIn K mainGlobals "_law_spoiled_hours" = some (some (.ref fqlawqspoiledqhours)))
    (lqlawqspoiledqhours : K.lookup fqlawqspoiledqhours = some ⟨ocqlawqspoiledqhours, odqlawqspoiledqhours, .func (PySem.W.fnOf "_law_spoiled_hours" "_law_spoiled_hours" (defArgs s_law_spoiled_hours) (defBody s_law_spoiled_hours) (defScope s_law_spoiled_hours) .none kVqlawqspoiledqhours dcqlawqspoiledqhours pmqlawqspoiledqhours anqlawqspoiledqhours cdqlawqspoiledqhours ctqlawqspoiledqhours), slqlawqspoiledqhours⟩)
    (cqlawqspoiledqhours : PySem.W.codeIn K cdqlawqspoiledqhours "_law_spoiled_hours" = true)
    (kqlawqspoiledqhours : PySem.W.keepIn K (.ref fqlawqspoiledqhours) = true)
    (aqlawqtold : PySem.W.nsIn K mainGlobals "_law_told" = some (some (.ref fqlawqtold)))
    (lqlawqtold : K.lookup fqlawqtold = some ⟨ocqlawqtold, odqlawqtold, .func (PySem.W.fnOf "_law_told" "_law_told" (defArgs s_law_told) (defBody s_law_told) (defScope s_law_told) .none kVqlawqtold dcqlawqtold pmqlawqtold anqlawqtold cdqlawqtold ctqlawqtold), slqlawqtold⟩)
    (cqlawqtold : PySem.W.codeIn K cdqlawqtold "_law_told" = true)
    (kqlawqtold : PySem.W.keepIn K (.ref fqlawqtold) = true)
    (alaw : PySem.W.nsIn K mainGlobals "law" = some (some (.ref flaw)))
    (llaw : K.lookup flaw = some ⟨oclaw, odlaw, .func (PySem.W.fnOf "law" "law" (defArgs s_law) (defBody s_law) (defScope s_law) .none kVlaw dclaw pmlaw anlaw cdlaw ctlaw), sllaw⟩)
    (claw : PySem.W.codeIn K cdlaw "law" = true)
    (klaw : PySem.W.keepIn K (.ref flaw) = true)
    (aMOSTqHOUSES : PySem.W.nsIn K mainGlobals "MOST_HOUSES" = some (some (.int 12 tMOSTqHOUSES)))
    (aMOSTqROADS : PySem.W.nsIn K mainGlobals "MOST_ROADS" = some (some (.int 24 tMOSTqROADS)))
    (aMOSTqROOMS : PySem.W.nsIn K mainGlobals "MOST_ROOMS" = some (some (.int 3 tMOSTqROOMS)))
    (aLONGESTqTIME : PySem.W.nsIn K mainGlobals "LONGEST_TIME" = some (some (.int 3 tLONGESTqTIME)))
    (aLONGESTqWAY : PySem.W.nsIn K mainGlobals "LONGEST_WAY" = some (some (.int 8 tLONGESTqWAY)))
    (aMOSTqLETTERS : PySem.W.nsIn K mainGlobals "MOST_LETTERS" = some (some (.int 60 tMOSTqLETTERS)))
    (aLASTqTICK : PySem.W.nsIn K mainGlobals "LAST_TICK" = some (some (.int 1000000 tLASTqTICK)))
    (aSIZES : PySem.W.nsIn K mainGlobals "SIZES" = some (some (.ref SSIZES)))
    (lSIZES : K.lookup SSIZES = some ⟨.type "tuple", ddSIZES, .seq #[.int 1 tSIZES0, .int 2 tSIZES1] nSIZES, slSIZES⟩)
    (aWWeb : PySem.W.nsIn K mainGlobals "Web" = some (some (.ref CWWeb)))
    (iWWeb : PySem.W.findIn K (.ref CWWeb) "__init__" = some (some (.ref fWWeb)))
    (yWWeb : PySem.W.isFn K (.ref fWWeb) = true)
    (lWWeb : K.lookup fWWeb = some ⟨ocWWeb, odWWeb, .func (PySem.W.fnOf "__init__" "Web.__init__" (defArgs s_Web___init) (defBody s_Web___init) (defScope s_Web___init) .none kVWWeb dcWWeb pmWWeb anWWeb cdWWeb ctWWeb), slWWeb⟩)
    (cWWeb : PySem.W.codeIn K cdWWeb "Web.__init__" = true)
    (kWWeb : PySem.W.keepIn K (.ref fWWeb) = true)
    (pgWWeb : PySem.W.plainGet K CWWeb Str.empty = true)
    (hdWWeb : PySem.W.hasDictIn K CWWeb = true)
    (poWWeb : PySem.W.plainOver K CWWeb = true)
    (saWWeb : PySem.W.findIn K (.ref CWWeb) "__setattr__" = some (some (.builtin "object.__setattr__")))
    (mkWWeb : PySem.W.makesIn K CWWeb = true)
    (kcWWeb : PySem.W.keepIn K (.ref CWWeb) = true)
    (naWWebhouses : PySem.W.findIn K (.ref CWWeb) "houses" = some none)
    (naWWebroads : PySem.W.findIn K (.ref CWWeb) "roads" = some none)
    (naWWebrooms : PySem.W.findIn K (.ref CWWeb) "rooms" = some none)
    (naWWebtimes : PySem.W.findIn K (.ref CWWeb) "times" = some none)
    (aWSizedDay : PySem.W.nsIn K mainGlobals "SizedDay" = some (some (.ref CWSizedDay)))
    (iWSizedDay : PySem.W.findIn K (.ref CWSizedDay) "__init__" = some (some (.ref fWSizedDay)))
    (yWSizedDay : PySem.W.isFn K (.ref fWSizedDay) = true)
    (lWSizedDay : K.lookup fWSizedDay = some ⟨ocWSizedDay, odWSizedDay, .func (PySem.W.fnOf "__init__" "SizedDay.__init__" (defArgs s_SizedDay___init) (defBody s_SizedDay___init) (defScope s_SizedDay___init) .none kVWSizedDay dcWSizedDay pmWSizedDay anWSizedDay cdWSizedDay ctWSizedDay), slWSizedDay⟩)
    (cWSizedDay : PySem.W.codeIn K cdWSizedDay "SizedDay.__init__" = true)
    (kWSizedDay : PySem.W.keepIn K (.ref fWSizedDay) = true)
    (pgWSizedDay : PySem.W.plainGet K CWSizedDay Str.empty = true)
    (hdWSizedDay : PySem.W.hasDictIn K CWSizedDay = true)
    (poWSizedDay : PySem.W.plainOver K CWSizedDay = true)
    (saWSizedDay : PySem.W.findIn K (.ref CWSizedDay) "__setattr__" = some (some (.builtin "object.__setattr__")))
    (mkWSizedDay : PySem.W.makesIn K CWSizedDay = true)
    (kcWSizedDay : PySem.W.keepIn K (.ref CWSizedDay) = true)
    (naWSizedDayweb : PySem.W.findIn K (.ref CWSizedDay) "web" = some none)
    (naWSizedDayletters : PySem.W.findIn K (.ref CWSizedDay) "letters" = some none)
    (naWSizedDayhours : PySem.W.findIn K (.ref CWSizedDay) "hours" = some none)
    (aXBadWeb : PySem.W.nsIn K mainGlobals "BadWeb" = some (some (.ref CXBadWeb)))
    (xXBadWeb : K.lookup CXBadWeb = some (excClassObj nmXBadWeb qnXBadWeb CXBadWeb NXBadWeb bsXBadWeb bmXBadWeb true snXBadWeb subXBadWeb abXBadWeb colXBadWeb ddXBadWeb m0XBadWeb m1XBadWeb m2XBadWeb m3XBadWeb m5XBadWeb "ValueError.__new__"))
    (bmXBadWebo : PySem.HandSPX.refsVE bmXBadWeb = true)
    (saXBadWeb : PySem.W.findIn K (.ref CXBadWeb) "__setattr__" = some (some (.builtin "object.__setattr__")))
    (gaXBadWeb : PySem.W.findIn K (.ref CXBadWeb) "__getattribute__" = some (some (.builtin "BaseException.__getattribute__")))
    (ggXBadWeb : PySem.W.findIn K (.ref CXBadWeb) "__getattr__" = some none)
    (iXBadWeb : PySem.W.findIn K (.ref CXBadWeb) "__init__" = some (some (.ref fXBadWeb)))
    (yXBadWeb : PySem.W.typeIn K (.ref fXBadWeb) = some (.type "function"))
    (lXBadWeb : K.lookup fXBadWeb = some ⟨ocXBadWeb, odXBadWeb, .func (PySem.W.fnOf "__init__" "BadWeb.__init__" (defArgs s_BadWeb___init) (defBody s_BadWeb___init) (defScope s_BadWeb___init) .none kVXBadWeb dcXBadWeb pmXBadWeb anXBadWeb cdXBadWeb ctXBadWeb), slXBadWeb⟩)
    (cXBadWeb : PySem.W.codeIn K cdXBadWeb "BadWeb.__init__" = true)
    (kXBadWeb : PySem.W.keepIn K (.ref fXBadWeb) = true)
    (kcXBadWeb : PySem.W.keepIn K (.ref CXBadWeb) = true)
    (exXBadWeb : PySem.W.subIn K (.ref CXBadWeb) (.type "BaseException") = some true)
    (tyXBadWeb : PySem.W.typeIn K (.ref CXBadWeb) = some (.type "type"))
    (hdXBadWeb : PySem.W.hasDictIn K CXBadWeb = true)
    (icXBadWeb : PySem.W.isClsIn K CXBadWeb = true)
    (suXBadWeb : PySem.W.subIn K (.ref CXBadWeb) (.ref CXBadWeb) = some true)
    (naXBadWebpart : PySem.W.findIn K (.ref CXBadWeb) "part" = some none)
    (aXBadDay : PySem.W.nsIn K mainGlobals "BadDay" = some (some (.ref CXBadDay)))
    (xXBadDay : K.lookup CXBadDay = some (excClassObj nmXBadDay qnXBadDay CXBadDay NXBadDay bsXBadDay bmXBadDay true snXBadDay subXBadDay abXBadDay colXBadDay ddXBadDay m0XBadDay m1XBadDay m2XBadDay m3XBadDay m5XBadDay "ValueError.__new__"))
    (bmXBadDayo : PySem.HandSPX.refsVE bmXBadDay = true)
    (saXBadDay : PySem.W.findIn K (.ref CXBadDay) "__setattr__" = some (some (.builtin "object.__setattr__")))
    (gaXBadDay : PySem.W.findIn K (.ref CXBadDay) "__getattribute__" = some (some (.builtin "BaseException.__getattribute__")))
    (ggXBadDay : PySem.W.findIn K (.ref CXBadDay) "__getattr__" = some none)
    (iXBadDay : PySem.W.findIn K (.ref CXBadDay) "__init__" = some (some (.ref fXBadDay)))
    (yXBadDay : PySem.W.typeIn K (.ref fXBadDay) = some (.type "function"))
    (lXBadDay : K.lookup fXBadDay = some ⟨ocXBadDay, odXBadDay, .func (PySem.W.fnOf "__init__" "BadDay.__init__" (defArgs s_BadDay___init) (defBody s_BadDay___init) (defScope s_BadDay___init) .none kVXBadDay dcXBadDay pmXBadDay anXBadDay cdXBadDay ctXBadDay), slXBadDay⟩)
    (cXBadDay : PySem.W.codeIn K cdXBadDay "BadDay.__init__" = true)
    (kXBadDay : PySem.W.keepIn K (.ref fXBadDay) = true)
    (kcXBadDay : PySem.W.keepIn K (.ref CXBadDay) = true)
    (exXBadDay : PySem.W.subIn K (.ref CXBadDay) (.type "BaseException") = some true)
    (tyXBadDay : PySem.W.typeIn K (.ref CXBadDay) = some (.type "type"))
    (hdXBadDay : PySem.W.hasDictIn K CXBadDay = true)
    (icXBadDay : PySem.W.isClsIn K CXBadDay = true)
    (suXBadDay : PySem.W.subIn K (.ref CXBadDay) (.ref CXBadDay) = some true)
    (naXBadDaypart : PySem.W.findIn K (.ref CXBadDay) "part" = some none)
    (iQWeb : PySem.W.findIn K (.ref CWWeb) "__eq__" = some (some (.ref fQWeb)))
    (yQWeb : PySem.W.isFn K (.ref fQWeb) = true)
    (lQWeb : K.lookup fQWeb = some ⟨ocQWeb, odQWeb, .func (PySem.W.fnOf "__eq__" "Web.__eq__" (defArgs s_Web___eq) (defBody s_Web___eq) (defScope s_Web___eq) .none kVQWeb dcQWeb pmQWeb anQWeb cdQWeb ctQWeb), slQWeb⟩)
    (cQWeb : PySem.W.codeIn K cdQWeb "Web.__eq__" = true)
    (kQWeb : PySem.W.keepIn K (.ref fQWeb) = true)
    (kiQWeb : PySem.W.kitOne K (.ref CWWeb) (.ref CWWeb) = some true)
    (haQWeb : PySem.W.findIn K (.ref CWWeb) "__class__" = some (some (.builtin "object.__class__")))
    (hmQWeb : PySem.W.mroIn K CWWeb (.type "object") = some true)
    (neQWeb : PySem.W.findIn K (.ref CWWeb) "__ne__" = some (some (.builtin "object.__ne__")))
    (sbQWeb : PySem.W.subIn K (.ref CWWeb) (.type "object") = some true)
    (nfQWebNoneType : PySem.W.subIn K (.type "NoneType") (.ref CWWeb) = some false)
    (kfQWebNoneType : PySem.W.kitOne K (.type "NoneType") (.ref CWWeb) = some false)
    (nfQWebint : PySem.W.subIn K (.type "int") (.ref CWWeb) = some false)
    (kfQWebint : PySem.W.kitOne K (.type "int") (.ref CWWeb) = some false)
    (nfQWebbool : PySem.W.subIn K (.type "bool") (.ref CWWeb) = some false)
    (kfQWebbool : PySem.W.kitOne K (.type "bool") (.ref CWWeb) = some false)
    (nfQWebstr : PySem.W.subIn K (.type "str") (.ref CWWeb) = some false)
    (kfQWebstr : PySem.W.kitOne K (.type "str") (.ref CWWeb) = some false)
    (nfQWebtuple : PySem.W.subIn K (.type "tuple") (.ref CWWeb) = some false)
    (kfQWebtuple : PySem.W.kitOne K (.type "tuple") (.ref CWWeb) = some false)
    (nfQWeblist : PySem.W.subIn K (.type "list") (.ref CWWeb) = some false)
    (kfQWeblist : PySem.W.kitOne K (.type "list") (.ref CWWeb) = some false)
    (nfQWebdict : PySem.W.subIn K (.type "dict") (.ref CWWeb) = some false)
    (kfQWebdict : PySem.W.kitOne K (.type "dict") (.ref CWWeb) = some false)
    (hnO : PySem.W.specialIn K (.builtin "object.__class__") "__get__" = some (some (.builtin "getset_descriptor.__get__")))
    (htO : PySem.W.takesIn K (.builtin "object.__class__") = some true)
    (iQSizedDay : PySem.W.findIn K (.ref CWSizedDay) "__eq__" = some (some (.ref fQSizedDay)))
    (yQSizedDay : PySem.W.isFn K (.ref fQSizedDay) = true)
    (lQSizedDay : K.lookup fQSizedDay = some ⟨ocQSizedDay, odQSizedDay, .func (PySem.W.fnOf "__eq__" "SizedDay.__eq__" (defArgs s_SizedDay___eq) (defBody s_SizedDay___eq) (defScope s_SizedDay___eq) .none kVQSizedDay dcQSizedDay pmQSizedDay anQSizedDay cdQSizedDay ctQSizedDay), slQSizedDay⟩)
    (cQSizedDay : PySem.W.codeIn K cdQSizedDay "SizedDay.__eq__" = true)
    (kQSizedDay : PySem.W.keepIn K (.ref fQSizedDay) = true)
    (kiQSizedDay : PySem.W.kitOne K (.ref CWSizedDay) (.ref CWSizedDay) = some true)
    (haQSizedDay : PySem.W.findIn K (.ref CWSizedDay) "__class__" = some (some (.builtin "object.__class__")))
    (hmQSizedDay : PySem.W.mroIn K CWSizedDay (.type "object") = some true)
    (neQSizedDay : PySem.W.findIn K (.ref CWSizedDay) "__ne__" = some (some (.builtin "object.__ne__")))
    (sbQSizedDay : PySem.W.subIn K (.ref CWSizedDay) (.type "object") = some true)
    (nfQSizedDayNoneType : PySem.W.subIn K (.type "NoneType") (.ref CWSizedDay) = some false)
    (kfQSizedDayNoneType : PySem.W.kitOne K (.type "NoneType") (.ref CWSizedDay) = some false)
    (nfQSizedDayint : PySem.W.subIn K (.type "int") (.ref CWSizedDay) = some false)
    (kfQSizedDayint : PySem.W.kitOne K (.type "int") (.ref CWSizedDay) = some false)
    (nfQSizedDaybool : PySem.W.subIn K (.type "bool") (.ref CWSizedDay) = some false)
    (kfQSizedDaybool : PySem.W.kitOne K (.type "bool") (.ref CWSizedDay) = some false)
    (nfQSizedDaystr : PySem.W.subIn K (.type "str") (.ref CWSizedDay) = some false)
    (kfQSizedDaystr : PySem.W.kitOne K (.type "str") (.ref CWSizedDay) = some false)
    (nfQSizedDaytuple : PySem.W.subIn K (.type "tuple") (.ref CWSizedDay) = some false)
    (kfQSizedDaytuple : PySem.W.kitOne K (.type "tuple") (.ref CWSizedDay) = some false)
    (nfQSizedDaylist : PySem.W.subIn K (.type "list") (.ref CWSizedDay) = some false)
    (kfQSizedDaylist : PySem.W.kitOne K (.type "list") (.ref CWSizedDay) = some false)
    (nfQSizedDaydict : PySem.W.subIn K (.type "dict") (.ref CWSizedDay) = some false)
    (kfQSizedDaydict : PySem.W.kitOne K (.type "dict") (.ref CWSizedDay) = some false)
    (anqisinstance : PySem.W.nsIn K mainGlobals "isinstance" = some none)
    (anqint : PySem.W.nsIn K mainGlobals "int" = some none)
    (anqbool : PySem.W.nsIn K mainGlobals "bool" = some none)
    (anqtuple : PySem.W.nsIn K mainGlobals "tuple" = some none)
    (anqlist : PySem.W.nsIn K mainGlobals "list" = some none)
    (anqlen : PySem.W.nsIn K mainGlobals "len" = some none)
    (anqall : PySem.W.nsIn K mainGlobals "all" = some none)
    (anqany : PySem.W.nsIn K mainGlobals "any" = some none)
    (anqabs : PySem.W.nsIn K mainGlobals "abs" = some none)
    (anqrange : PySem.W.nsIn K mainGlobals "range" = some none)
    (anqzip : PySem.W.nsIn K mainGlobals "zip" = some none)
    (anqsorted : PySem.W.nsIn K mainGlobals "sorted" = some none)
    (anqset : PySem.W.nsIn K mainGlobals "set" = some none)
    (anqmax : PySem.W.nsIn K mainGlobals "max" = some none) :
    ∃ T : Tx K mg, ∀ (s : Shared) (v : Value), BindsTo s T.law.fd ⟨[v], []⟩ [("_law_script", v)] := by
  refine ⟨{
    is_integer := ⟨fisqinteger, _, fun_mk (st := s_is_integer) lisqinteger cisqinteger kisqinteger, PySem.W.mg_of X G aisqinteger, (fun_mk (st := s_is_integer) lisqinteger cisqinteger kisqinteger).binds (fun _ _ _ _ _ _ us hl => match us, hl with | [_], _ => rfl)⟩
    is_between := ⟨fisqbetween, _, fun_mk (st := s_is_between) lisqbetween cisqbetween kisqbetween, PySem.W.mg_of X G aisqbetween, (fun_mk (st := s_is_between) lisqbetween cisqbetween kisqbetween).binds (fun _ _ _ _ _ _ us hl => match us, hl with | [_, _, _], _ => rfl)⟩
    is_tuple := ⟨fisqtuple, _, fun_mk (st := s_is_tuple) lisqtuple cisqtuple kisqtuple, PySem.W.mg_of X G aisqtuple, (fun_mk (st := s_is_tuple) lisqtuple cisqtuple kisqtuple).binds (fun _ _ _ _ _ _ us hl => match us, hl with | [_, _], _ => rfl)⟩
    are_integers := ⟨fareqintegers, _, fun_mk (st := s_are_integers) lareqintegers careqintegers kareqintegers, PySem.W.mg_of X G aareqintegers, (fun_mk (st := s_are_integers) lareqintegers careqintegers kareqintegers).binds (fun _ _ _ _ _ _ us hl => match us, hl with | [_, _], _ => rfl)⟩
    are_between := ⟨fareqbetween, _, fun_mk (st := s_are_between) lareqbetween careqbetween kareqbetween, PySem.W.mg_of X G aareqbetween, (fun_mk (st := s_are_between) lareqbetween careqbetween kareqbetween).binds (fun _ _ _ _ _ _ us hl => match us, hl with | [_, _, _, _], _ => rfl)⟩
    are_roads := ⟨fareqroads, _, fun_mk (st := s_are_roads) lareqroads careqroads kareqroads, PySem.W.mg_of X G aareqroads, (fun_mk (st := s_are_roads) lareqroads careqroads kareqroads).binds (fun _ _ _ _ _ _ us hl => match us, hl with | [_, _], _ => rfl)⟩
    is_begin_and_end := ⟨fisqbeginqandqend, _, fun_mk (st := s_is_begin_and_end) lisqbeginqandqend cisqbeginqandqend kisqbeginqandqend, PySem.W.mg_of X G aisqbeginqandqend, (fun_mk (st := s_is_begin_and_end) lisqbeginqandqend cisqbeginqandqend kisqbeginqandqend).binds (fun _ _ _ _ _ _ us hl => match us, hl with | [_, _], _ => rfl)⟩
    is_road := ⟨fisqroad, _, fun_mk (st := s_is_road) lisqroad cisqroad kisqroad, PySem.W.mg_of X G aisqroad, (fun_mk (st := s_is_road) lisqroad cisqroad kisqroad).binds (fun _ _ _ _ _ _ us hl => match us, hl with | [_, _], _ => rfl)⟩
    is_way := ⟨fisqway, _, fun_mk (st := s_is_way) lisqway cisqway kisqway, PySem.W.mg_of X G aisqway, (fun_mk (st := s_is_way) lisqway cisqway kisqway).binds (fun _ _ _ _ _ _ us hl => match us, hl with | [_, _], _ => rfl)⟩
    is_plain := ⟨fisqplain, _, fun_mk (st := s_is_plain) lisqplain cisqplain kisqplain, PySem.W.mg_of X G aisqplain, (fun_mk (st := s_is_plain) lisqplain cisqplain kisqplain).binds (fun _ _ _ _ _ _ us hl => match us, hl with | [_], _ => rfl)⟩
    are_sized_letters := ⟨fareqsizedqletters, _, fun_mk (st := s_are_sized_letters) lareqsizedqletters careqsizedqletters kareqsizedqletters, PySem.W.mg_of X G aareqsizedqletters, (fun_mk (st := s_are_sized_letters) lareqsizedqletters careqsizedqletters kareqsizedqletters).binds (fun _ _ _ _ _ _ us hl => match us, hl with | [_, _], _ => rfl)⟩
    is_sized_letter := ⟨fisqsizedqletter, _, fun_mk (st := s_is_sized_letter) lisqsizedqletter cisqsizedqletter kisqsizedqletter, PySem.W.mg_of X G aisqsizedqletter, (fun_mk (st := s_is_sized_letter) lisqsizedqletter cisqsizedqletter kisqsizedqletter).binds (fun _ _ _ _ _ _ us hl => match us, hl with | [_, _], _ => rfl)⟩
    is_size := ⟨fisqsize, _, fun_mk (st := s_is_size) lisqsize cisqsize kisqsize, PySem.W.mg_of X G aisqsize, (fun_mk (st := s_is_size) lisqsize cisqsize kisqsize).binds (fun _ _ _ _ _ _ us hl => match us, hl with | [_], _ => rfl)⟩
    are_sized_hours := ⟨fareqsizedqhours, _, fun_mk (st := s_are_sized_hours) lareqsizedqhours careqsizedqhours kareqsizedqhours, PySem.W.mg_of X G aareqsizedqhours, (fun_mk (st := s_are_sized_hours) lareqsizedqhours careqsizedqhours kareqsizedqhours).binds (fun _ _ _ _ _ _ us hl => match us, hl with | [_, _], _ => rfl)⟩
    some_sized_early := ⟨fsomeqsizedqearly, _, fun_mk (st := s_some_sized_early) lsomeqsizedqearly csomeqsizedqearly ksomeqsizedqearly, PySem.W.mg_of X G asomeqsizedqearly, (fun_mk (st := s_some_sized_early) lsomeqsizedqearly csomeqsizedqearly ksomeqsizedqearly).binds (fun _ _ _ _ _ _ us hl => match us, hl with | [_, _], _ => rfl)⟩
    some_sized_full := ⟨fsomeqsizedqfull, _, fun_mk (st := s_some_sized_full) lsomeqsizedqfull csomeqsizedqfull ksomeqsizedqfull, PySem.W.mg_of X G asomeqsizedqfull, (fun_mk (st := s_some_sized_full) lsomeqsizedqfull csomeqsizedqfull ksomeqsizedqfull).binds (fun _ _ _ _ _ _ us hl => match us, hl with | [_, _], _ => rfl)⟩
    _law_hand := ⟨fqlawqhand, _, fun_mk (st := s_law_hand) lqlawqhand cqlawqhand kqlawqhand, PySem.W.mg_of X G aqlawqhand, (fun_mk (st := s_law_hand) lqlawqhand cqlawqhand kqlawqhand).binds (fun _ _ _ _ _ _ us hl => match us, hl with | [_], _ => rfl)⟩
    _law_draw := ⟨fqlawqdraw, _, fun_mk (st := s_law_draw) lqlawqdraw cqlawqdraw kqlawqdraw, PySem.W.mg_of X G aqlawqdraw, (fun_mk (st := s_law_draw) lqlawqdraw cqlawqdraw kqlawqdraw).binds (fun _ _ _ _ _ _ us hl => match us, hl with | [_, _], _ => rfl)⟩
    _law_roads := ⟨fqlawqroads, _, fun_mk (st := s_law_roads) lqlawqroads cqlawqroads kqlawqroads, PySem.W.mg_of X G aqlawqroads, (fun_mk (st := s_law_roads) lqlawqroads cqlawqroads kqlawqroads).binds (fun _ _ _ _ _ _ us hl => match us, hl with | [_, _, _], _ => rfl)⟩
    _law_counts := ⟨fqlawqcounts, _, fun_mk (st := s_law_counts) lqlawqcounts cqlawqcounts kqlawqcounts, PySem.W.mg_of X G aqlawqcounts, (fun_mk (st := s_law_counts) lqlawqcounts cqlawqcounts kqlawqcounts).binds (fun _ _ _ _ _ _ us hl => match us, hl with | [_, _, _], _ => rfl)⟩
    _law_next := ⟨fqlawqnext, _, fun_mk (st := s_law_next) lqlawqnext cqlawqnext kqlawqnext, PySem.W.mg_of X G aqlawqnext, (fun_mk (st := s_law_next) lqlawqnext cqlawqnext kqlawqnext).binds (fun _ _ _ _ _ _ us hl => match us, hl with | [_, _], _ => rfl)⟩
    _law_way := ⟨fqlawqway, _, fun_mk (st := s_law_way) lqlawqway cqlawqway kqlawqway, PySem.W.mg_of X G aqlawqway, (fun_mk (st := s_law_way) lqlawqway cqlawqway kqlawqway).binds (fun _ _ _ _ _ _ us hl => match us, hl with | [_, _, _], _ => rfl)⟩
    _law_sized_letters := ⟨fqlawqsizedqletters, _, fun_mk (st := s_law_sized_letters) lqlawqsizedqletters cqlawqsizedqletters kqlawqsizedqletters, PySem.W.mg_of X G aqlawqsizedqletters, (fun_mk (st := s_law_sized_letters) lqlawqsizedqletters cqlawqsizedqletters kqlawqsizedqletters).binds (fun _ _ _ _ _ _ us hl => match us, hl with | [_, _, _, _], _ => rfl)⟩
    _law_led := ⟨fqlawqled, _, fun_mk (st := s_law_led) lqlawqled cqlawqled kqlawqled, PySem.W.mg_of X G aqlawqled, (fun_mk (st := s_law_led) lqlawqled cqlawqled kqlawqled).binds (fun _ _ _ _ _ _ us hl => match us, hl with | [_, _, _, _, _], _ => rfl)⟩
    _law_sized_hours := ⟨fqlawqsizedqhours, _, fun_mk (st := s_law_sized_hours) lqlawqsizedqhours cqlawqsizedqhours kqlawqsizedqhours, PySem.W.mg_of X G aqlawqsizedqhours, (fun_mk (st := s_law_sized_hours) lqlawqsizedqhours cqlawqsizedqhours kqlawqsizedqhours).binds (fun _ _ _ _ _ _ us hl => match us, hl with | [_, _, _], _ => rfl)⟩
    _law_flag := ⟨fqlawqflag, _, fun_mk (st := s_law_flag) lqlawqflag cqlawqflag kqlawqflag, PySem.W.mg_of X G aqlawqflag, (fun_mk (st := s_law_flag) lqlawqflag cqlawqflag kqlawqflag).binds (fun _ _ _ _ _ _ us hl => match us, hl with | [_, _], _ => rfl)⟩
    _law_is_integer := ⟨fqlawqisqinteger, _, fun_mk (st := s_law_is_integer) lqlawqisqinteger cqlawqisqinteger kqlawqisqinteger, PySem.W.mg_of X G aqlawqisqinteger, (fun_mk (st := s_law_is_integer) lqlawqisqinteger cqlawqisqinteger kqlawqisqinteger).binds (fun _ _ _ _ _ _ us hl => match us, hl with | [_], _ => rfl)⟩
    _law_is_way := ⟨fqlawqisqway, _, fun_mk (st := s_law_is_way) lqlawqisqway cqlawqisqway kqlawqisqway, PySem.W.mg_of X G aqlawqisqway, (fun_mk (st := s_law_is_way) lqlawqisqway cqlawqisqway kqlawqisqway).binds (fun _ _ _ _ _ _ us hl => match us, hl with | [_, _], _ => rfl)⟩
    _law_put := ⟨fqlawqput, _, fun_mk (st := s_law_put) lqlawqput cqlawqput kqlawqput, PySem.W.mg_of X G aqlawqput, (fun_mk (st := s_law_put) lqlawqput cqlawqput kqlawqput).binds (fun _ _ _ _ _ _ us hl => match us, hl with | [_, _, _], _ => rfl)⟩
    _law_are_letters := ⟨fqlawqareqletters, _, fun_mk (st := s_law_are_letters) lqlawqareqletters cqlawqareqletters kqlawqareqletters, PySem.W.mg_of X G aqlawqareqletters, (fun_mk (st := s_law_are_letters) lqlawqareqletters cqlawqareqletters kqlawqareqletters).binds (fun _ _ _ _ _ _ us hl => match us, hl with | [_, _], _ => rfl)⟩
    _law_are_hours := ⟨fqlawqareqhours, _, fun_mk (st := s_law_are_hours) lqlawqareqhours cqlawqareqhours kqlawqareqhours, PySem.W.mg_of X G aqlawqareqhours, (fun_mk (st := s_law_are_hours) lqlawqareqhours cqlawqareqhours kqlawqareqhours).binds (fun _ _ _ _ _ _ us hl => match us, hl with | [_, _], _ => rfl)⟩
    _law_fault := ⟨fqlawqfault, _, fun_mk (st := s_law_fault) lqlawqfault cqlawqfault kqlawqfault, PySem.W.mg_of X G aqlawqfault, (fun_mk (st := s_law_fault) lqlawqfault cqlawqfault kqlawqfault).binds (fun _ _ _ _ _ _ us hl => match us, hl with | [_, _, _, _], _ => rfl)⟩
    _law_odd := ⟨fqlawqodd, _, fun_mk (st := s_law_odd) lqlawqodd cqlawqodd kqlawqodd, PySem.W.mg_of X G aqlawqodd, (fun_mk (st := s_law_odd) lqlawqodd cqlawqodd kqlawqodd).binds (fun _ _ _ _ _ _ us hl => match us, hl with | [_], _ => rfl)⟩
    _law_spoiled_letters := ⟨fqlawqspoiledqletters, _, fun_mk (st := s_law_spoiled_letters) lqlawqspoiledqletters cqlawqspoiledqletters kqlawqspoiledqletters, PySem.W.mg_of X G aqlawqspoiledqletters, (fun_mk (st := s_law_spoiled_letters) lqlawqspoiledqletters cqlawqspoiledqletters kqlawqspoiledqletters).binds (fun _ _ _ _ _ _ us hl => match us, hl with | [_, _, _], _ => rfl)⟩
    _law_spoiled_hours := ⟨fqlawqspoiledqhours, _, fun_mk (st := s_law_spoiled_hours) lqlawqspoiledqhours cqlawqspoiledqhours kqlawqspoiledqhours, PySem.W.mg_of X G aqlawqspoiledqhours, (fun_mk (st := s_law_spoiled_hours) lqlawqspoiledqhours cqlawqspoiledqhours kqlawqspoiledqhours).binds (fun _ _ _ _ _ _ us hl => match us, hl with | [_, _], _ => rfl)⟩
    _law_told := ⟨fqlawqtold, _, fun_mk (st := s_law_told) lqlawqtold cqlawqtold kqlawqtold, PySem.W.mg_of X G aqlawqtold, (fun_mk (st := s_law_told) lqlawqtold cqlawqtold kqlawqtold).binds (fun _ _ _ _ _ _ us hl => match us, hl with | [_, _, _], _ => rfl)⟩
    law := ⟨flaw, _, fun_mk (st := s_law) llaw claw klaw, PySem.W.mg_of X G alaw, (fun_mk (st := s_law) llaw claw klaw).binds (fun _ _ _ _ _ _ us hl => match us, hl with | [_], _ => rfl)⟩
    c_MOST_HOUSES := ⟨_, PySem.W.mg_of X G aMOSTqHOUSES⟩
    c_MOST_ROADS := ⟨_, PySem.W.mg_of X G aMOSTqROADS⟩
    c_MOST_ROOMS := ⟨_, PySem.W.mg_of X G aMOSTqROOMS⟩
    c_LONGEST_TIME := ⟨_, PySem.W.mg_of X G aLONGESTqTIME⟩
    c_LONGEST_WAY := ⟨_, PySem.W.mg_of X G aLONGESTqWAY⟩
    c_MOST_LETTERS := ⟨_, PySem.W.mg_of X G aMOSTqLETTERS⟩
    c_LAST_TICK := ⟨_, PySem.W.mg_of X G aLASTqTICK⟩
    c_SIZES := ⟨SSIZES, PySem.W.mg_of X G aSIZES, fun H => .inr ⟨_, _, _, lSIZES, rfl, rfl, (by show 2 ≤ sizeLine; decide), (.cons ⟨_, rfl⟩ (.cons ⟨_, rfl⟩ .nil))⟩⟩
    Web := ⟨CWWeb, fWWeb, _, fun_mk (st := s_Web___init) lWWeb cWWeb kWWeb, PySem.W.mg_of X G aWWeb, (fun_mk (st := s_Web___init) lWWeb cWWeb kWWeb).binds (fun _ _ _ _ _ _ us hl => match us, hl with | [_, _, _, _, _], _ => rfl), ⟨mkWWeb, iWWeb, yWWeb, kcWWeb⟩, ⟨pgWWeb, hdWWeb, poWWeb, saWWeb⟩, by intro x hx; simp only [List.mem_cons, List.not_mem_nil, or_false] at hx; rcases hx with rfl | rfl | rfl | rfl <;> assumption⟩
    SizedDay := ⟨CWSizedDay, fWSizedDay, _, fun_mk (st := s_SizedDay___init) lWSizedDay cWSizedDay kWSizedDay, PySem.W.mg_of X G aWSizedDay, (fun_mk (st := s_SizedDay___init) lWSizedDay cWSizedDay kWSizedDay).binds (fun _ _ _ _ _ _ us hl => match us, hl with | [_, _, _, _], _ => rfl), ⟨mkWSizedDay, iWSizedDay, yWSizedDay, kcWSizedDay⟩, ⟨pgWSizedDay, hdWSizedDay, poWSizedDay, saWSizedDay⟩, by intro x hx; simp only [List.mem_cons, List.not_mem_nil, or_false] at hx; rcases hx with rfl | rfl | rfl <;> assumption⟩
    x_BadWeb := ⟨CXBadWeb, fXBadWeb, _, fun_mk (st := s_BadWeb___init) lXBadWeb cXBadWeb kXBadWeb, PySem.W.mg_of X G aXBadWeb, (fun_mk (st := s_BadWeb___init) lXBadWeb cXBadWeb kXBadWeb).binds (fun _ _ _ _ _ _ us hl => match us, hl with | [_, _], _ => rfl), ⟨⟨_, _, _, _, _, _, _, _, _, _, _, _, _, _, _, xXBadWeb, bmXBadWebo⟩, saXBadWeb, exXBadWeb, tyXBadWeb, kcXBadWeb⟩, iXBadWeb, yXBadWeb, ⟨gaXBadWeb, ggXBadWeb, exXBadWeb, hdXBadWeb⟩, exm_self exXBadWeb icXBadWeb tyXBadWeb suXBadWeb, (fun x hx => by simp only [List.mem_cons, List.not_mem_nil, or_false] at hx; rcases hx with rfl <;> assumption)⟩
    x_BadDay := ⟨CXBadDay, fXBadDay, _, fun_mk (st := s_BadDay___init) lXBadDay cXBadDay kXBadDay, PySem.W.mg_of X G aXBadDay, (fun_mk (st := s_BadDay___init) lXBadDay cXBadDay kXBadDay).binds (fun _ _ _ _ _ _ us hl => match us, hl with | [_, _], _ => rfl), ⟨⟨_, _, _, _, _, _, _, _, _, _, _, _, _, _, _, xXBadDay, bmXBadDayo⟩, saXBadDay, exXBadDay, tyXBadDay, kcXBadDay⟩, iXBadDay, yXBadDay, ⟨gaXBadDay, ggXBadDay, exXBadDay, hdXBadDay⟩, exm_self exXBadDay icXBadDay tyXBadDay suXBadDay, (fun x hx => by simp only [List.mem_cons, List.not_mem_nil, or_false] at hx; rcases hx with rfl <;> assumption)⟩
    e_Web := ⟨fQWeb, _, fun_mk (st := s_Web___eq) lQWeb cQWeb kQWeb, (fun_mk (st := s_Web___eq) lQWeb cQWeb kQWeb).binds (fun _ _ _ _ _ _ us hl => match us, hl with | [_, _], _ => rfl), iQWeb, yQWeb, kiQWeb, haQWeb, hnO, htO, hmQWeb, neQWeb, sbQWeb, ⟨nfQWebNoneType, kfQWebNoneType⟩, ⟨nfQWebint, kfQWebint⟩, ⟨nfQWebbool, kfQWebbool⟩, ⟨nfQWebstr, kfQWebstr⟩, ⟨nfQWebtuple, kfQWebtuple⟩, ⟨nfQWeblist, kfQWeblist⟩, ⟨nfQWebdict, kfQWebdict⟩⟩
    e_SizedDay := ⟨fQSizedDay, _, fun_mk (st := s_SizedDay___eq) lQSizedDay cQSizedDay kQSizedDay, (fun_mk (st := s_SizedDay___eq) lQSizedDay cQSizedDay kQSizedDay).binds (fun _ _ _ _ _ _ us hl => match us, hl with | [_, _], _ => rfl), iQSizedDay, yQSizedDay, kiQSizedDay, haQSizedDay, hnO, htO, hmQSizedDay, neQSizedDay, sbQSizedDay, ⟨nfQSizedDayNoneType, kfQSizedDayNoneType⟩, ⟨nfQSizedDayint, kfQSizedDayint⟩, ⟨nfQSizedDaybool, kfQSizedDaybool⟩, ⟨nfQSizedDaystr, kfQSizedDaystr⟩, ⟨nfQSizedDaytuple, kfQSizedDaytuple⟩, ⟨nfQSizedDaylist, kfQSizedDaylist⟩, ⟨nfQSizedDaydict, kfQSizedDaydict⟩⟩
    n_isinstance := PySem.W.mg_none_of X G anqisinstance
    n_int := PySem.W.mg_none_of X G anqint
    n_bool := PySem.W.mg_none_of X G anqbool
    n_tuple := PySem.W.mg_none_of X G anqtuple
    n_list := PySem.W.mg_none_of X G anqlist
    n_len := PySem.W.mg_none_of X G anqlen
    n_all := PySem.W.mg_none_of X G anqall
    n_any := PySem.W.mg_none_of X G anqany
    n_abs := PySem.W.mg_none_of X G anqabs
    n_range := PySem.W.mg_none_of X G anqrange
    n_zip := PySem.W.mg_none_of X G anqzip
    n_sorted := PySem.W.mg_none_of X G anqsorted
    n_set := PySem.W.mg_none_of X G anqset
    n_max := PySem.W.mg_none_of X G anqmax
  }, fun s v => .of_eq rfl⟩

theorem fin {l : PySem.W.OpenLaw} {w : World} {K : PySem.W.Frag} {mg : Str → Option Value} {fa : Addr} (hfa : mg "law" = some (.ref fa)) (h : ∃ T : Tx K mg, ∀ (s : Shared) (v : Value), BindsTo s T.law.fd ⟨[v], []⟩ [("_law_script", v)]) :
    ∃ fd : FuncData, (∀ (s : Shared) (v : Value), BindsTo s fd ⟨[v], []⟩ [("_law_script", v)]) ∧ ∀ base : Heap, K.In base → base.Ns mainGlobals mg → FnOk l.prog w K mg base CX0 14 fa fd ["_law_script"] (spLaw K) := by
  obtain ⟨T, b⟩ := h
  have e := hfa.symm.trans T.law.g
  cases e
  exact ⟨T.law.fd, b, fun base _ _ => ok_law T⟩
theorem walk {l : PySem.W.OpenLaw} {q : Program} {loose : List Str} {XP : (Str → Option Value) → Heap → Prop} {YP : World → Heap → Prop} {d : DefRec} {K : Params → PySem.W.Frag} (hn : l.most = some 63) (hdf : d.params.defaults = [])
    (hY : ∀ (w : World) (h : Heap), YP w h → (K w.params).In h)
    (F : ∀ (w : World) (mg : Str → Option Value) (fa : Addr) (h : Heap), (K w.params).In h → h.Ns mainGlobals mg → mg d.name = some (.ref fa) →
      ∃ fd : FuncData, (∀ (s : Shared) (u : Value), BindsTo s fd ⟨[u], []⟩ [("_law_script", u)]) ∧ ∀ base : Heap, (K w.params).In base → base.Ns mainGlobals mg → FnOk l.prog w (K w.params) mg base CX0 14 fa fd ["_law_script"] (spLaw (K w.params))) :
    PySem.W.WalkO q loose XP YP l.row.toRowW d [] (fun f vs => PySem.call f vs) :=
  L2.walk_of (n := 63) (k := 14) (x := "_law_script") (CX := fun _ => CX0) (sp := fun w => spLaw (K w.params)) hn (by decide) hdf ⟨rfl, by decide, by decide⟩ hY F (fun _ _ a ns hl _ hS => ⟨a, ns, rfl, hS, hl, fun _ => rfl⟩) fun _ _ _ _ _ z => z
end Hc


set_option Elab.async false
set_option linter.all false
open PySem PySem.W PyProof.Rows
set_option maxRecDepth 100000 in
set_option maxHeartbeats 0 in
theorem PySem.Challenge.cw_hourcards_k65_sized_days_judged_holds : PySem.Challenge.rw_hourcards_k65_sized_days_judged.Holds := by
  w_on; o_law; k_head; (case hw => w_witness2)
  k_fill
  refine Hc.walk (l := PySem.Challenge.rw_hourcards_k65_sized_days_judged) rfl rfl (fun w h Y => PySem.W.kIn_of Y) ?F
  case F =>
    intro w mg fa h KX G hmg
    refine Hc.fin hmg ?T
    refine' Hc.tx_mk KX G ?aisqinteger ?lisqinteger ?cisqinteger ?kisqinteger ?aisqbetween ?lisqbetween ?cisqbetween ?kisqbetween ?aisqtuple ?lisqtuple ?cisqtuple ?kisqtuple ?aareqintegers ?lareqintegers ?careqintegers ?kareqintegers ?aareqbetween ?lareqbetween ?careqbetween ?kareqbetween ?aareqroads ?lareqroads ?careqroads ?kareqroads ?aisqbeginqandqend ?lisqbeginqandqend ?cisqbeginqandqend ?kisqbeginqandqend ?aisqroad ?lisqroad ?cisqroad ?kisqroad ?aisqway ?lisqway ?cisqway ?kisqway ?aisqplain ?lisqplain ?cisqplain ?kisqplain ?aareqsizedqletters ?lareqsizedqletters ?careqsizedqletters ?kareqsizedqletters ?aisqsizedqletter ?lisqsizedqletter ?cisqsizedqletter ?kisqsizedqletter ?aisqsize ?lisqsize ?cisqsize ?kisqsize ?aareqsizedqhours ?lareqsizedqhours ?careqsizedqhours ?kareqsizedqhours ?asomeqsizedqearly ?lsomeqsizedqearly ?csomeqsizedqearly ?ksomeqsizedqearly ?asomeqsizedqfull ?lsomeqsizedqfull ?csomeqsizedqfull ?ksomeqsizedqfull ?aqlawqhand ?lqlawqhand ?cqlawqhand ?kqlawqhand ?aqlawqdraw ?lqlawqdraw ?cqlawqdraw ?kqlawqdraw ?aqlawqroads ?lqlawqroads ?cqlawqroads ?kqlawqroads ?aqlawqcounts ?lqlawqcounts ?cqlawqcounts ?kqlawqcounts ?aqlawqnext ?lqlawqnext ?cqlawqnext ?kqlawqnext ?aqlawqway ?lqlawqway ?cqlawqway ?kqlawqway ?aqlawqsizedqletters ?lqlawqsizedqletters ?cqlawqsizedqletters ?kqlawqsizedqletters ?aqlawqled ?lqlawqled ?cqlawqled ?kqlawqled ?aqlawqsizedqhours ?lqlawqsizedqhours ?cqlawqsizedqhours ?kqlawqsizedqhours ?aqlawqflag ?lqlawqflag ?cqlawqflag ?kqlawqflag ?aqlawqisqinteger ?lqlawqisqinteger ?cqlawqisqinteger ?kqlawqisqinteger ?aqlawqisqway ?lqlawqisqway ?cqlawqisqway ?kqlawqisqway ?aqlawqput ?lqlawqput ?cqlawqput ?kqlawqput ?aqlawqareqletters ?lqlawqareqletters ?cqlawqareqletters ?kqlawqareqletters ?aqlawqareqhours ?lqlawqareqhours ?cqlawqareqhours ?kqlawqareqhours ?aqlawqfault ?lqlawqfault ?cqlawqfault ?kqlawqfault ?aqlawqodd ?lqlawqodd ?cqlawqodd ?kqlawqodd ?aqlawqspoiledqletters ?lqlawqspoiledqletters ?cqlawqspoiledqletters ?kqlawqspoiledqletters ?aqlawqspoiledqhours ?lqlawqspoiledqhours ?cqlawqspoiledqhours ?kqlawqspoiledqhours ?aqlawqtold ?lqlawqtold ?cqlawqtold ?kqlawqtold ?alaw ?llaw ?claw ?klaw ?aMOSTqHOUSES ?aMOSTqROADS ?aMOSTqROOMS ?aLONGESTqTIME ?aLONGESTqWAY ?aMOSTqLETTERS ?aLASTqTICK ?aSIZES ?lSIZES ?aWWeb ?iWWeb ?yWWeb ?lWWeb ?cWWeb ?kWWeb ?pgWWeb ?hdWWeb ?poWWeb ?saWWeb ?mkWWeb ?kcWWeb ?naWWebhouses ?naWWebroads ?naWWebrooms ?naWWebtimes ?aWSizedDay ?iWSizedDay ?yWSizedDay ?lWSizedDay ?cWSizedDay ?kWSizedDay ?pgWSizedDay ?hdWSizedDay ?poWSizedDay ?saWSizedDay ?mkWSizedDay ?kcWSizedDay ?naWSizedDayweb ?naWSizedDayletters ?naWSizedDayhours ?aXBadWeb ?xXBadWeb ?bmXBadWebo ?saXBadWeb ?gaXBadWeb ?ggXBadWeb ?iXBadWeb ?yXBadWeb ?lXBadWeb ?cXBadWeb ?kXBadWeb ?kcXBadWeb ?exXBadWeb ?tyXBadWeb ?hdXBadWeb ?icXBadWeb ?suXBadWeb ?naXBadWebpart ?aXBadDay ?xXBadDay ?bmXBadDayo ?saXBadDay ?gaXBadDay ?ggXBadDay ?iXBadDay ?yXBadDay ?lXBadDay ?cXBadDay ?kXBadDay ?kcXBadDay ?exXBadDay ?tyXBadDay ?hdXBadDay ?icXBadDay ?suXBadDay ?naXBadDaypart ?iQWeb ?yQWeb ?lQWeb ?cQWeb ?kQWeb ?kiQWeb ?haQWeb ?hmQWeb ?neQWeb ?sbQWeb ?nfQWebNoneType ?kfQWebNoneType ?nfQWebint ?kfQWebint ?nfQWebbool ?kfQWebbool ?nfQWebstr ?kfQWebstr ?nfQWebtuple ?kfQWebtuple ?nfQWeblist ?kfQWeblist ?nfQWebdict ?kfQWebdict ?hnO ?htO ?iQSizedDay ?yQSizedDay ?lQSizedDay ?cQSizedDay ?kQSizedDay ?kiQSizedDay ?haQSizedDay ?hmQSizedDay ?neQSizedDay ?sbQSizedDay ?nfQSizedDayNoneType ?kfQSizedDayNoneType ?nfQSizedDayint ?kfQSizedDayint ?nfQSizedDaybool ?kfQSizedDaybool ?nfQSizedDaystr ?kfQSizedDaystr ?nfQSizedDaytuple ?kfQSizedDaytuple ?nfQSizedDaylist ?kfQSizedDaylist ?nfQSizedDaydict ?kfQSizedDaydict ?anqisinstance ?anqint ?anqbool ?anqtuple ?anqlist ?anqlen ?anqall ?anqany ?anqabs ?anqrange ?anqzip ?anqsorted ?anqset ?anqmax
    (case aisqinteger => k_is)
    (case lisqinteger => k_is)
    (case cisqinteger => k_is)
    (case kisqinteger => k_is)
    (case aisqbetween => k_is)
    (case lisqbetween => k_is)
    (case cisqbetween => k_is)
    (case kisqbetween => k_is)
    (case aisqtuple => k_is)
    (case lisqtuple => k_is)
    (case cisqtuple => k_is)
    (case kisqtuple => k_is)
    (case aareqintegers => k_is)
    (case lareqintegers => k_is)
    (case careqintegers => k_is)
    (case kareqintegers => k_is)
    (case aareqbetween => k_is)
    (case lareqbetween => k_is)
    (case careqbetween => k_is)
    (case kareqbetween => k_is)
    (case aareqroads => k_is)
    (case lareqroads => k_is)
    (case careqroads => k_is)
    (case kareqroads => k_is)
    (case aisqbeginqandqend => k_is)
    (case lisqbeginqandqend => k_is)
    (case cisqbeginqandqend => k_is)
    (case kisqbeginqandqend => k_is)
    (case aisqroad => k_is)
    (case lisqroad => k_is)
    (case cisqroad => k_is)
    (case kisqroad => k_is)
    (case aisqway => k_is)
    (case lisqway => k_is)
    (case cisqway => k_is)
    (case kisqway => k_is)
    (case aisqplain => k_is)
    (case lisqplain => k_is)
    (case cisqplain => k_is)
    (case kisqplain => k_is)
    (case aareqsizedqletters => k_is)
    (case lareqsizedqletters => k_is)
    (case careqsizedqletters => k_is)
    (case kareqsizedqletters => k_is)
    (case aisqsizedqletter => k_is)
    (case lisqsizedqletter => k_is)
    (case cisqsizedqletter => k_is)
    (case kisqsizedqletter => k_is)
    (case aisqsize => k_is)
    (case lisqsize => k_is)
    (case cisqsize => k_is)
    (case kisqsize => k_is)
    (case aareqsizedqhours => k_is)
    (case lareqsizedqhours => k_is)
    (case careqsizedqhours => k_is)
    (case kareqsizedqhours => k_is)
    (case asomeqsizedqearly => k_is)
    (case lsomeqsizedqearly => k_is)
    (case csomeqsizedqearly => k_is)
    (case ksomeqsizedqearly => k_is)
    (case asomeqsizedqfull => k_is)
    (case lsomeqsizedqfull => k_is)
    (case csomeqsizedqfull => k_is)
    (case ksomeqsizedqfull => k_is)
    (case aqlawqhand => k_is)
    (case lqlawqhand => k_is)
    (case cqlawqhand => k_is)
    (case kqlawqhand => k_is)
    (case aqlawqdraw => k_is)
    (case lqlawqdraw => k_is)
    (case cqlawqdraw => k_is)
    (case kqlawqdraw => k_is)
    (case aqlawqroads => k_is)
    (case lqlawqroads => k_is)
    (case cqlawqroads => k_is)
    (case kqlawqroads => k_is)
    (case aqlawqcounts => k_is)
    (case lqlawqcounts => k_is)
    (case cqlawqcounts => k_is)
    (case kqlawqcounts => k_is)
    (case aqlawqnext => k_is)
    (case lqlawqnext => k_is)
    (case cqlawqnext => k_is)
    (case kqlawqnext => k_is)
    (case aqlawqway => k_is)
    (case lqlawqway => k_is)
    (case cqlawqway => k_is)
    (case kqlawqway => k_is)
    (case aqlawqsizedqletters => k_is)
    (case lqlawqsizedqletters => k_is)
    (case cqlawqsizedqletters => k_is)
    (case kqlawqsizedqletters => k_is)
    (case aqlawqled => k_is)
    (case lqlawqled => k_is)
    (case cqlawqled => k_is)
    (case kqlawqled => k_is)
    (case aqlawqsizedqhours => k_is)
    (case lqlawqsizedqhours => k_is)
    (case cqlawqsizedqhours => k_is)
    (case kqlawqsizedqhours => k_is)
    (case aqlawqflag => k_is)
    (case lqlawqflag => k_is)
    (case cqlawqflag => k_is)
    (case kqlawqflag => k_is)
    (case aqlawqisqinteger => k_is)
    (case lqlawqisqinteger => k_is)
    (case cqlawqisqinteger => k_is)
    (case kqlawqisqinteger => k_is)
    (case aqlawqisqway => k_is)
    (case lqlawqisqway => k_is)
    (case cqlawqisqway => k_is)
    (case kqlawqisqway => k_is)
    (case aqlawqput => k_is)
    (case lqlawqput => k_is)
    (case cqlawqput => k_is)
    (case kqlawqput => k_is)
    (case aqlawqareqletters => k_is)
    (case lqlawqareqletters => k_is)
    (case cqlawqareqletters => k_is)
    (case kqlawqareqletters => k_is)
    (case aqlawqareqhours => k_is)
    (case lqlawqareqhours => k_is)
    (case cqlawqareqhours => k_is)
    (case kqlawqareqhours => k_is)
    (case aqlawqfault => k_is)
    (case lqlawqfault => k_is)
    (case cqlawqfault => k_is)
    (case kqlawqfault => k_is)
    (case aqlawqodd => k_is)
    (case lqlawqodd => k_is)
    (case cqlawqodd => k_is)
    (case kqlawqodd => k_is)
    (case aqlawqspoiledqletters => k_is)
    (case lqlawqspoiledqletters => k_is)
    (case cqlawqspoiledqletters => k_is)
    (case kqlawqspoiledqletters => k_is)
    (case aqlawqspoiledqhours => k_is)
    (case lqlawqspoiledqhours => k_is)
    (case cqlawqspoiledqhours => k_is)
    (case kqlawqspoiledqhours => k_is)
    (case aqlawqtold => k_is)
    (case lqlawqtold => k_is)
    (case cqlawqtold => k_is)
    (case kqlawqtold => k_is)
    (case alaw => k_is)
    (case llaw => k_is)
    (case claw => k_is)
    (case klaw => k_is)
    (case aMOSTqHOUSES => k_is)
    (case aMOSTqROADS => k_is)
    (case aMOSTqROOMS => k_is)
    (case aLONGESTqTIME => k_is)
    (case aLONGESTqWAY => k_is)
    (case aMOSTqLETTERS => k_is)
    (case aLASTqTICK => k_is)
    (case aSIZES => k_is)
    (case lSIZES => k_is)
    (case aWWeb => k_is)
    (case iWWeb => k_is)
    (case yWWeb => k_is)
    (case lWWeb => k_is)
    (case cWWeb => k_is)
    (case kWWeb => k_is)
    (case pgWWeb => k_is)
    (case hdWWeb => k_is)
    (case poWWeb => k_is)
    (case saWWeb => k_is)
    (case mkWWeb => k_is)
    (case kcWWeb => k_is)
    (case naWWebhouses => k_is)
    (case naWWebroads => k_is)
    (case naWWebrooms => k_is)
    (case naWWebtimes => k_is)
    (case aWSizedDay => k_is)
    (case iWSizedDay => k_is)
    (case yWSizedDay => k_is)
    (case lWSizedDay => k_is)
    (case cWSizedDay => k_is)
    (case kWSizedDay => k_is)
    (case pgWSizedDay => k_is)
    (case hdWSizedDay => k_is)
    (case poWSizedDay => k_is)
    (case saWSizedDay => k_is)
    (case mkWSizedDay => k_is)
    (case kcWSizedDay => k_is)
    (case naWSizedDayweb => k_is)
    (case naWSizedDayletters => k_is)
    (case naWSizedDayhours => k_is)
    (case aXBadWeb => k_is)
    (case xXBadWeb => k_is)
    (case bmXBadWebo => decide +kernel)
    (case saXBadWeb => k_is)
    (case gaXBadWeb => k_is)
    (case ggXBadWeb => k_is)
    (case iXBadWeb => k_is)
    (case yXBadWeb => k_is)
    (case lXBadWeb => k_is)
    (case cXBadWeb => k_is)
    (case kXBadWeb => k_is)
    (case kcXBadWeb => k_is)
    (case exXBadWeb => k_is)
    (case tyXBadWeb => k_is)
    (case hdXBadWeb => k_is)
    (case icXBadWeb => k_is)
    (case suXBadWeb => first | rfl | k_is)
    (case naXBadWebpart => k_is)
    (case aXBadDay => k_is)
    (case xXBadDay => k_is)
    (case bmXBadDayo => decide +kernel)
    (case saXBadDay => k_is)
    (case gaXBadDay => k_is)
    (case ggXBadDay => k_is)
    (case iXBadDay => k_is)
    (case yXBadDay => k_is)
    (case lXBadDay => k_is)
    (case cXBadDay => k_is)
    (case kXBadDay => k_is)
    (case kcXBadDay => k_is)
    (case exXBadDay => k_is)
    (case tyXBadDay => k_is)
    (case hdXBadDay => k_is)
    (case icXBadDay => k_is)
    (case suXBadDay => first | rfl | k_is)
    (case naXBadDaypart => k_is)
    (case iQWeb => k_is)
    (case yQWeb => k_is)
    (case lQWeb => k_is)
    (case cQWeb => k_is)
    (case kQWeb => k_is)
    (case kiQWeb => first | k_is | rfl | decide +kernel)
    (case haQWeb => k_is)
    (case hmQWeb => first | k_is | rfl | decide +kernel)
    (case neQWeb => k_is)
    (case sbQWeb => first | k_is | rfl | decide +kernel)
    (case nfQWebNoneType => first | k_is | rfl | decide +kernel)
    (case kfQWebNoneType => first | k_is | rfl | decide +kernel)
    (case nfQWebint => first | k_is | rfl | decide +kernel)
    (case kfQWebint => first | k_is | rfl | decide +kernel)
    (case nfQWebbool => first | k_is | rfl | decide +kernel)
    (case kfQWebbool => first | k_is | rfl | decide +kernel)
    (case nfQWebstr => first | k_is | rfl | decide +kernel)
    (case kfQWebstr => first | k_is | rfl | decide +kernel)
    (case nfQWebtuple => first | k_is | rfl | decide +kernel)
    (case kfQWebtuple => first | k_is | rfl | decide +kernel)
    (case nfQWeblist => first | k_is | rfl | decide +kernel)
    (case kfQWeblist => first | k_is | rfl | decide +kernel)
    (case nfQWebdict => first | k_is | rfl | decide +kernel)
    (case kfQWebdict => first | k_is | rfl | decide +kernel)
    (case hnO => k_is)
    (case htO => k_is)
    (case iQSizedDay => k_is)
    (case yQSizedDay => k_is)
    (case lQSizedDay => k_is)
    (case cQSizedDay => k_is)
    (case kQSizedDay => k_is)
    (case kiQSizedDay => first | k_is | rfl | decide +kernel)
    (case haQSizedDay => k_is)
    (case hmQSizedDay => first | k_is | rfl | decide +kernel)
    (case neQSizedDay => k_is)
    (case sbQSizedDay => first | k_is | rfl | decide +kernel)
    (case nfQSizedDayNoneType => first | k_is | rfl | decide +kernel)
    (case kfQSizedDayNoneType => first | k_is | rfl | decide +kernel)
    (case nfQSizedDayint => first | k_is | rfl | decide +kernel)
    (case kfQSizedDayint => first | k_is | rfl | decide +kernel)
    (case nfQSizedDaybool => first | k_is | rfl | decide +kernel)
    (case kfQSizedDaybool => first | k_is | rfl | decide +kernel)
    (case nfQSizedDaystr => first | k_is | rfl | decide +kernel)
    (case kfQSizedDaystr => first | k_is | rfl | decide +kernel)
    (case nfQSizedDaytuple => first | k_is | rfl | decide +kernel)
    (case kfQSizedDaytuple => first | k_is | rfl | decide +kernel)
    (case nfQSizedDaylist => first | k_is | rfl | decide +kernel)
    (case kfQSizedDaylist => first | k_is | rfl | decide +kernel)
    (case nfQSizedDaydict => first | k_is | rfl | decide +kernel)
    (case kfQSizedDaydict => first | k_is | rfl | decide +kernel)
    (case anqisinstance => k_is)
    (case anqint => k_is)
    (case anqbool => k_is)
    (case anqtuple => k_is)
    (case anqlist => k_is)
    (case anqlen => k_is)
    (case anqall => k_is)
    (case anqany => k_is)
    (case anqabs => k_is)
    (case anqrange => k_is)
    (case anqzip => k_is)
    (case anqsorted => k_is)
    (case anqset => k_is)
    (case anqmax => k_is)

