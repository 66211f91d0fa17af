import PyProof.Rows.All
import Wide.All
import OpenK.AllK
import Wide.FinOn
import HandS.ForMost
import HandS.IsInst
import HandS.TupMul
import HandS.TupAny
import HandS.Exc
import HandS.ExcOwn
import HandS.ExcInit
import HandS.ExcField
import HandS.TryOnly
import HandS.WordsExc
import HandS.EndBits
import HandS.CallSlots
import PyProof.Rows.IntBool
import HandS.Iter
import HandS.Zip
import PyProof.EnumMake
import PyProof.EnumIter
import PyProof.EnumFor
import PyProof.Draws
import KE.GoesMore
import HandS.TryMany
import HandS.ExcIs
import HandS.SetFor
import HandS.Strs
import HandS.Style
import HandS.Conv
import KE.DataCmp
import HandS.WideBits
import HandS.SortRule
import PyProof.Rows.SortKeyStr
import PyProof.EqKinds
import HandS.SlotsOwn
import HandS.Codes
import PySem.Challenge.RW_hourcards_k77_whole_least_plan
set_option Elab.async false
set_option linter.all false
set_option maxRecDepth 100000
set_option maxHeartbeats 4000000
namespace Hc
open PySem L2
/-- things, as far as they are looked into -/
inductive D where
  | non | bl (b : Bool) | int (i : Int) | str (s : Str) | tup (xs : List D) | lst | dct
def tyOf : D → String
  | .non => "NoneType" | .bl _ => "bool" | .int _ => "int" | .str _ => "str" | .tup _ => "tuple" | .lst => "list" | .dct => "dict"
section
variable (H : Hp) (h : Addr)
mutual
/-- v is the thing d, in the heap H, apart from the list at h -/
inductive Rp : V → D → Prop
  | non : Rp .non .non
  | bl (b : Bool) : Rp (.bl b) (.bl b)
  | int (i : Int) : Rp (.int i) (.int i)
  | str (x : Str) : Rp (.str x) (.str x)
  | tup {a : Addr} {xs : List V} {ds : List D} : H a = some (.tup xs) → xs.length ≤ 100000 → RpA xs ds → Rp (.ref a) (.tup ds)
  | lst {a : Addr} {xs : List V} : H a = some (.lst xs) → a ≠ h → Rp (.ref a) .lst
  | dct {a : Addr} {kvs : List (Key × V)} : H a = some (.dK kvs) → Rp (.ref a) .dct
inductive RpA : List V → List D → Prop
  | nil : RpA [] []
  | cons {v : V} {vs : List V} {d : D} {ds : List D} : Rp v d → RpA vs ds → RpA (v :: vs) (d :: ds)
end
end
/-- all but what stands at h is as it was -/
def But (h : Addr) (H H' : Hp) : Prop := ∀ b o, H b = some o → b ≠ h → H' b = some o
theorem But.refl (h : Addr) (H : Hp) : But h H H := fun _ _ e _ => e
theorem But.trans {h : Addr} {H H1 H2 : Hp} (a : But h H H1) (b : But h H1 H2) : But h H H2 := fun c o e n => b c o (a c o e n) n
theorem But.of {h : Addr} {H H' : Hp} (s : Same H H') : But h H H' := fun b o e _ => s b o e
theorem But.free {h : Addr} {H H' : Hp} (k : But h H H') {l : Addr} (hl : l ≠ h) (e : H' l = none) : H l = none := by
  cases q : H l with
  | none => rfl
  | some o => rw [k l o q hl] at e; cases e
theorem same_upd {H : Hp} {p : Addr} {o : HO} (hp : H p = none) : Same H (upd H p o) := fun b u e => by
  rw [upd_ne (ne_of_none e hp)]; exact e
theorem but_upd {H : Hp} {h : Addr} {o : HO} : But h H (upd H h o) := fun b u e n => by
  rw [upd_ne n]; exact e
def IsLst (H : Hp) (h : Addr) : Prop := ∃ xs, H h = some (.lst xs)
section
variable {H H' : Hp} {h : Addr}
mutual
theorem Rp.mono (l : IsLst H h) (k : But h H H') : ∀ {v : V} {d : D}, Rp H h v d → Rp H' h v d
  | _, _, .non => .non
  | _, _, .bl b => .bl b
  | _, _, .int i => .int i
  | _, _, .str x => .str x
  | _, _, .tup e z r => .tup (k _ _ e (by obtain ⟨zs, q⟩ := l; exact ne_of e q (by intro z; cases z))) z (RpA.mono l k r)
  | _, _, .lst e n => .lst (k _ _ e n) n
  | _, _, .dct e => .dct (k _ _ e (by obtain ⟨zs, q⟩ := l; exact ne_of e q (by intro z; cases z)))
theorem RpA.mono (l : IsLst H h) (k : But h H H') : ∀ {vs : List V} {ds : List D}, RpA H h vs ds → RpA H' h vs ds
  | _, _, .nil => .nil
  | _, _, .cons a r => .cons (Rp.mono l k a) (RpA.mono l k r)
end
mutual
theorem Rp.same (k : Same H H') : ∀ {v : V} {d : D}, Rp H h v d → Rp H' h v d
  | _, _, .non => .non
  | _, _, .bl b => .bl b
  | _, _, .int i => .int i
  | _, _, .str x => .str x
  | _, _, .tup e z r => .tup (k _ _ e) z (RpA.same k r)
  | _, _, .lst e n => .lst (k _ _ e) n
  | _, _, .dct e => .dct (k _ _ e)
theorem RpA.same (k : Same H H') : ∀ {vs : List V} {ds : List D}, RpA H h vs ds → RpA H' h vs ds
  | _, _, .nil => .nil
  | _, _, .cons a r => .cons (Rp.same k a) (RpA.same k r)
end
theorem RpA.len : ∀ {vs : List V} {ds : List D}, RpA H h vs ds → vs.length = ds.length
  | _, _, .nil => rfl
  | _, _, .cons a r => by rw [List.length_cons, List.length_cons, RpA.len r]
theorem RpA.get : ∀ {vs : List V} {ds : List D} {i : Nat} {v : V}, RpA H h vs ds → vs[i]? = some v → ∃ d, ds[i]? = some d ∧ Rp H h v d
  | _, _, i, _, .nil, e => by simp at e
  | _, _, 0, _, .cons a r, e => by simp at e; subst e; exact ⟨_, rfl, a⟩
  | _, _, i + 1, v, .cons a r, e => by
    obtain ⟨d, h1, h2⟩ := RpA.get (i := i) (v := v) r (by simpa using e)
    exact ⟨d, by simpa using h1, h2⟩
theorem RpA.app : ∀ {vs ws : List V} {ds es : List D}, RpA H h vs ds → RpA H h ws es → RpA H h (vs ++ ws) (ds ++ es)
  | _, _, _, _, .nil, s => s
  | _, _, _, _, .cons a r, s => .cons a (RpA.app r s)
theorem RpA.take : ∀ {vs : List V} {ds : List D} (n : Nat), RpA H h vs ds → RpA H h (vs.take n) (ds.take n)
  | _, _, 0, _ => .nil
  | _, _, _ + 1, .nil => .nil
  | _, _, n + 1, .cons a r => .cons a (RpA.take n r)
theorem RpA.drop : ∀ {vs : List V} {ds : List D} (n : Nat), RpA H h vs ds → RpA H h (vs.drop n) (ds.drop n)
  | _, _, 0, r => r
  | _, _, _ + 1, .nil => .nil
  | _, _, n + 1, .cons _ r => RpA.drop n r
/-- its type -/
theorem Rp.ty {K : PySem.W.Frag} {v : V} {d : D} (r : Rp H h v d) : TyX K H v (.type (tyOf d)) := by
  cases r with
  | non => exact .base .non
  | bl b => exact .base (.bl b)
  | int i => exact .base (.int i)
  | str x => exact .base (.str x)
  | tup e _ _ => exact .base (.tup e)
  | lst e _ => exact .base (.lst e)
  | dct e => exact .base (.dK e)
end
def isIB : D → Bool | .int _ => true | .bl _ => true | _ => false
def isB : D → Bool | .bl _ => true | _ => false
def isT : D → Bool | .tup _ => true | _ => false
theorem kitI (d : D) : kitB (tyOf d) "int" = some (isIB d) := by cases d <;> (simp only [tyOf, isIB]; decide +kernel)
theorem kitBo (d : D) : kitB (tyOf d) "bool" = some (isB d) := by cases d <;> (simp only [tyOf, isB]; decide +kernel)
theorem kitT (d : D) : kitB (tyOf d) "tuple" = some (isT d) := by cases d <;> (simp only [tyOf, isT]; decide +kernel)
def isInt : D → Bool | .int _ => true | _ => false
def isBtw (lo hi : Int) : D → Bool | .int i => decide (lo ≤ i) && decide (i ≤ hi) | _ => false
def areInts (n : Int) : D → Bool | .tup ds => decide ((ds.length : Int) = n) && ds.all isInt | _ => false
def areBtw (n lo hi : Int) : D → Bool | .tup ds => decide ((ds.length : Int) = n) && ds.all (isBtw lo hi) | _ => false
def neq2 : D → Bool | .tup (.int a :: .int b :: _) => !decide (a = b) | _ => false
def isBE (n : Int) (d : D) : Bool := areBtw 2 0 (n - 1) d && neq2 d
def areRoads (n : Int) : D → Bool | .tup ds => decide (1 ≤ ds.length) && decide (ds.length ≤ 24) && ds.all (isBE n) | _ => false
end Hc

set_option Elab.async false
set_option linter.all false
set_option maxRecDepth 100000
set_option maxHeartbeats 4000000
namespace L2
open PySem PySem.Spec PyProof.Rows
/-- x - j, x an int or a bool -/
def rSubA : R2 := fun x y H Q => (∃ i j, x = .int i ∧ y = .int j ∧ Q (.int (i - j)) H) ∨ ∃ b j, x = .bl b ∧ y = .int j ∧ Q (.int ((if b = true then (1 : Int) else 0) - j)) H
theorem op_subA {X : Cx} : OpR X (binaryOp .Sub) rSubA := by
  intro pins s σ H x y v u Q I rx ry h
  rcases h with ⟨i, j, rfl, rfl, q⟩ | ⟨b, j, rfl, rfl, q⟩
  · exact op_sub pins s σ H _ _ v u Q I rx ry ⟨i, j, rfl, rfl, q⟩
  · cases rx
    obtain ⟨t, rfl⟩ := ry
    exact PySem.IntBool.sub_bool_int ⟨.int _, H, I.tok _, ⟨_, rfl⟩, q⟩
/-- t * 1 is t -/
theorem tuple_mul1 (l : Addr) (items : Array Value) (n : Nat) (dd : Option Addr) (sl : Array (Option Value)) (u : Tok) :
    Meets (Builtin.«tuple.__mul__» ⟨[.ref l, .int 1 u], []⟩) (fun _ R s => s.heap.get? l = some { cls := .type "tuple", dict := dd, data := .seq items n, slots := sl } ∧
      R (.ok (.ret (Value.ref l))) s) :=
  .of_wp fun prog w A R s h => by
    obtain ⟨hp, g, d, tk, os⟩ := s
    obtain ⟨hl, h⟩ := h
    have f1 := AutoSeq1.idx_int
    have c0 : (decide ((1 : Int) < -(2 ^ 63)) || decide ((1 : Int) ≥ 2 ^ 63)) = false := by decide
    have c1 : (items.isEmpty || ((1 : Int) == 1)) = true := by rw [Bool.or_eq_true]; exact .inr rfl
    wp_walk using wpAny_loadPart' hl
    repeat (first
      | (refine wpAny_ite_false (decide_eq_false (by rw [c0]; exact Bool.false_ne_true)) ?_; wp_walk using wpAny_loadPart' hl)
      | (refine wpAny_ite_true (decide_eq_true c1) ?_; wp_walk using wpAny_loadPart' hl))
    exact ⟨_, rfl, h⟩
def rRepA (K : PySem.W.Frag) : R2 := fun x y H Q => ∃ l k xs, x = .ref l ∧ y = .int k ∧ SqT K H l xs ∧ xs ≠ [] ∧ 1 ≤ k ∧ k ≤ 1000 ∧ xs.length ≤ 1000 ∧
  (k = 1 → Q (.ref l) H) ∧ (2 ≤ k → ∀ p, H p = none → Q (.ref p) (upd H p (.tup (List.replicate k.toNat xs).flatten)))
theorem op_repA {X : Cx} : OpR X (binaryOp .Mult) (rRepA X.K) := by
  intro pins s σ H x y v u Q I rx ry h
  obtain ⟨l, k, xs, rfl, rfl, hT, hne, h1, h2, hz, q1, q2⟩ := h
  by_cases h3 : 2 ≤ k
  · exact op_repT pins s σ H _ _ v u Q I rx ry ⟨l, k, xs, rfl, rfl, hT, hne, h3, h2, hz, q2 h3⟩
  · obtain rfl : k = 1 := by omega
    cases rx
    obtain ⟨t, rfl⟩ := ry
    obtain ⟨its, r, ⟨⟨cls, dd, data, sl⟩, ho, hc, n, hd⟩, hs⟩ := I.tuple hT
    simp only at hc hd
    subst hc hd
    exact wpAny_binaryOp_repeat_ref (T := "tuple") (U := "int") (by decide) ⟨_, ho, rfl⟩ (fun s' => typeIs_int s' 1 t) noFill_tuple_mul F.fills_int_mul F.slot_int_rmul repeat_tuple F.slot_int_index.lookup
      (call_meets F.slot_int_rmul (typeIs_int s 1 t) F.entry_int_rmul (F.args_int_rmul_2 _ _) (int_rmul_tuple 1 t l its.toArray n dd sl)
        ⟨ho, rfl, ⟨_, ho, rfl⟩, call_meets F.slot_tuple_mul ⟨_, ho, rfl⟩ F.entry_tuple_mul (F.args_tuple_mul_2 _ _) (tuple_mul1 l its.toArray n dd sl t) ⟨ho, ⟨.ref l, H, I, rfl, q1 rfl⟩⟩⟩)
/-- C(e, ..) where what is raised is wished for at the caller's slots -/
def tMakeS (C : Addr) (sp : Sp) (dvs : List V) (E : St → XK) (t : TA) : TE := fun σ H Q => t σ H fun vs H1 => ∀ x dx, H1 x = none → H1 dx = none → dx ≠ x →
  sp (.ref x :: (vs ++ dvs)) (upd (upd H1 dx (.own x)) x (.ins C dx [])) (fun v H2 => v = .non ∧ Q (.ref x) H2) (E σ)
section
variable {X : Cx} {CX : CXT} {k : Nat} {f C : Addr} {fd : FuncData} {ps : List Str} {sp : Sp} {dvs : List V} {ds : List Value} {E : St → XK} {x m : Str} {p pos apos : Pos} {e o : Expr} {es : List Expr} {ta : TE} {t : TA}
theorem pe_makeS (M : Mk X.K C f) (F : FnOk X.prog X.w X.K X.mg X.base CX k f fd ps sp) (hr : Room (k + 1) X.A) (hg : Gl X x) (hm : X.mg x = some (.ref C)) (hb : Binds X.K fd ps ds) (hd : Vals dvs ds) (hx : ∀ σ, PassesAt CX X σ (E σ))
    (ha : PA X (e :: es) t) (hdb : (x == ("__debug__" : Str)) = false := by decide) (he : starEach (e :: es) X.env = (false, eval e X.env) :: starEach es X.env := by rfl) (hpl : (backTo pos (starEach es X.env)).any (·.1) = false := by rfl) :
    PE X (.Call (.Name x p) (e :: es) [] pos) (tMakeS C sp dvs E t) := by
  refine ⟨fun pins s0 σ H0 Q I0 h0 => ?_⟩
  refine wpAny_Call_Name_kw (ld_glob I0 hg hm ?_ hdb)
  refine PySem.W.callWith_K (h₀ := X.base) I0.ok.mod.kin M.kp (thn (ha.run pos pins s0 σ H0 _ I0 h0) fun us s ⟨vs, H, I, r, h⟩ => ⟨I.kIn, ?_⟩) he hpl
  have hq := h (s.heap.objs.size + 1) s.heap.objs.size (I.hok.fresh (Nat.le_succ _)) (I.hok.fresh (Nat.le_refl _)) (Nat.ne_of_lt (Nat.lt_succ_self _))
  have I2 := Inv.made (C := C) I
  have r2 : Vals (V.ref (s.heap.objs.size + 1) :: (vs ++ dvs)) (Value.ref (s.heap.objs.size + 1) :: (us ++ ds)) := .cons rfl (r.append hd)
  have hl : (Value.ref (s.heap.objs.size + 1) :: us ++ ds).length = ps.length := by
    have e := r2.length
    rw [F.len _ _ _ _ hq] at e
    exact e.symm
  refine wpAny_call (make_map (f := f) I.kIn M.makes M.init (beq_iff_eq.mp M.fn) (codeAny_mono (F.run _ X.stack _ _ ⟨Value.ref (s.heap.objs.size + 1) :: us, []⟩ (Value.ref (s.heap.objs.size + 1) :: (us ++ ds)) _ _ (E σ) (hr.make C us [])
    (I2.env0.make C us []) (hb _ (Value.ref (s.heap.objs.size + 1) :: us) I2.kIn hl) r2 hq) fun r s' hq' => ?_))
  cases r with
  | error e => exact hx σ pins _ _ e s' I2 hq'
  | ok fl =>
    cases fl with
    | ret u =>
      obtain ⟨v, H', I3, rv, ev, q3⟩ := I2.after hq'
      subst ev
      exact ⟨rv, ⟨V.ref (s.heap.objs.size + 1), H', I3, rfl, q3⟩⟩
    | next => exact False.elim hq'
    | brk => exact False.elim hq'
    | cont => exact False.elim hq'
end
end L2
/-! ### Hc -/
namespace Hc
open PySem L2
theorem line_lt {n : Nat} (h : n ≤ 100000) : n < sizeLine := by rw [sizeLine_eq]; omega
theorem line_le {n : Nat} (h : n ≤ 100000) : n ≤ sizeLine := by rw [sizeLine_eq]; omega
theorem take_more {α : Type} : ∀ {l : List α} {i : Nat} {x : α}, l[i]? = some x → l.take (i + 1) = l.take i ++ [x]
  | [], i, x, h => by simp at h
  | a :: l, 0, x, h => by
    have e : a = x := Option.some.inj h
    subst e
    rfl
  | a :: l, i + 1, x, h => by
    have ih := take_more (l := l) (i := i) (x := x) h
    show a :: l.take (i + 1) = a :: l.take i ++ [x]
    rw [ih]
    rfl
/-- [p(x) for x in t]: the list of the answers -/
theorem all_tup {K : PySem.W.Frag} {H : Hp} {h a A : Addr} {xs : List V} {ds : List D} {j : Nat} {te : TE} {σ : St} {vs : List Nat} {Qd : Hp → Prop}
    (e : H a = some (.tup xs)) (z : xs.length ≤ 100000) (ra : RpA H h xs ds) (p : D → Bool) (hA : H A = none)
    (hw : ∀ x, wipe ((wipe σ vs).set j (some x)) vs = wipe σ vs)
    (hs : ∀ x d H' (Q : VK), d ∈ ds → Same H H' → Rp H' h x d → (∀ H4, Same H' H4 → Q (.bl (p d)) H4) → te ((wipe σ vs).set j (some x)) H' Q)
    (hd : ∀ H', Same H H' → SqL K H' A ((ds.map p).map V.bl) → Qd H') :
    ∃ W : Nat → Nat → Hp → Prop, (∃ m, W 0 m (upd H A (.lst []))) ∧ ∀ i m H, W i m H →
      ((Itt K a).stop i H ∧ Qd H) ∨ ((Itt K a).go i H ∧ ∃ Nx : Hp → Prop, (∀ H', Nx H' → ∃ m', m' < m ∧ W (i + 1) m' H') ∧ ∀ x H', (Itt K a).yld i H x H' → (gName j) x (wipe σ vs) H' fun σ2 H2 => wipe σ2 vs = wipe σ vs ∧ tYes σ2 H2 fun b H3 =>
        if b = true then te σ2 H3 fun y H4 => ∃ acc, H4 A = some (.lst acc) ∧ acc.length < sizeLine ∧ Nx (upd H4 A (.lst (acc ++ [y]))) else Nx H3) := by
  have hl := ra.len
  refine lc_tup (K := K) (xs := xs) (fun i H' => Same H (fun b => if b = A then none else H' b) ∧ H' A = some (.lst (((ds.take i).map p).map V.bl)))
    ⟨fun b o q => ?_, upd_same⟩ (fun i H' hi ⟨s, _⟩ => ?_) ?_ ?_
  · have n := ne_of_none q hA
    show (if b = A then none else upd H A _ b) = _
    rw [if_neg n, upd_ne n]; exact q
  · have q := s _ _ e
    have n := ne_of_none e hA
    simp only [if_neg n] at q
    exact SqT.of q
  · intro i x H' hx ⟨s, hH⟩
    have sm : Same H H' := fun b o q => by
      have r := s b o q
      simp only [if_neg (ne_of_none q hA)] at r
      exact r
    obtain ⟨d, hd1, rp⟩ := ra.get hx
    have hi : i < xs.length := (List.getElem?_eq_some_iff.mp hx).1
    refine ⟨hw x, ?_⟩
    unfold tYes
    show (if true = true then te _ _ _ else _)
    rw [if_pos rfl]
    refine hs x d H' _ (List.mem_of_getElem? hd1) sm (rp.same sm) fun H4 s4 => ⟨_, s4 _ _ hH, ?_, ?_, ?_⟩
    · rw [List.length_map, List.length_map, List.length_take]
      exact line_lt (by omega)
    · intro b o q
      have n := ne_of_none q hA
      show (if b = A then none else upd H4 A _ b) = _
      rw [if_neg n, upd_ne n]
      exact s4 _ _ (sm _ _ q)
    · rw [upd_same, take_more hd1, List.map_append, List.map_append]; rfl
  · intro H' ⟨s, hH⟩
    have sm : Same H H' := fun b o q => by
      have r := s b o q
      simp only [if_neg (ne_of_none q hA)] at r
      exact r
    rw [hl, List.take_length] at hH
    exact hd H' sm (SqL.of hH)
/-- [x for x in t if not p(x)]: as many as are none -/
theorem none_tup {K : PySem.W.Frag} {H : Hp} {h a A : Addr} {xs : List V} {ds : List D} {j : Nat} {te : TE} {tt : TT} {σ : St} {vs : List Nat} {Qd : Hp → Prop}
    (e : H a = some (.tup xs)) (z : xs.length ≤ 100000) (ra : RpA H h xs ds) (p : D → Bool) (hA : H A = none)
    (hw : ∀ x, wipe ((wipe σ vs).set j (some x)) vs = wipe σ vs)
    (hs : ∀ x d H' (Q : Bool → Hp → Prop), d ∈ ds → Same H H' → Rp H' h x d → (∀ H4, Same H' H4 → Q (!p d) H4) → tt ((wipe σ vs).set j (some x)) H' Q)
    (ht : ∀ x H' (Q : VK), Same H H' → (∀ y, Q y H') → te ((wipe σ vs).set j (some x)) H' Q)
    (hd : ∀ H' acc, Same H H' → SqL K H' A acc → acc.length ≤ 100000 → (acc.length = 0 ↔ ds.all p = true) → Qd H') :
    ∃ W : Nat → Nat → Hp → Prop, (∃ m, W 0 m (upd H A (.lst []))) ∧ ∀ i m H, W i m H →
      ((Itt K a).stop i H ∧ Qd H) ∨ ((Itt K a).go i H ∧ ∃ Nx : Hp → Prop, (∀ H', Nx H' → ∃ m', m' < m ∧ W (i + 1) m' H') ∧ ∀ x H', (Itt K a).yld i H x H' → (gName j) x (wipe σ vs) H' fun σ2 H2 => wipe σ2 vs = wipe σ vs ∧ tt σ2 H2 fun b H3 =>
        if b = true then te σ2 H3 fun y H4 => ∃ acc, H4 A = some (.lst acc) ∧ acc.length < sizeLine ∧ Nx (upd H4 A (.lst (acc ++ [y]))) else Nx H3) := by
  have hl := ra.len
  refine lc_tup (K := K) (xs := xs) (fun i H' => Same H (fun b => if b = A then none else H' b) ∧ ∃ acc, H' A = some (.lst acc) ∧ acc.length ≤ i ∧ (acc.length = 0 ↔ (ds.take i).all p = true))
    ⟨fun b o q => ?_, [], upd_same, Nat.le_refl _, by simp⟩ (fun i H' hi ⟨s, _⟩ => ?_) ?_ ?_
  · have n := ne_of_none q hA
    show (if b = A then none else upd H A _ b) = _
    rw [if_neg n, upd_ne n]; exact q
  · have q := s _ _ e
    have n := ne_of_none e hA
    simp only [if_neg n] at q
    exact SqT.of q
  · intro i x H' hx ⟨s, acc, hH, h1, h2⟩
    have sm : Same H H' := fun b o q => by
      have r := s b o q
      simp only [if_neg (ne_of_none q hA)] at r
      exact r
    obtain ⟨d, hd1, rp⟩ := ra.get hx
    have hi : i < xs.length := (List.getElem?_eq_some_iff.mp hx).1
    refine ⟨hw x, hs x d H' _ (List.mem_of_getElem? hd1) sm (rp.same sm) fun H4 s4 => ?_⟩
    cases hp : p d with
    | false =>
      rw [if_pos (by decide)]
      refine ht x H4 _ (fun b o q => s4 _ _ (sm _ _ q)) fun y => ⟨_, s4 _ _ hH, line_lt (by omega), fun b o q => ?_, _, upd_same, ?_, ?_⟩
      · have n := ne_of_none q hA
        show (if b = A then none else upd H4 A _ b) = _
        rw [if_neg n, upd_ne n]
        exact s4 _ _ (sm _ _ q)
      · rw [List.length_append, List.length_singleton]; omega
      · rw [List.length_append, List.length_singleton, take_more hd1, List.all_append]
        simp [hp]
    | true =>
      rw [if_neg (by decide)]
      refine ⟨fun b o q => ?_, acc, s4 _ _ hH, by omega, ?_⟩
      · have n := ne_of_none q hA
        show (if b = A then none else H4 b) = _
        rw [if_neg n]
        exact s4 _ _ (sm _ _ q)
      · rw [take_more hd1, List.all_append, h2]
        simp [hp]
  · intro H' ⟨s, acc, hH, h1, h2⟩
    have sm : Same H H' := fun b o q => by
      have r := s b o q
      simp only [if_neg (ne_of_none q hA)] at r
      exact r
    rw [hl, List.take_length] at h2
    exact hd H' acc sm (SqL.of hH) (by omega) h2
end Hc

set_option Elab.async false
set_option linter.all false
set_option maxRecDepth 100000
set_option maxHeartbeats 4000000
set_option autoImplicit false
namespace PySem
open Sem (wp)
open AutoSeq1 (wpAny_loadPart')
theorem meets_enumerate_newT (l : Addr) (items : Array Value) (n : Nat) (dct : Option Addr) (sl : Array (Option Value)) :
    Meets (Builtin.«enumerate.__new__» ⟨[.type "enumerate", .ref l], []⟩) (fun _ R s => s.heap.get? l = some { cls := .type "tuple", dict := dct, data := .seq items n, slots := sl } ∧
      R (.ok (.ret (.ref (s.heap.push { cls := .type "tuple_iterator", data := .fields #[.ref l, .int 0 0] }).objs.size)))
        { s with heap := (s.heap.push { cls := .type "tuple_iterator", data := .fields #[.ref l, .int 0 0] }).push { cls := .type "enumerate", data := .fields #[.none, .bool false, .ref s.heap.objs.size, rawInt 0, .none, .none] } }) :=
  .of_wp fun prog w A R s h => by
    obtain ⟨hp, g, d, tk, os⟩ := s; obtain ⟨hl, h⟩ := h
    have hsub := sub_enumerate
    have hL : Heap.IsTuple (Shared.heap ⟨hp, g, d, tk, os⟩) l items := ⟨_, hl, rfl, n, rfl⟩
    wp_walk using wpAny_loadPart' hl
    refine wpAny_stack_any fun st => wpAny_pure ?_
    split
    · rename_i c _ _ _ _ _
      cases (c == Value.type "enumerate")
      · wp_walk using wpAny_loadPart' hl, wpAny_pyIter_tuple hL
        exact ⟨_, rfl, h⟩
      · wp_walk using wpAny_loadPart' hl, wpAny_pyIter_tuple hL
        exact ⟨_, rfl, h⟩
    · wp_walk using wpAny_loadPart' hl, wpAny_pyIter_tuple hL
      exact ⟨_, rfl, h⟩
section
variable {prog : Program} {w : World} {A : Around} {E : Value → Shared → Prop} {s : Shared}
theorem call_enumerate_tuple {l : Addr} {items : Array Value} {Q : Value → Shared → Prop} (hL : s.heap.IsTuple l items)
    (h : ∀ h', IsEnum h' (s.heap.objs.size + 1) s.heap.objs.size 0 .none → h'.IsTupleIter s.heap.objs.size l 0 → h'.objs.size = s.heap.objs.size + 2 →
      (∀ b o, s.heap.get? b = some o → h'.get? b = some o) → Q (.ref (s.heap.objs.size + 1)) { s with heap := h' }) :
    wpAny (model prog w) A (call (.type "enumerate") [.ref l]) Q E s := by
  obtain ⟨⟨c, dct, dt, sl⟩, hl, hc, n, hd⟩ := hL
  replace hc : c = .type "tuple" := hc
  replace hd : dt = .seq items n := hd
  subst hc hd
  refine callType_new F.called_enumerate (by decide) (F.typeCall_enumerate_1 _) (F.newCall_enumerate_1 _) (fun obj => F.args_object_init_2 obj _) F.entry_enumerate_new
    (meets_enumerate_newT l items n dct sl) ⟨hl, ?_⟩
  have hz : (s.heap.push { cls := .type "tuple_iterator", data := .fields #[.ref l, .int 0 0] }).objs.size = s.heap.objs.size + 1 := Heap.size_push ..
  show _ ∧ _
  rw [hz]
  have he : IsEnum ((s.heap.push { cls := .type "tuple_iterator", data := .fields #[.ref l, .int 0 0] }).push
      { cls := .type "enumerate", data := .fields #[.none, .bool false, .ref s.heap.objs.size, rawInt 0, .none, .none] }) (s.heap.objs.size + 1) s.heap.objs.size 0 .none := by
    have := Heap.get?_push_size (s.heap.push { cls := .type "tuple_iterator", data := .fields #[.ref l, .int 0 0] })
      (o := { cls := .type "enumerate", data := .fields #[.none, .bool false, .ref s.heap.objs.size, rawInt 0, .none, .none] }) rfl
    rw [hz] at this; exact this
  refine ⟨⟨_, he, rfl⟩, h _ he ⟨_, Heap.get?_push_of_some _ (Heap.get?_push_size _ rfl), rfl, rfl⟩ (by rw [Heap.size_push, hz]) fun b o x => Heap.get?_push_of_some _ (Heap.get?_push_of_some _ x)⟩
theorem wpAny_pyNext_enum_endT {e it l : Addr} {i : Nat} {items : Array Value} {old : Value} {Q : Option Value → Shared → Prop} (hh : A.handled = none)
    (he : IsEnum s.heap e it i old) (hit : s.heap.IsTupleIter it l i) (hl : s.heap.IsTuple l items) (hx : items[i]? = none)
    (hQ : ∀ h', Heap.ExtBut it s.heap h' → Q none { s with heap := h' }) : wpAny (model prog w) A (pyNext (.ref e)) Q E s := by
  have hT : s.TypeIs (.ref e) "enumerate" := ⟨_, he, rfl⟩
  unfold pyNext
  refine wpAny_bind (wpAny_attempt (wpAny_callSpecial?_slot (name := Str.ofString "__next__") hT F.slot_enumerate_next
    (wpAny_call_entry F.slot_enumerate_next hT F.entry_enumerate_next ?_ (F.args_enumerate_next_1 _))))
  show wpAny _ _ (field (.ref e) 2 >>= _) _ _ _
  refine wpAny_bind (wpAny_field he rfl (x := .ref it) rfl ?_)
  refine wpAny_bind (wpAny_nextOf_tuple_end hh hit hl hx fun h' x he' hx' => ?_)
  obtain ⟨o, ho, hc⟩ := hx'
  refine wpAny_bind (wpAny_isInstance (T := "StopIteration") (b := true) ⟨o, ho, hc⟩ isSubtype_stop ?_)
  exact wpAny_pure (hQ _ he')
end
end PySem
namespace L2
open PySem PySem.Spec PyProof.Rows
/-- the tuple at a as it stands at each turn, each item in a new pair with its number -/
def IteT (K : PySem.W.Frag) (a : Addr) : It :=
  ⟨fun i H => ∃ (xs : List V) (x : V), SqT K H a xs ∧ xs[i]? = some x, fun i H v H' => ∃ T x, v = .ref T ∧ H T = none ∧ H' = upd H T (.tup [.int (i : Nat), x]) ∧ ∀ xs, SqT K H a xs → xs[i]? = some x, fun i H => ∃ xs : List V, SqT K H a xs ∧ xs.length ≤ i⟩
theorem turn_enumT {P : Program} {w : World} {K : PySem.W.Frag} {elts : List Expr} {kk : Nat} {tpos : Pos} (a e it : Addr) :
    Turn P w K (.Tuple elts kk tpos) (IteT K a) [e, it] e (fun i h => (∃ old, IsEnum h e it ((i : Nat) : Int) old) ∧ h.IsTupleIter it a i ∧ e ≠ it ∧ a ≠ it ∧ e ≠ a) where
  mem := by simp
  obj := fun i h st b hb => by
    obtain ⟨⟨old, he⟩, ⟨o, ho, hc, hd⟩, _⟩ := st
    have e' : b = e ∨ b = it := by simpa using hb
    rcases e' with z | z
    · rw [z]; exact ⟨_, he, fun v q => nomatch q⟩
    · rw [z]; exact ⟨o, ho, fun v q => by rw [hd] at q; cases q⟩
  keep := fun i h h' st k => let ⟨⟨old, he⟩, hi, hne⟩ := st; ⟨⟨old, k e (by simp) _ he⟩, hi.at fun o q => k it (by simp) o q, hne⟩
  item := by
    intro X hP hw hK hc i pins s σ H E I hf st hg
    subst hP hw hK
    obtain ⟨⟨old, he⟩, hit, hne, hai, hea⟩ := st
    obtain ⟨xs, x, hq, hx⟩ := hg
    obtain ⟨its, rv, p, hz⟩ := I.tuple hq
    obtain ⟨u, hu, ru⟩ := rv.get hx
    have hel : e < s.heap.objs.size := Heap.lt_size he
    have hil : it < s.heap.objs.size := by obtain ⟨_, q, _⟩ := hit; exact Heap.lt_size q
    have hlt : i < its.toArray.size := by
      rw [List.size_toArray]
      exact (List.getElem?_eq_some_iff.mp hu).1
    refine wpAny_pyNext_enum_itemD (Draws.tuple (A := X.A.in1) (I.ok.hd hc) it a hai its.toArray) he ⟨hit, p⟩ hlt hne (by simp [hne, hea]) fun x' h' tk hx' ho st' hT hsz hk => ?_
    obtain ⟨hit', _⟩ := st'
    obtain rfl : x' = u := by
      have q : its[i]? = some x' := by simpa using hx'
      rw [hu] at q
      exact (Option.some.inj q).symm
    refine ⟨_, rfl, wpAny_letOwnedTupleGo_enum (s := { s with heap := h', toks := tk + 1 }) ho fun h'' he' sb => ?_⟩
    have hT2 : h''.get? s.heap.objs.size = some { cls := .type "tuple", data := .seq #[.int i tk, x'] } := (sb.2 _ (Nat.ne_of_gt hel)).trans hT
    have new : ObjOk X.prog X.w (upd H s.heap.objs.size (.tup [.int (i : Nat), x])) h'' s.heap.objs.size (.tup [.int (i : Nat), x]) :=
      ⟨by show 2 ≤ sizeLine; decide, [.int i tk, x'], .cons ⟨_, rfl⟩ (.cons ru .nil), ⟨_, hT2, rfl, _, rfl⟩⟩
    have I1 : Inv X pins σ (upd H s.heap.objs.size (.tup [.int (i : Nat), x])) { s with heap := h'', toks := tk + 1 } :=
      I.turnedNew (ch := [e, it]) (fun b ob hb q => (sb.2 b (fun z => hb (by simp [z]))).trans (hk b ob (fun z => hb (by simp [z])) (fun z => hb (by simp [z])) q)) hf (Nat.le_refl _) new
    refine ⟨.ref s.heap.objs.size, _, I1, rfl, ⟨_, x, rfl, I.hok.fresh (Nat.le_refl _), rfl, fun ys hy => by rw [I.tuple_inj hy hq]; exact hx⟩, ⟨⟨x', ?_⟩, hit'.at fun o q => (sb.2 it (Ne.symm hne)).trans q, hne, hai, hea⟩, fun b hb => ?_⟩
    · have e1 : ((i + 1 : Nat) : Int) = (i : Int) + 1 := by omega
      rw [e1]; exact he'
    · have hb' : b < s.heap.objs.size := by
        have e' : b = e ∨ b = it := by simpa using hb
        rcases e' with z | z
        · rw [z]; exact hel
        · rw [z]; exact hil
      rw [upd_ne (Nat.ne_of_lt hb')]
      exact (hf b hb).1
  done := by
    intro X hP hw hK hc i pins s σ H E I hf st hg
    subst hP hw hK
    obtain ⟨⟨old, he⟩, hit, hne, hai, hea⟩ := st
    obtain ⟨xs, hq, hx⟩ := hg
    obtain ⟨its, rv, p, hz⟩ := I.tuple hq
    obtain ⟨f0, f1, f2, f3, f4, f5⟩ := hf it (by simp)
    have hl := rv.length
    exact wpAny_pyNext_enum_endT (I.ok.hd hc) he hit p (by simp; omega) fun h' eb => ⟨rfl, I.turned (t' := s.toks) (fun b o hb q => eb b o hb q) f0 f1 f3 f4 f5⟩
  self := fun A i s Q E st h => let ⟨⟨_, he⟩, _⟩ := st; wpAny_pyIter_enum he h
def iEnumT (K : PySem.W.Frag) (ta : TA) : TI := fun σ H R => ta σ H fun vs H1 => ∃ a xs, vs = [.ref a] ∧ SqT K H1 a xs ∧ R (IteT K a) H1
theorem pi_enumT {X : Cx} {e : Expr} {ta : TA} {p pos tpos : Pos} {elts : List Expr} {kk : Nat} (hg : Gl X "enumerate") (hm : X.mg "enumerate" = none) (ha : PA X [e] ta) (hs : starEach [e] X.env = [(false, eval e X.env)] := by rfl) :
    PI X (.Tuple elts kk tpos) (.Call (.Name "enumerate" p) [e] [] pos) (iEnumT X.K ta) := by
  refine ⟨fun pins s σ H R I h => ?_⟩
  refine Call_ (ld_blt I hg hm boot_enumerate (PyProof.Rows.callWith_type1 (thn (ha.run pos pins s σ H _ I h) fun us s1 ⟨vs, H1, I1, r1, q1⟩ => ?_) hs rfl))
  obtain ⟨a, xs, ex, hq, q⟩ := q1
  subst ex
  cases r1 with
  | cons r rr =>
    cases rr
    cases r
    obtain ⟨its, rv, p', hz⟩ := I1.tuple hq
    have hal : a < s1.heap.objs.size := by obtain ⟨_, q, _⟩ := p'; exact Heap.lt_size q
    refine call_enumerate_tuple p' fun h' he hit hsz hk => wpAny_pyIter_enum he ?_
    have I2 : Inv X pins σ H1 { s1 with heap := h' } := I1.kept (t' := s1.toks) hk
    refine ⟨s1.heap.objs.size + 1, [s1.heap.objs.size + 1, s1.heap.objs.size], _, _, H1, rfl, I2, turn_enumT a (s1.heap.objs.size + 1) s1.heap.objs.size, ⟨⟨.none, he⟩, hit, Nat.succ_ne_self _, Nat.ne_of_lt hal, Ne.symm (Nat.ne_of_lt (Nat.lt_succ_of_lt hal))⟩, fun b hb => ?_, q⟩
    have e' : b = s1.heap.objs.size + 1 ∨ b = s1.heap.objs.size := by simpa using hb
    have hle : s1.heap.objs.size ≤ b := by
      rcases e' with z | z
      · rw [z]; exact Nat.le_add_right _ _
      · rw [z]; exact Nat.le_refl _
    exact I1.fpOk hle (I1.hok.fresh hle)
end L2

set_option Elab.async false
set_option linter.all false
set_option maxRecDepth 100000
set_option maxHeartbeats 4000000
set_option autoImplicit false
namespace L2
open PySem PySem.Spec PyProof.Rows
section
variable {X : Cx}
theorem mk_endN {pins : List (Addr × Obj)} {σ : St} {H1 H2 : Hp} {Q : XK} {hp hp2 h2 : Heap} {g1 g2 : Array GenState} {d1 d2 : Drawn} {t1 t2 : Nat} {os1 os2 : OsState} {a C : Addr} (T : Raises X (.ref C)) (I1 : Inv X pins σ H1 ⟨hp, g1, d1, t1, os1⟩)
    (ha : hp.objs.size ≤ a) (k : ∀ b o, hp.get? b = some o → hp2.get? b = some o) (un : Un (frs X.stack) [] (upd H1 a (exo a C none)) H2 hp2 h2) (hok : HOk X.prog X.w H2 h2) (ho : os2 = os1) (hb : AllBare g2)
    (e2 : H2 = upd H1 a (exo a C none)) (q : Q (.ref C) none H1) : MkP X pins σ Q (.ref a) ⟨h2, g2, d2, t2, os2⟩ := by
  have ea : H2 a = some (exo a C none) := by rw [e2]; exact upd_same
  obtain ⟨t0, hoe⟩ := exo_at hok ea
  have hn : H1 a = none := I1.hok.fresh ha
  obtain ⟨G, g1', g2'⟩ := restrict h2 fun b => decide (b ≠ a)
  have gk : ∀ b, b ≠ a → G.get? b = h2.get? b := fun b hb => g1' b (decide_eq_true hb)
  have ge : G.get? a = none := g2' a (by simp)
  have nha : ∀ {b : Addr} {o : Obj}, hp.get? b = some o → b ≠ a := fun {b o} z => Nat.ne_of_lt (Nat.lt_of_lt_of_le (Heap.lt_size z) ha)
  have up : ∀ {b : Addr}, b ≠ a → H1 b = none → upd H1 a (exo a C none) b = none := fun {b} hb n => by rw [upd_ne hb]; exact n
  have dn : del H2 a = H1 := by
    funext b
    by_cases z : b = a
    · subst z; rw [del_same, hn]
    · rw [del_ne z, e2, upd_ne z]
  have U : Un (frs X.stack) [] H1 (del H2 a) hp G := {
    keep := fun b o z n hf hx => by
      rw [gk b (nha z)]
      exact un.keep b o (k b o z) (up (nha z) n) hf hx
    slot := fun b o z n hf hx => by
      rw [gk b (nha z)]
      exact un.slot b o (k b o z) (up (nha z) n) hf hx
    free := fun b o z n hx => by
      rw [del_ne (nha z)]
      exact un.free b o (k b o z) (up (nha z) n) hx
    there := fun b o z hx => by
      rw [gk b (nha z)]
      exact un.there b o (k b o z) hx
    tups := fun b xs z => by
      rw [del_ne (ne_of_none z hn)]
      exact un.tups b xs (by rw [upd_ne (ne_of_none z hn)]; exact z)
    frzs := fun b o v z => by
      rw [del_ne (ne_of_none z hn)]
      exact un.frzs b o v (by rw [upd_ne (ne_of_none z hn)]; exact z)
    tbls := fun b ps z => by
      rw [del_ne (ne_of_none z hn)]
      exact un.tbls b ps (by rw [upd_ne (ne_of_none z hn)]; exact z) }
  have hok3 : HOk X.prog X.w (del H2 a) G := fun b o z => by
    have hba : b ≠ a := fun e => by
      rw [e, del_same] at z
      cases z
    rw [del_ne hba] at z
    have noa : ∀ {c : Addr}, H2 c = some (.own b) → c ≠ a := fun {c} hc => at_ne ea hc exo_own
    exact (hok b o z).stay (fun c v hc y => by
        have hca : c ≠ a := by
          rcases hc with hc | hc
          · rw [hc]
            exact hba
          · exact noa hc
        rw [gk c hca]
        exact y)
      (fun c hc => by rw [del_ne (noa hc)]; exact hc) (fun c xs hc => by rw [del_ne (at_ne ea hc exo_tup)]; exact hc)
  have J : Inv X pins σ (del H2 a) ⟨G, g2, d2, t2, os2⟩ := I1.call' (ch := []) ho U hok3 hb (fun b z => absurd z (by simp))
  rw [dn] at J
  refine ⟨a, _, _, ⟨G, g2, d2, t2, os2⟩, _, .ref C, none, rfl, J, fun b o z => ?_, ge, hoe, ⟨rfl, rfl⟩, rfl, rfl, hn, rfl, hb, T, q⟩
  by_cases hba : b = a
  · rw [hba, ge] at z
    cases z
  · exact (gk b hba).symm.trans z
/-- C() of an own exception whose __init__ does nothing -/
def spInitN : Sp := fun vs H Q _ => ∃ a : Addr, vs = [.ref a] ∧ Q .non H
def tMkN (C : Addr) : St → Hp → XK → Prop := fun _ H Q => Q (.ref C) none H
theorem pmk_oexN {CX : CXT} {x : Str} {C fI : Addr} {k : Nat} {fd : FuncData} {ps : List Str} {p pos : Pos} (T : OexC X.K C) (iC : PySem.W.findIn X.K (.ref C) "__init__" = some (some (.ref fI))) (tI : PySem.W.typeIn X.K (.ref fI) = some (.type "function"))
    (F1 : FnOk X.prog X.w X.K X.mg X.base CX k fI fd ps spInitN) (hr : Room (k + 1) X.A) (hb : Binds X.K fd ps []) (hx : Passes CX X (fun _ _ _ => False)) (hg : Gl X x) (hm : X.mg x = some (.ref C))
    (hdb : (x == ("__debug__" : Str)) = false := by decide) :
    PMk X (.Call (.Name x p) [] [] pos) (tMkN C) := by
  intro pins s1 σ H1 Q I1 h
  obtain ⟨nm, q, N, bs, bm, sn, sub, ab, col, dd, k0, k1, k2, k3, k5, hC, hbm⟩ := T.cls
  refine wpAny_Call_Name_kw (ld_glob I1 hg hm ?_ hdb)
  refine PySem.W.callWith_K0 I1.kIn T.kC ?_
  show wpAny _ _ (call (.ref C) []) _ _ _
  obtain ⟨hp, g, dr, tk, os⟩ := s1
  have hsz : hp.objs.size ≤ hp.objs.size + 1 := Nat.le_succ _
  have hn : H1 (hp.objs.size + 1) = none := I1.hok.fresh hsz
  have kk : ∀ b o, hp.get? b = some o → ((hp.push (PySem.W.kdv_tup [])).push (PySem.HandSPX.excO C hp.objs.size)).get? b = some o := fun b o e => Heap.get?_push_of_some _ (Heap.get?_push_of_some _ e)
  have hget : ((hp.push (PySem.W.kdv_tup [])).push (PySem.HandSPX.excO C hp.objs.size)).get? (hp.objs.size + 1) = some (PySem.HandSPX.excO C hp.objs.size) := by heap_get
  have I2 : Inv X pins σ (upd H1 (hp.objs.size + 1) (exo (hp.objs.size + 1) C none)) ⟨(hp.push (PySem.W.kdv_tup [])).push (PySem.HandSPX.excO C hp.objs.size), g, dr, tk, os⟩ :=
    I1.laid (t' := tk) (a := hp.objs.size + 1) (o := exo (hp.objs.size + 1) C none) (h' := (hp.push (PySem.W.kdv_tup [])).push (PySem.HandSPX.excO C hp.objs.size)) kk hsz (exo_ok hget)
  have hq : spInitN [V.ref (hp.objs.size + 1)] (upd H1 (hp.objs.size + 1) (exo (hp.objs.size + 1) C none)) (fun v H2 => v = .non ∧ H2 = upd H1 (hp.objs.size + 1) (exo (hp.objs.size + 1) C none)) (fun _ _ _ => False) := ⟨_, rfl, rfl, rfl⟩
  have r2 : Vals [V.ref (hp.objs.size + 1)] [Value.ref (hp.objs.size + 1)] := .cons rfl .nil
  have hl : ([Value.ref (hp.objs.size + 1)] ++ ([] : List Value)).length = ps.length := by
    rw [← F1.len _ _ _ _ hq]; rfl
  refine wpAny_call (PySem.HandSPX.call_own F.excBase_ValueError (fun Y => PySem.HandSPX.refsVE_contains Y bm hbm) (I1.kIn _ _ hC) (PySem.W.looks_findIn I1.kIn iC) (fun self => PySem.W.bind_fn I1.kIn self tI) (by show 0 ≤ sizeLine; decide)
    (codeAny_mono (F1.run _ X.stack _ _ ⟨[Value.ref (hp.objs.size + 1)], []⟩ [Value.ref (hp.objs.size + 1)] _ _ (fun _ _ _ => False) (hr.make C [] []) (I2.env0.make C [] []) (hb _ [Value.ref (hp.objs.size + 1)] I2.kIn hl) r2 hq) fun r s' hq' => ?_))
  cases r with
  | error er => exact hx pins σ _ _ er s' I2 hq'
  | ok fl =>
    cases fl with
    | ret u =>
      obtain ⟨v, H2, os2, bare2, un2, hok2, rv, ev, e2⟩ := hq'
      subst ev
      obtain ⟨h2, g2, d2, t2, os'⟩ := s'
      exact ⟨rv, mk_endN (raises_own T.exC T.tyC) I1 hsz kk un2 hok2 os2 bare2 e2 h⟩
    | next => exact False.elim hq'
    | brk => exact False.elim hq'
    | cont => exact False.elim hq'
end
end L2

set_option Elab.async false
set_option linter.all false
set_option maxRecDepth 100000
set_option maxHeartbeats 1000000
set_option autoImplicit false
namespace HT
open PySem PySem.Spec PyProof.Rows
section
variable {prog : Program} {w : World} {A : Around} {E : Value → Shared → Prop} {s : Shared}
theorem adjust_rev (n : Nat) : Builtin.Slice.sliceAdjust none none (-1) (n : Int) = ((n : Int) - 1, -1) := by
  unfold Builtin.Slice.sliceAdjust
  have h1 : ((-1 : Int) < 0) := by omega
  simp only [h1, if_true]
theorem places_rev (n : Nat) : Builtin.Slice.slicePlaces ((n : Int) - 1) (-1) (-1) = n := by
  unfold Builtin.Slice.slicePlaces
  have h1 : ¬ ((-1 : Int) > 0) := by omega
  simp only [h1, if_false]
  split <;> (try simp) <;> omega
theorem sliceApplied_rev {sl : Addr} {n : Nat} {t : Tok} {Q : Int × Int × Nat → Shared → Prop} (hs : s.heap.IsSliceOf sl .none .none (.int (-1) t))
    (h : Q ((n : Int) - 1, -1, n) s) : wpAny (model prog w) A (Builtin.Slice.sliceApplied (.ref sl) (pure (n : Int))) Q E s := by
  obtain ⟨os, hos, hcs, hds⟩ := id hs
  unfold Builtin.Slice.sliceApplied Builtin.Slice.sliceFields
  refine wpAny_bind (wpAny_bind (wpAny_field hos hds (x := .none) rfl (wpAny_bind (wpAny_field hos hds (x := .none) rfl (wpAny_bind (wpAny_field hos hds (x := .int (-1) t) rfl (wpAny_pure ?_)))))))
  refine wpAny_bind (slicePart_ (.int (-1) t) ?_)
  show wpAny _ _ (if ((-1 : Int) == 0) = true then _ else _) _ _ s
  rw [if_neg (by decide)]
  refine wpAny_bind (slicePart_ .none (wpAny_bind (slicePart_ .none (wpAny_bind (wpAny_pure ?_)))))
  show wpAny _ _ (match Builtin.Slice.sliceAdjust none none (-1) (n : Int) with | (lo, hi) => pure (lo, (-1 : Int), Builtin.Slice.slicePlaces lo hi (-1))) _ _ s
  rw [adjust_rev n]
  show wpAny _ _ (pure ((n : Int) - 1, (-1 : Int), Builtin.Slice.slicePlaces ((n : Int) - 1) (-1) (-1))) _ _ s
  rw [places_rev]
  exact wpAny_pure h
theorem fm_congr {α β : Type} {f g : α → Option β} : ∀ l : List α, (∀ x ∈ l, f x = g x) → l.filterMap f = l.filterMap g
  | [], _ => rfl
  | x :: l, h => by
    have e := h x List.mem_cons_self
    have r := fm_congr l fun y hy => h y (List.mem_cons_of_mem _ hy)
    rw [List.filterMap_cons, List.filterMap_cons, e, r]
theorem pick_rev (xs : Array Value) : ((List.range xs.size).filterMap fun (m : Nat) => xs[(((xs.size : Int) - 1) + (m : Int) * (-1)).toNat]?).toArray = xs.toList.reverse.toArray := by
  have e : (List.range xs.size).filterMap (fun (m : Nat) => xs[(((xs.size : Int) - 1) + (m : Int) * (-1)).toNat]?) = (List.range xs.size).filterMap ((xs[·]?) ∘ fun k => xs.size - 1 - k) :=
    fm_congr _ fun m hm => by
      have hm := List.mem_range.mp hm
      have e1 : (((xs.size : Int) - 1) + (m : Int) * (-1)).toNat = xs.size - 1 - m := by omega
      rw [e1]; rfl
  rw [e, ← List.filterMap_map, PySem.W.krv_range, List.filterMap_reverse, PySem.W.krv_all]
theorem getItem_tuple_rev {t sl : Addr} {items : Array Value} {u : Tok} {Q : Value → Shared → Prop} (ht : IsTup s.heap t items) (hs : s.heap.IsSliceOf sl .none .none (.int (-1) u))
    (h : Q (.ref s.heap.objs.size) { s with heap := s.heap.push { cls := .type "tuple", data := .seq items.toList.reverse.toArray } })
    (hsz : items.size ≤ sizeLine) : wpAny (model prog w) A (getItem (.ref t) (.ref sl)) Q E s := by
  have htake : sizeOk (.seq items.toList.reverse.toArray) := by
    show items.toList.reverse.toArray.size ≤ sizeLine
    rw [List.size_toArray, List.length_reverse, Array.length_toList]
    omega
  obtain ⟨os, hos, hcs, hds⟩ := id hs
  have hTs : s.TypeIs (.ref sl) "slice" := ⟨os, hos, hcs⟩
  unfold getItem
  try with_reducible refine wpAny_holding ?_
  first | refine wpAny_bind (wpAny_pure ?_) | skip
  refine wpAny_bind (wpAny_sequenceKey ht.typeIs (by decide) ?_)
  refine wpAny_bind (wpAny_callSpecial?_slot (name := Str.ofString "__getitem__") ht.typeIs PyProof.Rows.slot_tuple_getitem
    (wpAny_call_entry PyProof.Rows.slot_tuple_getitem ht.typeIs entry_tuple_getitem ?_ (args_tuple_getitem _ _)))
  show wpAny _ _ (Builtin.Tuple.tupleItemsOf (.ref t) >>= _) _ _ s
  refine wpAny_bind (tupleItemsOf_ ht ?_)
  refine wpAny_bind (wpAny_typeOf hTs ?_)
  rw [if_pos (by decide)]
  refine wpAny_bind (sliceApplied_rev hs ?_)
  have hno : ¬ ((((items.size : Int) - 1) == 0 && (-1 : Int) == 1 && items.size == items.size) = true) := by
    intro q
    rw [Bool.and_eq_true, Bool.and_eq_true] at q
    exact absurd q.1.2 (by decide)
  show wpAny _ _ (if (((items.size : Int) - 1) == 0 && (-1 : Int) == 1 && items.size == items.size) = true then _ else _) _ _ s
  rw [if_neg hno, pick_rev]
  first
    | exact wpAny_bind (m := Builtin.Tuple.tupleExact _) (wpAny_newObj_type (wpAny_pure ⟨_, rfl, wpAny_pure h⟩) htake)
    | exact wpAny_bind (m := Builtin.Tuple.tupleExact _) (wpAny_newObj_type (wpAny_bind (wpAny_pure (wpAny_pure ⟨_, rfl, wpAny_pure h⟩))) htake)
    | exact wpAny_bind (wpAny_bind (m := Builtin.Tuple.tupleExact _) (wpAny_newObj_type (wpAny_pure (wpAny_pure ⟨_, rfl, wpAny_pure h⟩)) htake))
    | exact wpAny_bind (wpAny_bind (m := Builtin.Tuple.tupleExact _) (wpAny_newObj_type (wpAny_pure ⟨_, rfl, wpAny_pure h⟩) htake))
end
end HT
namespace L2
open PySem PySem.Spec PyProof.Rows
section
variable {X : Cx}
/-- set(t), t a tuple of ints -/
def rSetT (K : PySem.W.Frag) (w : World) : List V → Hp → VK → Prop := fun xs H Q => ∃ (l : Addr) (ns : List Int), xs = [.ref l] ∧ SqT K H l (ns.map V.int) ∧ ns.length ≤ 1000 ∧
  ∀ a n, n ≤ ns.length → H a = none → Q (.ref a) (upd H a (SetO w a (fun j => decide (j ∈ ns)) n))
theorem cr_setT (hc : X.calm = true) : CallR X (.type "set") (rSetT X.K X.w) := by
  intro pins s σ H xs us Q I r h
  obtain ⟨l, ns, rfl, hq, hl, q⟩ := h
  obtain ⟨u, rfl, ru⟩ := vals1 r
  cases ru
  obtain ⟨its, rv, pt, hz⟩ := I.tuple hq
  have hi : IntsAre its.toArray.toList ns := ints_of_vals rv
  refine call_set_tupI ns (I.ok.hd hc) (show s.heap.IsTuple l its.toArray from pt) hi (by unfold scanBound; omega) fun h' tk c R1 hcn k => ?_
  exact ⟨.ref s.heap.objs.size, _, I.laid (t' := tk) (h' := h') (o := SetO X.w s.heap.objs.size (fun j => decide (j ∈ ns)) c) k (Nat.le_refl _) (setO_new R1), rfl, q _ c hcn (I.hok.fresh (Nat.le_refl _))⟩
def tRevT (K : PySem.W.Frag) (te : TE) : TE := fun σ H Q => te σ H fun x H1 => ∃ a xs, x = .ref a ∧ SqT K H1 a xs ∧ ∀ p, H1 p = none → Q (.ref p) (upd H1 p (.tup xs.reverse))
theorem pe_revT {e : Expr} {te : TE} {k : Nat} {p1 p2 p3 pos : Pos} (he : PE X e te) : PE X (.Subscript e (.Slice none none (some (.UnaryOp .USub (.Constant (.int 1) k p1) p2)) p3) pos) (tRevT X.K te) := by
  refine ⟨fun pins s σ H Q I h => ?_⟩
  refine Subscript_ (thn (he.run pins s σ H _ I h) fun v s1 ⟨x, H1, I1, r1, q1⟩ => ?_)
  obtain ⟨a, xs, ex, hx, q⟩ := q1
  subst ex
  cases r1
  have hst : PO X (some (.UnaryOp .USub (.Constant (.int 1) k p1) p2)) (tPart (tUn (rU fun i => .int (-i)) (tC (.int 1)))) := po_some (pe_un un_neg pe_int)
  refine wpAny_Slice (thn (po_none.run pins s1 σ H1 (fun o H2 => o = none ∧ H2 = H1) I1 ⟨rfl, rfl⟩) fun vl s2 ⟨l, H2, I2, pl, el, e2⟩ => ?_)
  subst el e2
  refine thn (po_none.run pins s2 σ H2 (fun o H3 => o = none ∧ H3 = H2) I2 ⟨rfl, rfl⟩) fun vu s3 ⟨u, H3, I3, pu, eu, e3⟩ => ?_
  subst eu e3
  refine thn (hst.run pins s3 σ H3 (fun o H4 => o = some (-1) ∧ H4 = H3) I3 ⟨1, rfl, -1, rfl, rfl, rfl⟩) fun vs s4 ⟨o, H4, I4, ps, eo, e4⟩ => ?_
  subst eo e4
  cases pl
  cases pu
  cases ps with
  | int _ tt =>
  have I5 : Inv X pins σ H4 { s4 with heap := s4.heap.push { cls := .type "slice", data := .fields #[.none, .none, .int (-1) tt] } } := I4.kept (t' := s4.toks) fun b ob q => Heap.get?_push_of_some _ q
  obtain ⟨its, r, ht, hz⟩ := I5.tuple hx
  have hlen := r.length
  show wpAny (model X.prog X.w) X.A (subscriptTail e (.Slice none none (some (.UnaryOp .USub (.Constant (.int 1) k p1) p2)) p3) (.ref a) (.ref s4.heap.objs.size)) (EP X pins σ Q) X.xe { s4 with heap := s4.heap.push { cls := .type "slice", data := .fields #[.none, .none, .int (-1) tt] } }
  refine tail_any (ops := [.ref a, .ref s4.heap.objs.size]) ht.typeIs (PyProof.Rows.slot_tuple_getitem.lookup) ?_ (by with_unfolding_all rfl)
  refine HT.getItem_tuple_rev ht (Heap.IsSliceOf.new _ .none .none (.int (-1) tt)) ?_ (by rw [List.size_toArray]; omega)
  refine ⟨.ref _, _, I5.laid (t' := s4.toks) (o := .tup xs.reverse) (fun b ob q => Heap.get?_push_of_some _ q) (Nat.le_refl _) ?_, rfl, q _ (I5.hok.fresh (Nat.le_refl _))⟩
  exact ⟨by rw [List.length_reverse]; exact hz, _, r.reverse, IsTup.new _ _⟩
end
end L2
namespace Hc
open PySem L2
/-- [f(a, b) for a, b in zip(s, t)]: two tuples, perhaps of unlike lengths -/
theorem lc_zipT {K : PySem.W.Frag} {a b : Addr} {xs ys : List V} {g : TG} {tt : TT} {te : TE} {vs : List Nat} {σ : St} {H1 : Hp} {D : Addr} {Qd : Hp → Prop} (Pv : Nat → Hp → Prop) (h0 : Pv 0 (upd H1 D (.lst [])))
    (hl : ∀ i H, Pv i H → SqT K H a xs ∧ SqT K H b ys)
    (hs : ∀ (i : Nat) (x y : V) (T : Addr) (H : Hp), xs[i]? = some x → ys[i]? = some y → Pv i H → H T = none → g (.ref T) (wipe σ vs) (upd H T (.tup [x, y])) fun σ2 H2 => wipe σ2 vs = wipe σ vs ∧ tt σ2 H2 fun b H3 =>
      if b = true then te σ2 H3 fun y H4 => ∃ acc, H4 D = some (.lst acc) ∧ acc.length < sizeLine ∧ Pv (i + 1) (upd H4 D (.lst (acc ++ [y]))) else Pv (i + 1) H3) (hd : ∀ H, Pv (min xs.length ys.length) H → Qd H) :
    ∃ W : Nat → Nat → Hp → Prop, (∃ m, W 0 m (upd H1 D (.lst []))) ∧ ∀ i m H, W i m H →
      ((RZ.ItzT K a b).stop i H ∧ Qd H) ∨ ((RZ.ItzT K a b).go i H ∧ ∃ Nx : Hp → Prop, (∀ H', Nx H' → ∃ m', m' < m ∧ W (i + 1) m' H') ∧ ∀ x H', (RZ.ItzT K a b).yld i H x H' → g x (wipe σ vs) H' fun σ2 H2 => wipe σ2 vs = wipe σ vs ∧ tt σ2 H2 fun b H3 =>
        if b = true then te σ2 H3 fun y H4 => ∃ acc, H4 D = some (.lst acc) ∧ acc.length < sizeLine ∧ Nx (upd H4 D (.lst (acc ++ [y]))) else Nx H3) := by
  refine ⟨fun i m H => m = min xs.length ys.length - i ∧ i ≤ min xs.length ys.length ∧ Pv i H, ⟨_, rfl, Nat.zero_le _, h0⟩, ?_⟩
  rintro i m H ⟨rfl, hi, p⟩
  obtain ⟨qx, qy⟩ := hl i H p
  by_cases hlt : i < min xs.length ys.length
  · have h1 : i < xs.length := by omega
    have h2 : i < ys.length := by omega
    refine .inr ⟨⟨xs, ys, _, _, qx, qy, List.getElem?_eq_getElem h1, List.getElem?_eq_getElem h2⟩, Pv (i + 1), fun H' p' => ⟨min xs.length ys.length - (i + 1), by omega, rfl, hlt, p'⟩, fun v H' y => ?_⟩
    obtain ⟨T, x', y', rfl, hT, rfl, f1, f2⟩ := y
    exact hs i x' y' T H (f1 xs qx) (f2 ys qy) p hT
  · have e : i = min xs.length ys.length := by omega
    subst e
    refine .inl ⟨⟨xs, ys, qx, qy, ?_⟩, hd H p⟩
    omega
end Hc

set_option Elab.async false
set_option linter.all false
set_option maxRecDepth 100000
set_option maxHeartbeats 1000000
set_option autoImplicit false
namespace L2
open PySem PySem.Spec PyProof.Rows
open PySem.W (alike dataLt lt_data)
section
variable {X : Cx}
/-- x < y, of data that are alike -/
def rLtD (K : PySem.W.Frag) : R2 := fun x y H Q => ∃ d e, Dp K H x d ∧ Dp K H y e ∧ alike d e = true ∧ d ≠ .none ∧ min d.depth e.depth ≤ 64 ∧ Q (.bl (dataLt d e)) H
theorem op_ltD (hu : X.A.units + 65 < cLine) : OpR X (compareOp .Lt) (rLtD X.K) := by
  intro pins s σ H x y v u Q I rx ry h
  obtain ⟨d, e, hd, he, ha, hn, hm, q⟩ := h
  obtain ⟨as, r1⟩ := Dp.reads I d x v hd rx
  obtain ⟨bs, r2⟩ := Dp.reads I e y u he ry
  exact lt_data r1 r2 ha hn (by omega) ⟨.bl _, H, I, rfl, q⟩
/-- i, i + c, .. (n of them) -/
def rgC (i c : Int) (n : Nat) : List V := (List.range n).map fun k => V.int (i + (k : Nat) * c)
theorem vals_rgC {i c : Int} {n : Nat} {acc : Array Value} (h : ItemsOf (fun k v => ∃ t, v = .int (i + k * c) t) acc n) : Vals (rgC i c n) acc.toList := by
  have e : acc.toList.length = n := by rw [Array.length_toList]; exact h.1
  unfold rgC
  rw [← e]
  refine vals_of_get acc.toList _ fun j u hj => ?_
  obtain ⟨t, rfl⟩ := h.2 j u (by rw [← hj, Array.getElem?_toList])
  exact ⟨t, rfl⟩
def tTupRg3 (ta : TA) : TE := fun σ H Q => ta σ H fun vs H1 => ∃ (i j c : Int) (n : Nat), vs = [.int i, .int j, .int c] ∧ RgC i j c n ∧ n ≤ 100000 ∧ ∀ q, H1 q = none → Q (.ref q) (upd H1 q (.tup (rgC i c n)))
theorem pe_tupRg3 {a b c : Expr} {ta : TA} {p p2 pos pos2 : Pos} (hc : X.calm = true) (hg : Gl X "tuple") (hm : X.mg "tuple" = none) (hg2 : Gl X "range") (hm2 : X.mg "range" = none) (ha : PA X [a, b, c] ta)
    (hs : starEach [a, b, c] X.env = (false, eval a X.env) :: starEach [b, c] X.env := by rfl) (hpl : (backTo pos2 (starEach [b, c] X.env)).any (·.1) = false := by rfl)
    (na : starEach [.Call (.Name "range" p2) [a, b, c] [] pos2] X.env = (false, eval (.Call (.Name "range" p2) [a, b, c] [] pos2) X.env) :: starEach [] X.env := by rfl) :
    PE X (.Call (.Name "tuple" p) [.Call (.Name "range" p2) [a, b, c] [] pos2] [] pos) (tTupRg3 ta) := by
  refine ⟨fun pins s σ H Q I h => ?_⟩
  have Z : wpAny (model X.prog X.w) X.A (eval (.Call (.Name "range" p2) [a, b, c] [] pos2) X.env) (fun x s' => ∃ r i j k n t u v H', x = .ref r ∧ IsRange s'.heap r i j k t u v ∧ Inv X pins σ H' s' ∧ RgC i j k n ∧ n ≤ 100000 ∧ ∀ q, H' q = none → Q (.ref q) (upd H' q (.tup (rgC i k n)))) X.xe s := by
    refine Call_ (ld_blt I hg2 hm2 boot_range (PyProof.Rows.callWith_type1 (thn (ha.run pos2 pins s σ H _ I h) fun us s1 ⟨vs, H1, I1, r1, q1⟩ => ?_) hs hpl))
    obtain ⟨i, j, k, n, e, ⟨c0, c1, c2, c3⟩, hn, q⟩ := q1
    subst e
    cases r1 with
    | cons r rr =>
      cases rr with
      | cons r' rr =>
        cases rr with
        | cons r'' rr =>
          cases rr
          obtain ⟨t, rfl⟩ := r
          obtain ⟨t', rfl⟩ := r'
          obtain ⟨t'', rfl⟩ := r''
          exact call_range_3 c0 ⟨_, i, j, k, n, _, _, _, H1, rfl, IsRange.new _ _ _ _ _ _ _, I1.kept fun b u e => Heap.get?_push_of_some _ e, ⟨c0, c1, c2, c3⟩, hn, q⟩ (.inl (PyProof.noPylong_small c1))
  refine Call_ (ld_blt I hg hm boot_tuple (PyProof.Rows.callWith_type1 (args_cons (thn Z fun x s1 ⟨r, i, j, k, n, t, u, v, H1, ex, hr, I1, ok, hn, q⟩ => args_nil ?_) na) na))
  subst ex
  obtain ⟨c0, c1, c2, c3⟩ := ok
  refine call_tuple_range (n := n) (I1.ok.hd hc) hr c2 c3 (by omega) fun h' tk acc hk hi => ?_
  have I2 : Inv X pins σ H1 { s1 with heap := h', toks := tk } := I1.kept hk
  refine ⟨.ref h'.objs.size, upd H1 h'.objs.size (.tup (rgC i k n)), I2.laid (t' := tk) (fun c o e => Heap.get?_push_of_some _ e) (Nat.le_refl _) (show ObjOk X.prog X.w _ _ _ (.tup (rgC i k n)) from ⟨?_, acc.toList, vals_rgC hi, ?_⟩), rfl, q _ (I2.hok.fresh (Nat.le_refl _))⟩
  · unfold rgC
    rw [List.length_map, List.length_range, sizeLine_eq]; omega
  · rw [Array.toArray_toList]; exact IsTup.new _ _
end
end L2

set_option Elab.async false
set_option linter.all false
set_option maxRecDepth 100000
set_option maxHeartbeats 1000000
set_option autoImplicit false
namespace Pl
open PySem L2 PyProof.Rows
/-- Python's < of rows of ints -/
def lexI : List Int → List Int → Bool
  | [], [] => false
  | [], _ :: _ => true
  | _ :: _, [] => false
  | a :: as, b :: bs => if a = b then lexI as bs else decide (a < b)
theorem lexI_cons (a b : Int) (as bs : List Int) : lexI (a :: as) (b :: bs) = if a = b then lexI as bs else decide (a < b) := rfl
theorem lexI_asym : ∀ x y : List Int, lexI x y = true → lexI y x = false
  | [], [], h => by cases h
  | [], _ :: _, _ => rfl
  | _ :: _, [], h => by cases h
  | a :: as, b :: bs, h => by
    rw [lexI_cons] at h ⊢
    by_cases e : a = b
    · rw [if_pos e] at h
      rw [if_pos e.symm]
      exact lexI_asym as bs h
    · rw [if_neg e] at h
      rw [if_neg (Ne.symm e)]
      have := of_decide_eq_true h
      exact decide_eq_false (by omega)
theorem lexI_tr : ∀ x y z : List Int, lexI y x = false → lexI z y = false → lexI z x = false
  | [], _, [], _, _ => rfl
  | [], [], _ :: _, _, _ => rfl
  | [], _ :: _, _ :: _, _, _ => rfl
  | _ :: _, [], _, h, _ => by cases h
  | _ :: _, _ :: _, [], _, h => by cases h
  | a :: as, b :: bs, c :: cs, h1, h2 => by
    rw [lexI_cons] at h1 h2 ⊢
    by_cases e1 : b = a
    · rw [if_pos e1] at h1
      by_cases e2 : c = b
      · rw [if_pos e2] at h2
        rw [if_pos (e2.trans e1)]
        exact lexI_tr as bs cs h1 h2
      · rw [if_neg e2] at h2
        have := of_decide_eq_false h2
        rw [if_neg (by omega)]
        exact decide_eq_false (by omega)
    · rw [if_neg e1] at h1
      have q1 := of_decide_eq_false h1
      by_cases e2 : c = b
      · rw [if_neg (by omega)]
        exact decide_eq_false (by omega)
      · rw [if_neg e2] at h2
        have q2 := of_decide_eq_false h2
        rw [if_neg (by omega)]
        exact decide_eq_false (by omega)
theorem swo {α : Type} (k : α → List Int) : SrtO.Swo fun v u => lexI (k v) (k u) := ⟨fun x y => lexI_asym _ _, fun x y z => lexI_tr _ _ _⟩
/-- .. where one of them ends the answer is fin -/
def lexF (fin : Bool) : List Int → List Int → Bool
  | a :: as, b :: bs => if a = b then lexF fin as bs else decide (a < b)
  | _, _ => fin
theorem lexF_eq : ∀ (x y : List Int), lexF (decide (x.length < y.length)) x y = lexI x y
  | [], [] => rfl
  | [], _ :: _ => by show decide (0 < _ + 1) = true; exact decide_eq_true (Nat.succ_pos _)
  | _ :: _, [] => by show decide (_ + 1 < 0) = false; exact decide_eq_false (Nat.not_lt_zero _)
  | a :: as, b :: bs => by
    have ih := lexF_eq as bs
    rw [lexI_cons, ← ih]
    show (if a = b then lexF (decide (as.length + 1 < bs.length + 1)) as bs else decide (a < b)) = _
    have : decide (as.length + 1 < bs.length + 1) = decide (as.length < bs.length) := by
      by_cases h : as.length < bs.length
      · rw [decide_eq_true h, decide_eq_true (by omega)]
      · rw [decide_eq_false h, decide_eq_false (by omega)]
    rw [this]
section
variable {prog : Program} {w : World} {A : Around} {E : Value → Shared → Prop} {s : Shared}
/-- at v a tuple of ints, one at least -/
def IsPl (h : Heap) (v : Value) (p : List Int) : Prop := ∃ a o us n n0 ns, v = .ref a ∧ h.get? a = some o ∧ o.cls = .type "tuple" ∧ o.data = .seq (List.toArray us) n ∧ p = n0 :: ns ∧ Vals (p.map V.int) us
theorem IsPl.keeps {h h' : Heap} {v : Value} {p : List Int} (x : IsPl h v p) (k : ∀ b o, h.get? b = some o → o.cls = .type "tuple" → h'.get? b = some o) : IsPl h' v p := by
  obtain ⟨a, o, us, n, n0, ns, e, ho, hc, hd⟩ := x
  exact ⟨a, o, us, n, n0, ns, e, k _ _ ho hc, hc, hd⟩
theorem lex_go {b fin : Bool} {Q : Bool → Shared → Prop} : ∀ (ns ms : List Int) (us vs : List Value) (i : Nat), Vals (ns.map V.int) us → Vals (ms.map V.int) vs → Q (lexF fin ns ms) s → PySem.W.KatLex prog w A b fin Q (us.zip vs) i s
  | [], _, _, _, i, .nil, _, h => PySem.W.kat_nil (i := i) h
  | _ :: _, [], _, _, i, .cons _ _, .nil, h => PySem.W.kat_nil (i := i) h
  | n :: ns, m :: ms, _, _, i, .cons r1 q1, .cons r2 q2, h => by
    obtain ⟨t1, rfl⟩ := r1
    obtain ⟨t2, rfl⟩ := r2
    have h : Q (if n = m then lexF fin ns ms else decide (n < m)) s := h
    refine PySem.W.kat_cons (SeqAt.EqAt.int_int n t1 m t2 prog w _ _ ?_)
    refine PySem.W.kat_go (fun e1 => ?_) (fun e1 => ?_)
    · have ex : n = m := by simpa using e1
      rw [if_pos ex] at h
      exact PySem.W.kat_yes (lex_go ns ms _ _ (i + 1) q1 q2 h)
    · have ex : ¬ n = m := by simpa using e1
      rw [if_neg ex] at h
      exact PySem.W.kat_no (TS.oneLt_ints _ h)
theorem pl_cmp {vs : List Value} {k : Value → List Int} (hp : ∀ v ∈ vs, IsPl s.heap v (k v)) : SrtO.Cmp prog w A s (tuples' true) (fun p => p.1 ∈ vs) (SrtO.lt2 fun v u => lexI (k v) (k u)) := by
  intro p q hm hm'
  have h1 := hp _ hm
  have h2 := hp _ hm'
  show wpAny (model prog w) A (keyLt' (tuples' true) p.1 q.1) (fun r s' => s' = s ∧ r = lexI (k p.1) (k q.1)) (fun _ _ => False) s
  obtain ⟨a, o, us, n, n0, ns, e, ho, hc, hd, ek, r1⟩ := h1
  obtain ⟨a', o', us', n', m0, ms, e', ho', hc', hd', ek', r2⟩ := h2
  rw [e, e']
  refine PySem.W.kat_lt ho hd ho' hd' ?_
  have l1 := r1.length
  have l2 := r2.length
  rw [List.length_map] at l1 l2
  have fin : decide (us.toArray.size < us'.toArray.size) = decide ((k p.1).length < (k q.1).length) := by
    simp only [List.size_toArray]
    rw [← l1, ← l2]
  rw [fin]
  exact lex_go (k p.1) (k q.1) us us' 0 r1 r2 ⟨rfl, by rw [← e, ← e']; exact lexF_eq _ _⟩
theorem firsts_of {h : Heap} : ∀ {vs : List Value}, (∀ v ∈ vs, ∃ p, IsPl h v p) → ∃ fs : List Value, PySem.W.KatTups h vs fs ∧ fs.length = vs.length ∧ ∀ f ∈ fs, ∃ x t, f = Value.int x t
  | [], _ => ⟨[], PySem.W.KatTups.nil, rfl, fun _ hm => by simp at hm⟩
  | v :: vs, hp => by
    obtain ⟨fs, h1, h2, h3⟩ := firsts_of (vs := vs) fun v' hm => hp v' (List.mem_cons_of_mem _ hm)
    obtain ⟨p, a, o, us, n, n0, ns, e, ho, hc, hd, ep, r⟩ := hp v (List.mem_cons_self ..)
    subst e ep
    cases r with
    | cons r0 r =>
    obtain ⟨t, rfl⟩ := r0
    refine ⟨.int n0 t :: fs, PySem.W.KatTups.cons ho hc hd rfl h1, by rw [List.length_cons, List.length_cons, h2], fun f hm => ?_⟩
    rcases List.mem_cons.mp hm with rfl | hm
    · exact ⟨_, t, rfl⟩
    · exact h3 f hm
theorem sortable {a : Addr} {vs : List Value} {k : Value → List Int} (h0 : 0 < vs.length) (hp : ∀ v ∈ vs, IsPl s.heap v (k v)) (ha : ∀ o, s.heap.get? a = some o → o.cls ≠ .type "tuple") : SrtO.SortableO prog w A s a vs fun v u => lexI (k v) (k u) := by
  intro h' keep
  have hp' : ∀ v ∈ vs, IsPl h' v (k v) := fun v hm => (hp v hm).keeps fun b o e c => keep b o (fun z => by subst z; exact ha o e c) e
  obtain ⟨fs, h1, h2, h3⟩ := firsts_of fun v hm => ⟨_, hp' v hm⟩
  refine ⟨tuples' true, fun Q E hq => ?_, pl_cmp hp'⟩
  refine PySem.W.kat_kind (T := .type "int") h1 (by omega) (fun f hm => ?_) (by rfl) ?_
  · obtain ⟨x, t, rfl⟩ := h3 f hm
    exact PySem.W.Looks.now
  · have e : (Value.type "int" != Value.type "tuple") = true := by first | decide +kernel | rfl | decide
    rw [e]
    exact hq
theorem sorted_pl {l : Addr} {vs : List Value} {k : Value → List Int} {Q : Value → Shared → Prop} (hl : s.heap.IsList l vs.toArray) (hz : vs.length ≤ sizeLine) (hp : ∀ v ∈ vs, IsPl s.heap v (k v))
    (h : ∀ (h' : Heap) (d : Addr) (out : List Value), SrtO.Srtd (fun v u => lexI (k v) (k u)) out → SrtO.Stb (fun v u => lexI (k v) (k u)) out vs → (∀ b o, s.heap.get? b = some o → h'.get? b = some o) → s.heap.objs.size ≤ d → (∃ n, h'.get? d = some (seqObj "list" out.toArray n)) → Q (.ref d) { s with heap := h' }) :
    wpAny (model prog w) A (call (.builtin "sorted") [.ref l]) Q E s := by
  refine SrtO.sorted_ord (swo k) hl hz (fun h2 h₁ a ha kk => ?_) fun out hs hb => ?_
  · refine sortable (s := { s with heap := h₁ }) (by omega) (fun v hm => (hp v hm).keeps fun b o e _ => (kk b o e).2) fun o e => ?_
    have e' : some o = some (seqObj "list" vs.toArray 0) := e.symm.trans ha
    cases e'
    intro c
    exact absurd (Value.type.inj c) (by decide)
  · exact h _ _ out hs hb (fun b o e => sortedAll_old e) (Nat.le_succ _) (sortedAll_at s.heap vs out.toArray)
end
end Pl
namespace L2
open PySem PySem.Spec PyProof.Rows
/-- at x a tuple of ints, one at least, in the heap -/
def RwV (H : Hp) (x : V) (p : List Int) : Prop := ∃ t n0 ns, x = V.ref t ∧ H t = some (.tup (p.map V.int)) ∧ p = n0 :: ns
/-- sorted(xs), xs a list of such tuples -/
def rSortedR (K : PySem.W.Frag) : List V → Hp → VK → Prop := fun vs H Q => ∃ (a : Addr) (xs : List V) (k : V → List Int), vs = [V.ref a] ∧ SqL K H a xs ∧ (∀ x ∈ xs, RwV H x (k x)) ∧
  ∀ ys p, SrtO.Srtd (fun x y => Pl.lexI (k x) (k y)) ys → SrtO.Stb (fun x y => Pl.lexI (k x) (k y)) ys xs → H p = none → Q (.ref p) (upd H p (.lst ys))
section
variable {X : Cx}
theorem cr_sortedR : CallR X (.builtin "sorted") (rSortedR X.K) := by
  intro pins s σ H vs us Q I r h
  obtain ⟨a, xs, k, rfl, hs, hx, q⟩ := h
  obtain ⟨its, rv, hl, hz⟩ := I.list hs
  obtain ⟨u, rfl, ru⟩ := vals1 r
  obtain rfl : u = Value.ref a := ru
  obtain ⟨e1, e2⟩ := refs_back rv fun x m => by
    obtain ⟨t, _, _, e, _⟩ := hx x m
    exact ⟨t, e⟩
  refine Pl.sorted_pl (k := fun u => k (backV u)) hl.isList (by rw [← rv.length]; exact hz) (fun v hv => ?_) fun h' d out h1 h2 kp hd hn => ?_
  · obtain ⟨t, rfl⟩ := e2 v hv
    have hm : V.ref t ∈ xs := by rw [e1]; exact List.mem_map.mpr ⟨_, hv, rfl⟩
    obtain ⟨t', n0, ns, e, ht, ek⟩ := hx _ hm
    cases e
    obtain ⟨_, its2, r2, o, ho, hc, n, hd⟩ := I.hok _ _ ht
    exact ⟨t, o, _, n, n0, ns, rfl, ho, hc, hd, ek, r2⟩
  · have h3 : ∀ u ∈ out, ∃ a, u = Value.ref a := fun u hu => e2 u (h2.perm.mem_iff.mp hu)
    obtain ⟨n, hn⟩ := hn
    have hb : SrtO.Stb (fun x y => Pl.lexI (k x) (k y)) (out.map backV) xs := by
      rw [e1]
      exact SrtO.Stb.map (Pl.swo k) backV h2
    refine ⟨.ref d, upd H d (.lst (out.map backV)), I.laid (t' := s.toks) kp hd ⟨?_, out, n, vals_back h3, hn⟩, rfl, q _ d (SrtO.srtd_map h1) hb (I.hok.fresh hd)⟩
    rw [hb.len]
    exact hz
end
end L2

set_option Elab.async false
set_option linter.all false
set_option maxRecDepth 100000
set_option maxHeartbeats 1000000
set_option autoImplicit false
namespace L2
open PySem PySem.Spec PyProof.Rows
/-- x == y, x an instance of the own class at C whose __eq__ is at f, y an instance too, not of a class below C -/
def rEqI (K : PySem.W.Frag) (C : Addr) (sp : Sp) (E : XK) : R2 := fun x y H Q => ∃ a dx fs b C' dy gs, x = .ref a ∧ y = .ref b ∧ H a = some (.ins C dx fs) ∧ H b = some (.ins C' dy gs) ∧ PySem.W.notFirst K C (.ref C') = true ∧ sp [x, y] H Q E
theorem op_eqI {X : Cx} {CX : CXT} {C f : Addr} {sp : Sp} {E : XK} {n : Nat} (F : FnR X.prog X.w X.K X.mg X.base CX n f sp)
    (hs : PySem.W.findIn X.K (.ref C) "__eq__" = some (some (.ref f))) (hf : PySem.W.isFn X.K (.ref f) = true) (hr : Room n X.A) (hx : Passes CX X E) : OpR X (compareOp .Eq) (rEqI X.K C sp E) := by
  intro pins s σ H x y v u Q I rx ry h
  obtain ⟨a, dx, fs, b, C', dy, gs, rfl, rfl, ha, hb, hn, q⟩ := h
  cases (show v = Value.ref a from rx)
  cases (show u = Value.ref b from ry)
  obtain ⟨mA, J, _⟩ := ins_get I.hok ha
  obtain ⟨mB, J', _⟩ := ins_get I.hok hb
  obtain ⟨od, J, _⟩ := J.look
  obtain ⟨od', J', _⟩ := J'.look
  obtain ⟨m, hF⟩ := I.fr
  show wpAny (model X.prog X.w) X.A (richCompare .Eq (.ref a) (.ref b)) _ _ _
  refine PySem.W.cmp_K (op := .Eq) (tb := .ref C') hr.units0 hF I.ok.mod.kin J J'.type hn hs hf ?_
  refine wpAny_mono (wpAny_call (run_fnR (us := [.ref a, .ref b]) (vs := [.ref a, .ref b]) F hr hx I (.cons rfl (.cons rfl .nil)) q)) (fun w s' z => ?_) fun _ _ x => x
  obtain ⟨z', H', I', rz, qz⟩ := z
  exact SlX.cmpback rz ⟨z', H', I', rz, qz⟩
end L2

set_option Elab.async false
set_option linter.all false
set_option maxRecDepth 100000
set_option maxHeartbeats 1000000
set_option autoImplicit false
namespace Hc
open PySem L2
/-- a row of ints as data -/
def rwP (p : List Int) : PyData := .tuple (p.map PyData.int)
section
variable {K : PySem.W.Frag}
theorem dp_ints {H : Hp} : ∀ p : List Int, DpAll K H (p.map V.int) (p.map PyData.int)
  | [] => .nil
  | x :: p => .cons (.int x) (dp_ints p)
theorem dp_row {H : Hp} {t : Addr} {p : List Int} (e : H t = some (.tup (p.map V.int))) : Dp K H (.ref t) (rwP p) := .tup (SqT.of e) (dp_ints p)
theorem lay_ints : ∀ p : List Int, PyData.canLayAll0 (p.map PyData.int) = true ∧ PyData.depthAll (p.map PyData.int) ≤ 1
  | [] => ⟨rfl, Nat.zero_le _⟩
  | x :: p => by
    obtain ⟨h1, h2⟩ := lay_ints p
    refine ⟨?_, ?_⟩
    · show (true && PyData.canLayAll0 (p.map PyData.int)) = true
      rw [h1]; rfl
    · show max (PyData.depth (.int x)) (PyData.depthAll (p.map PyData.int)) ≤ 1
      have : PyData.depth (.int x) ≤ 1 := by simp [PyData.depth]
      omega
theorem lay_row (p : List Int) : (rwP p).canLay0 = true ∧ (rwP p).depth ≤ 2 := by
  obtain ⟨h1, h2⟩ := lay_ints p
  refine ⟨h1, ?_⟩
  show PyData.depthAll (p.map PyData.int) + 1 ≤ 2
  omega
theorem lay_rows : ∀ L : List (List Int), PyData.canLayAll0 (L.map rwP) = true ∧ PyData.depthAll (L.map rwP) ≤ 2
  | [] => ⟨rfl, Nat.zero_le _⟩
  | x :: p => by
    obtain ⟨h1, h2⟩ := lay_rows p
    obtain ⟨h3, h4⟩ := lay_row x
    refine ⟨?_, ?_⟩
    · show ((rwP x).canLay0 && PyData.canLayAll0 (p.map rwP)) = true
      rw [h1, h3]; rfl
    · show max (rwP x).depth (PyData.depthAll (p.map rwP)) ≤ 2
      omega
theorem shaped_row (p : List Int) : SeqAt.shaped (rwP p) = true := by
  have h := lay_row p
  show ((rwP p).canLay0 && decide ((rwP p).depth ≤ 64)) = true
  rw [h.1, decide_eq_true (by omega)]; rfl
theorem shaped_rows (L : List (List Int)) : SeqAt.shaped (.list (L.map rwP)) = true := by
  have h := lay_rows L
  show (PyData.canLayAll0 (L.map rwP) && decide (PyData.depthAll (L.map rwP) + 1 ≤ 64)) = true
  rw [h.1, decide_eq_true (by omega)]; rfl
theorem first_eqv {d : PyData} : ∀ {ds : List PyData}, (∃ z ∈ ds, PyData.eqv z d = true) → ∃ j z, ds[j]? = some z ∧ PyData.eqv z d = true ∧ ∀ (m : Nat) (z' : PyData), m < j → ds[m]? = some z' → PyData.eqv z' d = false
  | [], h => by obtain ⟨_, h, _⟩ := h; cases h
  | x :: ds, h => by
    cases g : PyData.eqv x d with
    | true => exact ⟨0, x, rfl, g, fun m z' hm => by omega⟩
    | false =>
      obtain ⟨z, hz, e⟩ := h
      have : z ∈ ds := by
        rcases List.mem_cons.mp hz with rfl | hz
        · rw [g] at e; cases e
        · exact hz
      obtain ⟨j, z', h1, h2, h3⟩ := first_eqv (ds := ds) ⟨z, this, e⟩
      refine ⟨j + 1, z', by simpa using h1, h2, fun m z'' hm e => ?_⟩
      cases m with
      | zero =>
        have e : x = z'' := by simpa using e
        rw [← e]; exact g
      | succ m => exact h3 m z'' (by omega) (by simpa using e)
end
end Hc

set_option Elab.async false
set_option linter.all false
set_option maxRecDepth 100000
set_option maxHeartbeats 4000000
set_option autoImplicit false
namespace Hc
open PySem L2
def top (i : Nat) : Stmt := PySem.Challenge.pw_hourcards_k77_whole_least_plan.main.body.getD i (.Pass ⟨0, 0, 0, 0⟩)
structure Df (K : PySem.W.Frag) (mg : Str → Option Value) (x : Str) (st : Stmt) (ps : List Str) : Type where
  f : Addr
  fd : FuncData
  F : Fun K x x st f fd
  g : mg x = some (.ref f)
  b : Binds K fd ps []
abbrev s_is_integer : Stmt := (top 1)
theorem sc_is_integer : FnScope ["thing"] ["thing"] (defScope s_is_integer) := ⟨rfl, rfl, rfl, by decide +kernel, rfl, by decide +kernel, by decide +kernel⟩
abbrev s_is_tuple : Stmt := (top 2)
theorem sc_is_tuple : FnScope ["many", "thing"] ["many", "thing"] (defScope s_is_tuple) := ⟨rfl, rfl, rfl, by decide +kernel, rfl, by decide +kernel, by decide +kernel⟩
abbrev s_are_integers : Stmt := (top 3)
theorem sc_are_integers : FnScope ["many", "thing", "one"] ["many", "thing"] (defScope s_are_integers) := ⟨rfl, rfl, rfl, by decide +kernel, rfl, by decide +kernel, by decide +kernel⟩
abbrev s_are_between : Stmt := (top 4)
theorem sc_are_between : FnScope ["many", "low", "high", "thing", "one"] ["many", "low", "high", "thing"] (defScope s_are_between) := ⟨rfl, rfl, rfl, by decide +kernel, rfl, by decide +kernel, by decide +kernel⟩
abbrev s_is_plan : Stmt := (top 10)
theorem sc_is_plan : FnScope ["thing", "last", "places"] ["thing"] (defScope s_is_plan) := ⟨rfl, rfl, rfl, by decide +kernel, rfl, by decide +kernel, by decide +kernel⟩
abbrev s_are_told_places : Stmt := (top 11)
theorem sc_are_told_places : FnScope ["last", "thing", "place", "after"] ["last", "thing"] (defScope s_are_told_places) := ⟨rfl, rfl, rfl, by decide +kernel, rfl, by decide +kernel, by decide +kernel⟩
abbrev s_check_plan : Stmt := (top 12)
theorem sc_check_plan : FnScope ["plan"] ["plan"] (defScope s_check_plan) := ⟨rfl, rfl, rfl, by decide +kernel, rfl, by decide +kernel, by decide +kernel⟩
abbrev s_plan_gaps : Stmt := (top 13)
theorem sc_plan_gaps : FnScope ["plan", "found", "last", "places", "place"] ["plan"] (defScope s_plan_gaps) := ⟨rfl, rfl, rfl, by decide +kernel, rfl, by decide +kernel, by decide +kernel⟩
abbrev s_least_plan : Stmt := (top 14)
theorem sc_least_plan : FnScope ["last"] [] (defScope s_least_plan) := ⟨rfl, rfl, rfl, by decide +kernel, rfl, by decide +kernel, by decide +kernel⟩
abbrev s_law_hand : Stmt := (top 16)
theorem sc_law_hand : FnScope ["_law_script", "_law_cells", "_law_cell"] ["_law_script"] (defScope s_law_hand) := ⟨rfl, rfl, rfl, by decide +kernel, rfl, by decide +kernel, by decide +kernel⟩
abbrev s_law_draw : Stmt := (top 17)
theorem sc_law_draw : FnScope ["_law_hand_here", "_law_many", "_law_cell", "_law_digit", "_law_number"] ["_law_hand_here", "_law_many"] (defScope s_law_draw) := ⟨rfl, rfl, rfl, by decide +kernel, rfl, by decide +kernel, by decide +kernel⟩
abbrev s_law_flag : Stmt := (top 18)
theorem sc_law_flag : FnScope ["_law_told", "_law_due"] ["_law_told", "_law_due"] (defScope s_law_flag) := ⟨rfl, rfl, rfl, by decide +kernel, rfl, by decide +kernel, by decide +kernel⟩
abbrev s_law_plan : Stmt := (top 19)
theorem sc_law_plan : FnScope ["_law_hand_here", "_law_gaps_here", "_law_plan_here", "_law_length", "_law_told", "_law_place", "_law_needed"] ["_law_hand_here", "_law_gaps_here"] (defScope s_law_plan) := ⟨rfl, rfl, rfl, by decide +kernel, rfl, by decide +kernel, by decide +kernel⟩
abbrev s_law_gaps : Stmt := (top 20)
theorem sc_law_gaps : FnScope ["_law_plan_here", "_law_found", "_law_length", "_law_place"] ["_law_plan_here"] (defScope s_law_gaps) := ⟨rfl, rfl, rfl, by decide +kernel, rfl, by decide +kernel, by decide +kernel⟩
abbrev s_law_all_places : Stmt := (top 21)
theorem sc_law_all_places : FnScope ["_law_length", "_law_found", "_law_place", "_law_later", "_law_told"] ["_law_length"] (defScope s_law_all_places) := ⟨rfl, rfl, rfl, by decide +kernel, rfl, by decide +kernel, by decide +kernel⟩
abbrev s_law : Stmt := (top 22)
theorem sc_law : FnScope ["_law_script", "_law_hand_here", "_law_told", "_law_turn", "_law_length", "_law_rows", "_law_fewest", "_law_other", "_law_k", "_law_row"] ["_law_script"] (defScope s_law) := ⟨rfl, rfl, rfl, by decide +kernel, rfl, by decide +kernel, by decide +kernel⟩
structure Tx (K : PySem.W.Frag) (mg : Str → Option Value) : Type where
  is_integer : Df K mg "is_integer" s_is_integer ["thing"]
  is_tuple : Df K mg "is_tuple" s_is_tuple ["many", "thing"]
  are_integers : Df K mg "are_integers" s_are_integers ["many", "thing"]
  are_between : Df K mg "are_between" s_are_between ["many", "low", "high", "thing"]
  is_plan : Df K mg "is_plan" s_is_plan ["thing"]
  are_told_places : Df K mg "are_told_places" s_are_told_places ["last", "thing"]
  check_plan : Df K mg "check_plan" s_check_plan ["plan"]
  plan_gaps : Df K mg "plan_gaps" s_plan_gaps ["plan"]
  least_plan : Df K mg "least_plan" s_least_plan []
  _law_hand : Df K mg "_law_hand" s_law_hand ["_law_script"]
  _law_draw : Df K mg "_law_draw" s_law_draw ["_law_hand_here", "_law_many"]
  _law_flag : Df K mg "_law_flag" s_law_flag ["_law_told", "_law_due"]
  _law_plan : Df K mg "_law_plan" s_law_plan ["_law_hand_here", "_law_gaps_here"]
  _law_gaps : Df K mg "_law_gaps" s_law_gaps ["_law_plan_here"]
  _law_all_places : Df K mg "_law_all_places" s_law_all_places ["_law_length"]
  law : Df K mg "law" s_law ["_law_script"]
  c_LONGEST_WAY : ∃ t, mg "LONGEST_WAY" = some (.int 8 t)
  n_isinstance : mg "isinstance" = none
  n_int : mg "int" = none
  n_bool : mg "bool" = none
  n_tuple : mg "tuple" = none
  n_len : mg "len" = none
  n_all : mg "all" = none
  n_abs : mg "abs" = none
  n_range : mg "range" = none
  n_zip : mg "zip" = none
  n_enumerate : mg "enumerate" = none
  n_min : mg "min" = none
  n_sorted : mg "sorted" = none

section
variable {P : Program} {w : World} {K : PySem.W.Frag} {mg : Str → Option Value} {base : Heap}
def spThing (g : D → Bool) : Sp := fun vs H Q _ => ∃ (h : Addr) (v : V) (d : D), vs = [v] ∧ Rp H h v d ∧ Q (.bl (g d)) H
theorem ok_is_integer (T : Tx K mg) : FnOk P w K mg base CX0 1 T.is_integer.f T.is_integer.fd ["thing"] (spThing isInt) := by
  refine T.is_integer.F.ok sc_is_integer (fun vs H Q E h => ?_) (fun cdv A outer s H vs Q E hr h => ?_)
  · obtain ⟨_, v, d, rfl, _⟩ := h
    rfl
  · obtain ⟨_, v, d, rfl, r, k⟩ := h
    refine ⟨_, (pss_one (ps_ret (pe_and (pe_callB call_isi (by rfl) T.n_isinstance (by decide +kernel) (pa_cons (pv 0) (pa_cons (pe_bltn (v := .ty "int") (by rfl) T.n_int (by decide +kernel) rfl) pa_nil))) (pe_one (pe_not (pe_callB call_isi (by rfl) T.n_isinstance (by decide +kernel) (pa_cons (pv 0) (pa_cons (pe_bltn (v := .ty "bool") (by rfl) T.n_bool (by decide +kernel) rfl) pa_nil)))))))), ?_⟩
    refine ⟨_, rfl, _, _, _, _, _, rfl, .ty "int", r.ty, kit_ty (kitI d), _, rfl, ?_⟩
    cases e : isIB d with
    | false =>
      refine iteF ?_
      have : isInt d = false := by cases d <;> first | rfl | exact Bool.noConfusion e
      rw [this] at k
      exact k
    | true =>
      refine iteT ?_
      refine ⟨_, rfl, _, _, _, _, _, rfl, .ty "bool", r.ty, kit_ty (kitBo d), _, rfl, ?_⟩
      have : (!isB d) = isInt d := by cases d <;> first | rfl | exact Bool.noConfusion e
      rw [this]
      exact k
def isTupN (n : Int) : D → Bool | .tup ds => decide ((ds.length : Int) = n) | _ => false
def spTupN : Sp := fun vs H Q _ => ∃ (h : Addr) (n : Int) (v : V) (d : D), vs = [.int n, v] ∧ Rp H h v d ∧ Q (.bl (isTupN n d)) H
theorem int_eqd (a b : Int) : decide (V.int a = V.int b) = decide (a = b) := by
  by_cases e : a = b
  · subst e; simp
  · rw [decide_eq_false e, decide_eq_false fun z => e (V.int.inj z)]
theorem ok_is_tuple (T : Tx K mg) : FnOk P w K mg base CX0 1 T.is_tuple.f T.is_tuple.fd ["many", "thing"] spTupN := by
  refine T.is_tuple.F.ok sc_is_tuple (fun vs H Q E h => ?_) (fun cdv A outer s H vs Q E hr h => ?_)
  · obtain ⟨_, n, v, d, rfl, _⟩ := h
    rfl
  · obtain ⟨ha, n, v, d, rfl, r, k⟩ := h
    refine ⟨_, (pss_one (ps_ret (pe_and (pe_callB call_isi (by rfl) T.n_isinstance (by decide +kernel) (pa_cons (pv 1) (pa_cons (pe_bltn (v := .ty "tuple") (by rfl) T.n_tuple (by decide +kernel) rfl) pa_nil))) (pe_one (pe_cmpR op_eq (pe_callB call_len_seq (by rfl) T.n_len (by decide +kernel) (pa_cons (pv 1) pa_nil)) (pv 0) (nomark _)))))), ?_⟩
    refine ⟨_, rfl, _, _, _, _, _, rfl, .ty "tuple", r.ty, kit_ty (kitT d), _, rfl, ?_⟩
    cases r with
    | @tup _ xs ds e z ra =>
      refine iteT ?_
      refine ⟨_, rfl, _, _, rfl, .inr (SqT.of e), _, rfl, rfl, ?_⟩
      rw [int_eqd, ra.len]
      exact k
    | _ => exact iteF k
def spInts : Sp := fun vs H Q _ => ∃ (h : Addr) (n : Int) (v : V) (d : D), vs = [.int n, v] ∧ Rp H h v d ∧ ∀ H', Same H H' → Q (.bl (areInts n d)) H'
theorem areInts_tup (n : Int) (ds : List D) : areInts n (.tup ds) = (decide ((ds.length : Int) = n) && ds.all isInt) := rfl
theorem areBtw_tup (n lo hi : Int) (ds : List D) : areBtw n lo hi (.tup ds) = (decide ((ds.length : Int) = n) && ds.all (isBtw lo hi)) := rfl
theorem map_all (ds : List D) (p : D → Bool) : (ds.map p).all id = ds.all p := by rw [List.all_map]; rfl
theorem ok_are_integers (T : Tx K mg) : FnOk P w K mg base CX0 2 T.are_integers.f T.are_integers.fd ["many", "thing"] spInts := by
  refine T.are_integers.F.ok sc_are_integers (fun vs H Q E h => ?_) (fun cdv A outer s H vs Q E hr h => ?_)
  · obtain ⟨_, n, v, d, rfl, _⟩ := h
    rfl
  · obtain ⟨ha, n, v, d, rfl, r, k⟩ := h
    refine ⟨_, (pss_one (ps_ret (pe_and (pe_call (ok_is_tuple T) (hr.mono (by decide)) rfl T.is_tuple.g T.is_tuple.F.kp T.is_tuple.b .nil pass0 (pa_cons (pv 0) (pa_cons (pv 1) pa_nil))) (pe_one (pe_callB (cr_all rfl) (by rfl) T.n_all (by decide +kernel) (pa_cons (pe_lc (own := [("one", 2)]) (g := (gName 2)) (tt := tYes) rfl sc_are_integers.nd (pi_tup (pv 1)) (blkOk_by (own := [("one", 2)]) (N := ["many", "thing", "one"]) (sc := defScope s_are_integers) (by decide +kernel)) (fun _ _ _ _ _ => (pg_name (i := 2) sc_are_integers.nd rfl (Or.inl rfl))) (fun _ _ _ _ _ => pts_nil) (fun _ _ _ _ _ => (by exact (pe_call (ok_is_integer T) (hr.mono (by decide)) rfl T.is_integer.g T.is_integer.F.kp T.is_integer.b .nil pass0 (pa_cons (pv 2) pa_nil))))) pa_nil)))))), ?_⟩
    refine ⟨_, rfl, _, rfl, ha, n, v, d, rfl, r, _, rfl, ?_⟩
    cases r with
    | @tup _ xs ds e z ra =>
      show if decide ((ds.length : Int) = n) = true then _ else _
      by_cases hn : (ds.length : Int) = n
      · rw [decide_eq_true hn]
        refine iteT ?_
        refine ⟨_, rfl, _, rfl, ⟨_, SqT.of e⟩, fun A hA => all_tup e z ra isInt hA (fun x => rfl) (fun x d H' Q' _ _ rp q => ?_) (fun H' sm sl => ?_)⟩
        · exact ⟨_, rfl, ha, _, _, rfl, rp, q _ (Same.refl _)⟩
        · refine ⟨_, _, rfl, sl, ?_⟩
          rw [map_all]
          have := k H' sm
          rw [areInts_tup, decide_eq_true hn] at this
          exact this
      · rw [decide_eq_false hn]
        refine iteF ?_
        have := k H (Same.refl _)
        rw [areInts_tup, decide_eq_false hn] at this
        exact this
    | _ => exact iteF (k H (Same.refl _))
def spBtws : Sp := fun vs H Q _ => ∃ (h : Addr) (n lo hi : Int) (v : V) (d : D), vs = [.int n, .int lo, .int hi, v] ∧ Rp H h v d ∧ ∀ H', Same H H' → Q (.bl (areBtw n lo hi d)) H'
theorem btw_int (lo hi : Int) (ds : List D) : (ds.all isInt && ds.all (isBtw lo hi)) = ds.all (isBtw lo hi) := by
  cases e : ds.all (isBtw lo hi) with
  | false => rw [Bool.and_false]
  | true =>
    rw [Bool.and_true, List.all_eq_true]
    rw [List.all_eq_true] at e
    intro d hd
    have := e d hd
    cases d <;> first | rfl | exact Bool.noConfusion this
theorem ok_are_between (T : Tx K mg) : FnOk P w K mg base CX0 3 T.are_between.f T.are_between.fd ["many", "low", "high", "thing"] spBtws := by
  refine T.are_between.F.ok sc_are_between (fun vs H Q E h => ?_) (fun cdv A outer s H vs Q E hr h => ?_)
  · obtain ⟨_, n, lo, hi, v, d, rfl, _⟩ := h
    rfl
  · obtain ⟨ha, n, lo, hi, v, d, rfl, r, k⟩ := h
    refine ⟨_, (pss_one (ps_ret (pe_and (pe_call (ok_are_integers T) (hr.mono (by decide)) rfl T.are_integers.g T.are_integers.F.kp T.are_integers.b .nil pass0 (pa_cons (pv 0) (pa_cons (pv 3) pa_nil))) (pe_one (pe_callB (cr_all rfl) (by rfl) T.n_all (by decide +kernel) (pa_cons (pe_lc (own := [("one", 4)]) (g := (gName 4)) (tt := tYes) rfl sc_are_between.nd (pi_tup (pv 3)) (blkOk_by (own := [("one", 4)]) (N := ["many", "low", "high", "thing", "one"]) (sc := defScope s_are_between) (by decide +kernel)) (fun _ _ _ _ _ => (pg_name (i := 4) sc_are_between.nd rfl (Or.inl rfl))) (fun _ _ _ _ _ => pts_nil) (fun _ _ _ _ _ => (by exact (pe_chain op_le op_le (pv 1) (pv 4) (pv 2))))) pa_nil)))))), ?_⟩
    refine ⟨_, rfl, _, rfl, ha, _, _, _, rfl, r, fun H1 s1 => ⟨_, rfl, ?_⟩⟩
    cases e1 : areInts n d with
    | false =>
      refine iteF ?_
      have : areBtw n lo hi d = false := by
        cases d with
        | tup ds =>
          show (decide _ && ds.all (isBtw lo hi)) = false
          rw [← btw_int, ← Bool.and_assoc]
          have e2 : (decide ((ds.length : Int) = n) && ds.all isInt) = false := e1
          rw [e2]; rfl
        | _ => rfl
      have q := k H1 s1
      rw [this] at q
      exact q
    | true =>
      refine iteT ?_
      cases r.same s1 with
      | tup e z ra =>
        refine ⟨_, rfl, _, rfl, ⟨_, SqT.of e⟩, fun A hA => all_tup e z ra (isBtw lo hi) hA (fun x => rfl) (fun x d H' Q' hd _ rp q => ?_) (fun H' sm sl => ?_)⟩
        · have e2 := (Bool.and_eq_true_iff.mp e1).2
          rw [List.all_eq_true] at e2
          have e3 := e2 d hd
          cases rp with
          | int i =>
            refine ⟨_, rfl, _, rfl, _, _, rfl, rfl, _, rfl, ?_⟩
            by_cases h1 : lo ≤ i
            · rw [decide_eq_true h1]
              refine iteT ?_
              refine ⟨_, rfl, _, _, rfl, rfl, ?_⟩
              have : isBtw lo hi (.int i) = decide (i ≤ hi) := by show (decide (lo ≤ i) && decide (i ≤ hi)) = _; rw [decide_eq_true h1]; rfl
              have q2 := q _ (Same.refl _)
              rw [this] at q2
              exact q2
            · rw [decide_eq_false h1]
              refine iteF ?_
              have : isBtw lo hi (.int i) = false := by show (decide (lo ≤ i) && decide (i ≤ hi)) = _; rw [decide_eq_false h1]; rfl
              have q2 := q _ (Same.refl _)
              rw [this] at q2
              exact q2
          | _ => exact Bool.noConfusion e3
        · refine ⟨_, _, rfl, sl, ?_⟩
          rw [map_all]
          have := k H' (s1.trans sm)
          have e4 := (Bool.and_eq_true_iff.mp e1).1
          rw [areBtw_tup, e4] at this
          exact this
      | _ => exact Bool.noConfusion e1
theorem tup_inv {H : Hp} {h : Addr} {v : V} {ds : List D} (r : Rp H h v (.tup ds)) : ∃ a xs, v = .ref a ∧ H a = some (.tup xs) ∧ xs.length ≤ 100000 ∧ RpA H h xs ds := by
  cases r with
  | tup e z ra => exact ⟨_, _, rfl, e, z, ra⟩
theorem int_inv {H : Hp} {h : Addr} {v : V} {i : Int} (r : Rp H h v (.int i)) : v = .int i := by
  cases r; rfl
end
end Hc

set_option Elab.async false
set_option linter.all false
set_option maxRecDepth 100000
set_option maxHeartbeats 1000000
set_option autoImplicit false
namespace Hc
open PySem L2
theorem ps_never {X : Cx} {st : Stmt} : PS X st (fun _ _ _ => False) := ⟨fun _ _ _ _ _ _ h => h.elim⟩
theorem tyes {σ : St} {H : Hp} {A B : Hp → Prop} (h : A H) : tYes σ H (fun b H3 => if b = true then A H3 else B H3) := by
  unfold tYes
  show if true = true then A H else B H
  rw [if_pos rfl]
  exact h
theorem mask {H H' : Hp} {D : Addr} (hD : H D = none) (s : Same H (fun b => if b = D then none else H' b)) : Same H H' := fun b o q => by
  have r := s b o q
  simp only [if_neg (ne_of_none q hD)] at r
  exact r
theorem mask_upd {H H4 : Hp} {D : Addr} {o : HO} (hD : H D = none) (s : Same H H4) : Same H (fun b => if b = D then none else upd H4 D o b) := fun b u z => by
  have nb := ne_of_none z hD
  show (if b = D then none else upd H4 D o b) = _
  rw [if_neg nb, upd_ne nb]
  exact s _ _ z
theorem same_mask {H H' : Hp} {D : Addr} (hD : H D = none) (s : Same H H') : Same H (fun b => if b = D then none else H' b) := fun b u z => by
  have nb := ne_of_none z hD
  show (if b = D then none else H' b) = _
  rw [if_neg nb]
  exact s _ _ z
theorem same_upd0 {H H4 : Hp} {D : Addr} {o : HO} (hD : H D = none) (s : Same H H4) : Same H (upd H4 D o) := fun b u z => by
  rw [upd_ne (ne_of_none z hD)]
  exact s _ _ z
theorem in_nat (r : Nat) : ∀ ns : List Nat, inV (.int (r : Nat)) (ns.map fun j => V.int (j : Nat)) = decide (r ∈ ns)
  | [] => by simp [inV]
  | n :: ns => by
    have ih := in_nat r ns
    have e : inV (.int (r : Nat)) ((n :: ns).map fun j => V.int (j : Nat)) = (((n : Int) == (r : Int)) || inV (.int (r : Nat)) (ns.map fun j => V.int (j : Nat))) := rfl
    rw [e, ih]
    by_cases h : r = n
    · subst h; simp
    · have h2 : ¬ ((n : Int) = (r : Int)) := by omega
      have h3 : ((n : Int) == (r : Int)) = false := by simpa using h2
      rw [h3, Bool.false_or]
      simp [h]
theorem flat_nats : ∀ ns : List Nat, (ns.map fun j => V.int (j : Nat)).all flatV = true
  | [] => rfl
  | n :: ns => by
    rw [List.map_cons, List.all_cons, flat_nats ns]; rfl
/-- for i, x in enumerate(t) -/
theorem for_enumT {K : PySem.W.Frag} {a : Addr} {xs : List V} {g : TG} {tb : TS} {D : Ends} {σ : St} {H : Hp} (Pv : Nat → St → Hp → Prop) (h0 : Pv 0 σ H) (hl : ∀ i σ H, i ≤ xs.length → Pv i σ H → SqT K H a xs)
    (hs : ∀ i x σ T H, xs[i]? = some x → H T = none → Pv i σ H → g (.ref T) σ (upd H T (.tup [.int (i : Nat), x])) fun σ2 H2 => tb { D with nx := Pv (i + 1), ct := Pv (i + 1), bk := D.nx } σ2 H2) (hd : ∀ σ H, Pv xs.length σ H → D.nx σ H) :
    ∃ W : Nat → Nat → St → Hp → Prop, (∃ m, W 0 m σ H) ∧ ∀ i m σ H, W i m σ H →
      ((IteT K a).stop i H ∧ D.nx σ H) ∨ ((IteT K a).go i H ∧ ∃ N : St → Hp → Prop, (∀ σ' H', N σ' H' → ∃ m', m' < m ∧ W (i + 1) m' σ' H') ∧ ∀ x H', (IteT K a).yld i H x H' → g x σ H' fun σ2 H2 => tb { D with nx := N, ct := N, bk := D.nx } σ2 H2) := by
  refine ⟨fun i m σ H => m = xs.length - i ∧ i ≤ xs.length ∧ Pv i σ H, ⟨xs.length, by simp, Nat.zero_le _, h0⟩, ?_⟩
  rintro i m σ H ⟨rfl, hi, p⟩
  have q := hl i σ H hi p
  by_cases hlt : i < xs.length
  · refine .inr ⟨⟨xs, xs[i], q, by simp [hlt]⟩, Pv (i + 1), fun σ' H' p' => ⟨xs.length - (i + 1), by omega, rfl, hlt, p'⟩, fun x H' y => ?_⟩
    obtain ⟨T, x', rfl, hT, rfl, f1⟩ := y
    exact hs i x' σ T _ (f1 xs q) hT p
  · have e : i = xs.length := by omega
    subst e
    exact .inl ⟨⟨xs, q, Nat.le_refl _⟩, hd σ H p⟩
/-- neighbours -/
def adj (R : Int → Int → Bool) (ns : List Int) : Bool := (List.range (ns.length - 1)).all fun j => R (ns.getD j 0) (ns.getD (j + 1) 0)
theorem map_range_all (n : Nat) (f : Nat → Bool) : ((List.range n).map f).all id = (List.range n).all f := by rw [List.all_map]; rfl
theorem getD_map (ns : List Nat) {i : Nat} (h : i < ns.length) : (ns.map fun (j : Nat) => (j : Int)).getD i 0 = (ns[i] : Nat) := by
  rw [List.getD_eq_getElem?_getD, List.getElem?_map, List.getElem?_eq_getElem h]; rfl
theorem sl1 {K : PySem.W.Frag} {H : Hp} {a : Addr} {xs : List V} {Q : VK} (e : H a = some (.tup xs)) (k : ∀ b H', Same H H' → H' b = some (.tup (xs.drop 1)) → Q (.ref b) H') : rSlA K (.ref a) (some 1) none H Q := by
  have s1 : HT.sIx xs.length 0 (some 1) = min 1 xs.length := by
    show (if (1 : Int) < 0 then ((1 : Int) + (xs.length : Int)).toNat else min (1 : Int).toNat xs.length) = _
    rw [if_neg (by decide)]; rfl
  have s2 : HT.sIx xs.length xs.length none = xs.length := rfl
  have cut : cutV xs (some 1) none = xs.drop 1 := by
    unfold cutV
    rw [s1, s2]
    by_cases h : xs.length = 0
    · have : xs = [] := List.eq_nil_of_length_eq_zero h
      subst this; rfl
    · have m : min 1 xs.length = 1 := by omega
      rw [m]
      exact List.take_of_length_le (by rw [List.length_drop]; exact Nat.le_refl _)
  refine ⟨a, xs, rfl, SqT.of e, fun hw => ?_, fun _ p hp => ?_⟩
  · have h0 : xs.length = 0 := by
      rw [s1] at hw; omega
    have : xs = [] := List.eq_nil_of_length_eq_zero h0
    subst this
    exact k a H (Same.refl H) e
  · exact k p _ (same_upd hp) (by rw [upd_same, cut])
/-- [.. for i, x in enumerate(t) ..] -/
theorem lc_enumT {K : PySem.W.Frag} {a : Addr} {xs : List V} {g : TG} {tt : TT} {te : TE} {vs : List Nat} {σ : St} {H1 : Hp} {D : Addr} {Qd : Hp → Prop} (Pv : Nat → Hp → Prop) (h0 : Pv 0 (upd H1 D (.lst [])))
    (hl : ∀ i H, Pv i H → SqT K H a xs)
    (hs : ∀ (i : Nat) (x : V) (T : Addr) (H : Hp), xs[i]? = some x → H T = none → Pv i H → g (.ref T) (wipe σ vs) (upd H T (.tup [.int (i : Nat), x])) fun σ2 H2 => wipe σ2 vs = wipe σ vs ∧ tt σ2 H2 fun b H3 =>
      if b = true then te σ2 H3 fun y H4 => ∃ acc, H4 D = some (.lst acc) ∧ acc.length < sizeLine ∧ Pv (i + 1) (upd H4 D (.lst (acc ++ [y]))) else Pv (i + 1) H3) (hd : ∀ H, Pv xs.length H → Qd H) :
    ∃ W : Nat → Nat → Hp → Prop, (∃ m, W 0 m (upd H1 D (.lst []))) ∧ ∀ i m H, W i m H →
      ((IteT K a).stop i H ∧ Qd H) ∨ ((IteT K a).go i H ∧ ∃ Nx : Hp → Prop, (∀ H', Nx H' → ∃ m', m' < m ∧ W (i + 1) m' H') ∧ ∀ x H', (IteT K a).yld i H x H' → g x (wipe σ vs) H' fun σ2 H2 => wipe σ2 vs = wipe σ vs ∧ tt σ2 H2 fun b H3 =>
        if b = true then te σ2 H3 fun y H4 => ∃ acc, H4 D = some (.lst acc) ∧ acc.length < sizeLine ∧ Nx (upd H4 D (.lst (acc ++ [y]))) else Nx H3) := by
  refine ⟨fun i m H => m = xs.length - i ∧ i ≤ xs.length ∧ Pv i H, ⟨_, rfl, Nat.zero_le _, h0⟩, ?_⟩
  rintro i m H ⟨rfl, hi, p⟩
  have q := hl i H p
  by_cases hlt : i < xs.length
  · refine .inr ⟨⟨xs, _, q, List.getElem?_eq_getElem hlt⟩, Pv (i + 1), fun H' p' => ⟨xs.length - (i + 1), by omega, rfl, hlt, p'⟩, fun v H' y => ?_⟩
    obtain ⟨T, x', rfl, hT, rfl, f1⟩ := y
    exact hs i x' T H (f1 xs q) hT p
  · have e : i = xs.length := by omega
    subst e
    exact .inl ⟨⟨xs, q, Nat.le_refl _⟩, hd H p⟩
/-- [r(a, b) for a, b in zip(t, t[1:])] over a tuple of numbers -/
theorem lc_next {K : PySem.W.Frag} {H H0 : Hp} {a b A : Addr} {ns : List Nat} {i1 i2 : Nat} {te : TE} {vs : List Nat} {σ : St} {Qd : Hp → Prop} (R : Int → Int → Bool) (s0 : Same H0 H) (hA : H A = none)
    (e1 : H a = some (.tup (ns.map fun j => V.int (j : Nat)))) (e2 : H b = some (.tup ((ns.map fun j => V.int (j : Nat)).drop 1))) (hz : ns.length ≤ 100000)
    (hw : ∀ x y, wipe (((wipe σ vs).set i1 (some x)).set i2 (some y)) vs = wipe σ vs)
    (hs : ∀ (i : Nat) (hi : i + 1 < ns.length) H' (Q : VK), Same H H' → (∀ H4, Same H' H4 → Q (.bl (R (ns[i]'(by omega) : Nat) (ns[i + 1] : Nat))) H4) → te (((wipe σ vs).set i1 (some (.int (ns[i]'(by omega) : Nat)))).set i2 (some (.int (ns[i + 1] : Nat)))) H' Q)
    (hd : ∀ H', Same H0 H' → SqL K H' A (((List.range (ns.length - 1)).map fun j => R ((ns.map fun (j : Nat) => (j : Int)).getD j 0) ((ns.map fun (j : Nat) => (j : Int)).getD (j + 1) 0)).map V.bl) → Qd H') :
    ∃ W : Nat → Nat → Hp → Prop, (∃ m, W 0 m (upd H A (.lst []))) ∧ ∀ i m H, W i m H →
      ((RZ.ItzT K a b).stop i H ∧ Qd H) ∨ ((RZ.ItzT K a b).go i H ∧ ∃ Nx : Hp → Prop, (∀ H', Nx H' → ∃ m', m' < m ∧ W (i + 1) m' H') ∧ ∀ x H', (RZ.ItzT K a b).yld i H x H' → (gTup K 2 (gCons (gName i1) (gCons (gName i2) gNil))) x (wipe σ vs) H' fun σ2 H2 => wipe σ2 vs = wipe σ vs ∧ tYes σ2 H2 fun b H3 =>
        if b = true then te σ2 H3 fun y H4 => ∃ acc, H4 A = some (.lst acc) ∧ acc.length < sizeLine ∧ Nx (upd H4 A (.lst (acc ++ [y]))) else Nx H3) := by
  refine lc_zipT (xs := ns.map fun j => V.int (j : Nat)) (ys := (ns.map fun j => V.int (j : Nat)).drop 1) (fun i H' => Same H (fun b => if b = A then none else H' b) ∧ H' A = some (.lst (((List.range i).map fun j => R ((ns.map fun (j : Nat) => (j : Int)).getD j 0) ((ns.map fun (j : Nat) => (j : Int)).getD (j + 1) 0)).map V.bl)))
    ⟨fun b o q => ?_, upd_same⟩ (fun i H' ⟨s, _⟩ => ?_) ?_ ?_
  · have n := ne_of_none q hA
    show (if b = A then none else upd H A _ b) = _
    rw [if_neg n, upd_ne n]; exact q
  · have q1 := s _ _ e1
    have q2 := s _ _ e2
    simp only [if_neg (ne_of_none e1 hA)] at q1
    simp only [if_neg (ne_of_none e2 hA)] at q2
    exact ⟨SqT.of q1, SqT.of q2⟩
  · intro i x y TT H' hx hy ⟨s, hacc⟩ hT
    have sm : Same H H' := fun b o q => by
      have r := s b o q
      simp only [if_neg (ne_of_none q hA)] at r
      exact r
    have hi : i + 1 < ns.length := by
      have := (List.getElem?_eq_some_iff.mp hy).1
      rw [List.length_drop, List.length_map] at this
      omega
    have ex : x = .int (ns[i]'(by omega) : Nat) := by
      rw [List.getElem?_map, List.getElem?_eq_getElem (by omega)] at hx
      exact (Option.some.inj hx).symm
    have ey : y = .int (ns[i + 1] : Nat) := by
      rw [List.getElem?_drop, List.getElem?_map, show 1 + i = i + 1 by omega, List.getElem?_eq_getElem hi] at hy
      exact (Option.some.inj hy).symm
    subst ex ey
    have sT : Same H' (upd H' TT (.tup [.int (ns[i]'(by omega) : Nat), .int (ns[i + 1] : Nat)])) := same_upd hT
    refine ⟨TT, _, rfl, SqT.of upd_same, rfl, _, _, rfl, _, _, rfl, rfl, hw _ _, tyes (hs i hi _ _ (sm.trans sT) fun H4 s4 => ⟨_, s4 _ _ (sT _ _ hacc), ?_, fun b o q => ?_, ?_⟩)⟩
    · rw [List.length_map, List.length_map, List.length_range]; exact line_lt (by omega)
    · have n := ne_of_none q hA
      show (if b = A then none else upd H4 A _ b) = _
      rw [if_neg n, upd_ne n]
      exact s4 _ _ (sT _ _ (sm _ _ q))
    · rw [upd_same, List.range_succ, List.map_append, List.map_append, List.map_cons, List.map_nil, List.map_cons, List.map_nil, getD_map ns (by omega), getD_map ns hi]
  · intro H' ⟨s, hacc⟩
    have sm : Same H H' := fun b o q => by
      have r := s b o q
      simp only [if_neg (ne_of_none q hA)] at r
      exact r
    have m : min (ns.map fun j => V.int (j : Nat)).length ((ns.map fun j => V.int (j : Nat)).drop 1).length = ns.length - 1 := by
      rw [List.length_drop, List.length_map]; omega
    rw [m] at hacc
    exact hd H' (s0.trans sm) (SqL.of hacc)
end Hc

set_option Elab.async false
set_option linter.all false
set_option maxRecDepth 100000
set_option maxHeartbeats 1000000
set_option autoImplicit false
namespace Hc
open PySem L2
def rowD (r : List Nat) : D := .tup (r.map fun j => .int (j : Nat))
def planD (rows : List (List Nat)) : D := .tup (rows.map rowD)
def rowV (r : List Nat) : List V := r.map fun j => .int (j : Nat)
theorem row_inv {H : Hp} {h : Addr} : ∀ {r : List Nat} {xs : List V}, RpA H h xs (r.map fun j => D.int (j : Nat)) → xs = rowV r
  | [], _, .nil => rfl
  | j :: r, _, .cons a q => by
    cases a
    rw [row_inv (r := r) q]; rfl
theorem rp_row {H : Hp} {h : Addr} {v : V} {r : List Nat} (p : Rp H h v (rowD r)) : ∃ a, v = .ref a ∧ H a = some (.tup (rowV r)) ∧ (rowV r).length ≤ 100000 := by
  obtain ⟨a, xs, rfl, e, z, q⟩ := tup_inv p
  rw [row_inv q] at e z
  exact ⟨a, rfl, e, z⟩
theorem row_nats {H : Hp} {h : Addr} : ∀ r : List Nat, RpA H h (rowV r) (r.map fun j => D.int (j : Nat))
  | [] => .nil
  | j :: r => .cons (.int j) (row_nats r)
theorem row_rp {H : Hp} {h a : Addr} {r : List Nat} (e : H a = some (.tup (rowV r))) (z : r.length ≤ 1000) : Rp H h (.ref a) (rowD r) :=
  .tup e (by unfold rowV; rw [List.length_map]; omega) (row_nats r)
theorem rows_at {H : Hp} {h : Addr} {rows : List (List Nat)} {xs : List V} (q : RpA H h xs (rows.map rowD)) {i : Nat} {x : V} (hx : xs[i]? = some x) :
    ∃ r, rows[i]? = some r ∧ Rp H h x (rowD r) := by
  obtain ⟨d, h1, h2⟩ := q.get hx
  rw [List.getElem?_map] at h1
  cases g : rows[i]? with
  | none => rw [g] at h1; cases h1
  | some r => rw [g] at h1; cases h1; exact ⟨r, rfl, h2⟩
def toldOk (last : Nat) (r : List Nat) : Bool := r.all (fun j => decide (j ≤ last)) && decide (last ∈ r) && adj (fun a b => decide (a < b)) (r.map fun (j : Nat) => (j : Int))
def planOk (rows : List (List Nat)) : Bool := decide (rows.length = 8) && (List.range rows.length).all fun i => toldOk i (rows.getD i [])
theorem btw_nats (last : Nat) : ∀ r : List Nat, (r.map fun j => D.int (j : Nat)).all (isBtw 0 (last : Int)) = r.all (fun j => decide (j ≤ last))
  | [] => rfl
  | j :: r => by
    rw [List.map_cons, List.all_cons, List.all_cons, btw_nats last r]
    have : isBtw 0 (last : Int) (.int (j : Nat)) = decide (j ≤ last) := by
      show (decide ((0 : Int) ≤ (j : Nat)) && decide (((j : Nat) : Int) ≤ (last : Int))) = _
      rw [decide_eq_true (by omega), Bool.true_and]
      by_cases h : j ≤ last
      · rw [decide_eq_true h, decide_eq_true (by omega)]
      · rw [decide_eq_false h, decide_eq_false (by omega)]
    rw [this]
theorem btw_row (last : Nat) (r : List Nat) : areBtw (r.length : Int) 0 (last : Int) (rowD r) = r.all (fun j => decide (j ≤ last)) := by
  unfold rowD
  rw [areBtw_tup, btw_nats, List.length_map, decide_eq_true rfl, Bool.true_and]
section
variable {P : Program} {w : World} {K : PySem.W.Frag} {mg : Str → Option Value} {base : Heap}
def spTold : Sp := fun vs H Q _ => ∃ (h : Addr) (last : Nat) (v : V) (r : List Nat), vs = [.int (last : Nat), v] ∧ Rp H h v (rowD r) ∧ r.length ≤ 1000 ∧ ∀ H', Same H H' → Q (.bl (toldOk last r)) H'
theorem ok_are_told_places (T : Tx K mg) : FnOk P w K mg base CX0 4 T.are_told_places.f T.are_told_places.fd ["last", "thing"] spTold := by
  refine T.are_told_places.F.ok sc_are_told_places (fun vs H Q E h => ?_) (fun cdv A outer s H vs Q E hr h => ?_)
  · obtain ⟨_, _, _, _, rfl, _⟩ := h
    rfl
  · obtain ⟨h, last, v, r, rfl, rp, rl, k⟩ := h
    refine ⟨_, (pss_one (ps_ret (pe_and (pe_callB call_isi (by rfl) T.n_isinstance (by decide +kernel) (pa_cons (pv 1) (pa_cons (pe_bltn (v := .ty "tuple") (by rfl) T.n_tuple (by decide +kernel) rfl) pa_nil))) (pe_and (pe_call (ok_are_between T) (hr.mono (by decide)) rfl T.are_between.g T.are_between.F.kp T.are_between.b .nil pass0 (pa_cons (pe_callB call_len_seq (by rfl) T.n_len (by decide +kernel) (pa_cons (pv 1) pa_nil)) (pa_cons pe_int (pa_cons (pv 0) (pa_cons (pv 1) pa_nil))))) (pe_and (pe_cmpR op_in_seq (pv 0) (pv 1) (by rfl)) (pe_one (pe_callB (cr_all rfl) (by rfl) T.n_all (by decide +kernel) (pa_cons (pe_lc (own := [("place", 2), ("after", 3)]) (g := (gTup K 2 (gCons (gName 2) (gCons (gName 3) gNil)))) (tt := tYes) rfl sc_are_told_places.nd (RZ.pi_zipA (by rfl) T.n_zip (pa_cons (pv 1) (pa_cons (pe_slice sl_tupA (pv 1) (po_some pe_int) po_none) pa_nil))) (blkOk_by (own := [("place", 2), ("after", 3)]) (N := ["last", "thing", "place", "after"]) (sc := defScope s_are_told_places) (by decide +kernel)) (fun _ _ _ _ _ => (pg_tup (by rfl) (pgs_cons (pg_name (i := 2) sc_are_told_places.nd rfl (Or.inl rfl)) (pgs_cons (pg_name (i := 3) sc_are_told_places.nd rfl (Or.inl rfl)) pgs_nil)))) (fun _ _ _ _ _ => pts_nil) (fun _ _ _ _ _ => (by exact (pe_cmpR op_lt (pv 2) (pv 3) (nomark _))))) pa_nil)))))))), ?_⟩
    refine ⟨_, rfl, _, _, _, _, _, rfl, .ty "tuple", rp.ty, kit_ty (kitT _), _, rfl, iteT ?_⟩
    have rp0 := rp
    obtain ⟨a, rfl, e, z⟩ := rp_row rp
    have lv : (rowV r).length = r.length := by unfold rowV; rw [List.length_map]
    refine ⟨_, rfl, _, _, rfl, .inr (SqT.of e), _, rfl, _, rfl, h, _, _, _, _, _, rfl, rp0, fun H1 s1 => ⟨_, rfl, ?_⟩⟩
    rw [lv, btw_row]
    cases g1 : r.all (fun j => decide (j ≤ last)) with
    | false =>
      refine iteF ?_
      have := k H1 s1
      unfold toldOk at this
      rw [g1] at this
      exact this
    | true =>
    refine iteT ⟨_, rfl, _, rfl, a, rowV r, rfl, .inr (SqT.of (s1 _ _ e)), rfl, flat_nats r, _, rfl, ?_⟩
    show if inV (.int (last : Nat)) (rowV r) = true then _ else _
    rw [show inV (.int (last : Nat)) (rowV r) = decide (last ∈ r) from in_nat last r]
    cases g2 : decide (last ∈ r) with
    | false =>
      refine iteF ?_
      have := k H1 s1
      unfold toldOk at this
      rw [g1, g2] at this
      exact this
    | true =>
    refine iteT ⟨_, rfl, _, rfl, _, rfl, ?_⟩
    delta tNoPart
    refine sl1 (s1 _ _ e) fun b H2 s2 eb => ?_
    refine ⟨_, _, _, _, rfl, .inr ⟨SqT.of (s2 _ _ (s1 _ _ e)), SqT.of eb, fun A2 hA2 => lc_next (fun a b => decide (a < b)) (s1.trans s2) hA2 (s2 _ _ (s1 _ _ e)) eb (by omega) (fun x y => rfl) (fun i hi H3 Q' s3 q => ?_) (fun H3 s3 sl3 => ?_)⟩⟩
    · exact ⟨_, rfl, _, rfl, _, _, rfl, rfl, q _ (Same.refl _)⟩
    · refine ⟨_, _, rfl, sl3, ?_⟩
      rw [map_range_all]
      have := k H3 s3
      unfold toldOk adj at this
      rw [g1, g2, List.length_map] at this
      exact this
def spPlan : Sp := fun vs H Q _ => ∃ (h : Addr) (v : V) (rows : List (List Nat)), vs = [v] ∧ Rp H h v (planD rows) ∧ rows.length ≤ 1000 ∧ (∀ r ∈ rows, r.length ≤ 1000) ∧ ∀ H', Same H H' → Q (.bl (planOk rows)) H'
theorem ok_is_plan (T : Tx K mg) : FnOk P w K mg base CX0 5 T.is_plan.f T.is_plan.fd ["thing"] spPlan := by
  refine T.is_plan.F.ok sc_is_plan (fun vs H Q E h => ?_) (fun cdv A outer s H vs Q E hr h => ?_)
  · obtain ⟨_, _, _, rfl, _⟩ := h
    rfl
  · obtain ⟨h, v, rows, rfl, rp, rl, rr, k⟩ := h
    refine ⟨_, (pss_one (ps_ret (pe_and (pe_call (ok_is_tuple T) (hr.mono (by decide)) rfl T.is_tuple.g T.is_tuple.F.kp T.is_tuple.b .nil pass0 (pa_cons (pe_glob (v := .int 8) rfl T.c_LONGEST_WAY.choose_spec ⟨_, rfl⟩) (pa_cons (pv 0) pa_nil))) (pe_one (pe_callB (cr_all rfl) (by rfl) T.n_all (by decide +kernel) (pa_cons (pe_lc (own := [("last", 1), ("places", 2)]) (g := (gTup K 2 (gCons (gName 1) (gCons (gName 2) gNil)))) (tt := tYes) rfl sc_is_plan.nd (pi_enumT (by rfl) T.n_enumerate (pa_cons (pv 0) pa_nil)) (blkOk_by (own := [("last", 1), ("places", 2)]) (N := ["thing", "last", "places"]) (sc := defScope s_is_plan) (by decide +kernel)) (fun _ _ _ _ _ => (pg_tup (by rfl) (pgs_cons (pg_name (i := 1) sc_is_plan.nd rfl (Or.inl rfl)) (pgs_cons (pg_name (i := 2) sc_is_plan.nd rfl (Or.inl rfl)) pgs_nil)))) (fun _ _ _ _ _ => pts_nil) (fun _ _ _ _ _ => (by exact (pe_call (ok_are_told_places T) (hr.mono (by decide)) rfl T.are_told_places.g T.are_told_places.F.kp T.are_told_places.b .nil pass0 (pa_cons (pv 1) (pa_cons (pv 2) pa_nil)))))) pa_nil)))))), ?_⟩
    refine ⟨_, rfl, h, _, _, _, rfl, rp, _, rfl, ?_⟩
    have e0 : isTupN 8 (planD rows) = decide (rows.length = 8) := by
      unfold planD isTupN
      simp only [List.length_map]
      by_cases h8 : rows.length = 8
      · rw [decide_eq_true h8, decide_eq_true (by omega)]
      · rw [decide_eq_false h8, decide_eq_false (by omega)]
    rw [e0]
    cases g1 : decide (rows.length = 8) with
    | false =>
      refine iteF ?_
      have := k H (Same.refl H)
      unfold planOk at this
      rw [g1] at this
      exact this
    | true =>
    obtain ⟨a, xs, rfl, e, z, q⟩ := tup_inv rp
    have lx : xs.length = rows.length := by rw [q.len, List.length_map]
    refine iteT ⟨_, rfl, _, _, rfl, SqT.of e, fun D hD => ?_⟩
    refine lc_enumT (K := K) (a := a) (xs := xs) (fun i H' => Same H (fun b => if b = D then none else H' b) ∧ H' D = some (.lst (((List.range i).map fun i => toldOk i (rows.getD i [])).map V.bl)))
      ⟨mask_upd hD (Same.refl _), upd_same⟩ (fun i H' ⟨s, _⟩ => SqT.of (mask hD s _ _ e)) ?_ ?_
    · rintro i x TT H' hx hT ⟨s, hd⟩
      have sm := mask hD s
      obtain ⟨r, hr', rp1⟩ := rows_at q hx
      have ri : i < xs.length := (List.getElem?_eq_some_iff.mp hx).1
      have sT : Same H' (upd H' TT (.tup [.int (i : Nat), x])) := same_upd hT
      refine ⟨TT, _, rfl, SqT.of upd_same, rfl, _, _, rfl, _, _, rfl, rfl, rfl, tyes ⟨_, rfl, _, rfl, h, i, _, r, rfl, rp1.same (sm.trans sT), rr _ (List.mem_of_getElem? hr'), fun H4 s4 => ⟨_, s4 _ _ (sT _ _ hd), ?_, mask_upd hD (sm.trans (sT.trans s4)), ?_⟩⟩⟩
      · rw [List.length_map, List.length_map, List.length_range]; exact line_lt (by omega)
      · rw [upd_same, List.range_succ, List.map_append, List.map_append, List.map_cons, List.map_nil, List.map_cons, List.map_nil]
        have : rows.getD i [] = r := by rw [List.getD_eq_getElem?_getD, hr']; rfl
        rw [this]
    · rintro H' ⟨s, hd⟩
      refine ⟨_, _, rfl, SqL.of hd, ?_⟩
      rw [map_range_all, lx]
      have := k H' (mask hD s)
      unfold planOk at this
      rw [g1] at this
      exact this
def spCheck : Sp := fun vs H Q _ => ∃ (h : Addr) (v : V) (rows : List (List Nat)), vs = [v] ∧ Rp H h v (planD rows) ∧ rows.length ≤ 1000 ∧ (∀ r ∈ rows, r.length ≤ 1000) ∧ planOk rows = true ∧ ∀ H', Same H H' → Q .non H'
theorem ok_check_plan (T : Tx K mg) : FnOk P w K mg base CX0 6 T.check_plan.f T.check_plan.fd ["plan"] spCheck := by
  refine T.check_plan.F.ok sc_check_plan (fun vs H Q E h => ?_) (fun cdv A outer s H vs Q E hr h => ?_)
  · obtain ⟨_, _, _, rfl, _⟩ := h
    rfl
  · obtain ⟨h, v, rows, rfl, rp, rl, rr, ok, k⟩ := h
    refine ⟨_, (pss_one (ps_if (pt_not (pt_val (pe_call (ok_is_plan T) (hr.mono (by decide)) rfl T.is_plan.g T.is_plan.F.kp T.is_plan.b .nil pass0 (pa_cons (pv 0) pa_nil))))
      (pss_one ps_never)
      pss_nil)), ?_⟩
    refine ⟨_, rfl, h, _, _, rfl, rp, rl, rr, fun H' s => ⟨_, rfl, ?_⟩⟩
    rw [ok]
    exact iteF (k H' s)
/-- no two silent places one behind the other -/
def noGap (rows : List (List Nat)) : Prop := ∀ i r, rows[i]? = some r → ∀ j < i, j ∈ r ∨ j + 1 ∈ r
def spGaps : Sp := fun vs H Q _ => ∃ (h : Addr) (v : V) (rows : List (List Nat)), vs = [v] ∧ Rp H h v (planD rows) ∧ rows.length ≤ 1000 ∧ (∀ r ∈ rows, r.length ≤ 1000) ∧ planOk rows = true ∧ noGap rows ∧ ∀ p H', Same H H' → H p = none → H' p = some (.lst []) → Q (.ref p) H'
theorem ok_plan_gaps (T : Tx K mg) : FnOk P w K mg base CX0 7 T.plan_gaps.f T.plan_gaps.fd ["plan"] spGaps := by
  refine T.plan_gaps.F.ok sc_plan_gaps (fun vs H Q E h => ?_) (fun cdv A outer s H vs Q E hr h => ?_)
  · obtain ⟨_, _, _, rfl, _⟩ := h
    rfl
  · obtain ⟨h, v, rows, rfl, rp, rl, rr, ok, ng, k⟩ := h
    refine ⟨_, (pss_cons (ps_expr (pe_call (ok_check_plan T) (hr.mono (by decide)) rfl T.check_plan.g T.check_plan.F.kp T.check_plan.b .nil pass0 (pa_cons (pv 0) pa_nil)))
      (pss_cons (ps_set (i := 1) sc_plan_gaps.nd rfl (Or.inl rfl) (pe_lst pa_nil))
      (pss_cons (ps_for PassesOwn.never rfl (pi_enumT (by rfl) T.n_enumerate (pa_cons (pv 0) pa_nil)) (pg_tup (by rfl) (pgs_cons (pg_name (i := 2) sc_plan_gaps.nd rfl (Or.inr rfl)) (pgs_cons (pg_name (i := 3) sc_plan_gaps.nd rfl (Or.inr rfl)) pgs_nil)))
      (pss_one (ps_aug (i := 1) sc_plan_gaps.nd rfl (Or.inl rfl) (by exact (pe_lc (own := [("place", 4)]) (g := (gName 4))  (tt := (tAnd (tTest (tOp (rIn K true) (tVar 4) (tVar 3))) (tTest (tOp (rIn K true) (tOp (rI0 fun i j => .int (i + j)) (tVar 4) (tC (.int 1))) (tVar 3))))) rfl sc_plan_gaps.nd (pi_range1 (by rfl) T.n_range (pa_cons (pv 2) pa_nil)) (blkOk_by (own := [("place", 4)]) (N := ["plan", "found", "last", "places", "place"]) (sc := defScope s_plan_gaps) (by decide +kernel)) (fun _ _ _ _ _ => (pg_name (i := 4) sc_plan_gaps.nd rfl (Or.inl rfl))) (fun _ _ _ _ _ => (pts_one (by exact (PW.pt (pw_and (pt_cmpR op_notIn_seq (pv 4) (pv 3) (by rfl)) (pw_and1 (pt_cmpR op_notIn_seq (pe_op op_add (pv 4) pe_int) (pv 3) (by rfl)))))))) (fun _ _ _ _ _ => (by exact (pe_tup (pa_cons (pe_op op_add (pv 2) pe_int) (pa_cons (pv 4) pa_nil))))))) iop_ext)))
      (pss_one (ps_ret (pv 1)))))), ?_⟩
    refine ⟨_, rfl, h, _, _, rfl, rp, rl, rr, ok, fun H0 s0 => ?_⟩
    refine ⟨by show 0 ≤ sizeLine; decide, fun p hp => ?_⟩
    have hp0 : H p = none := by
      cases z : H p with
      | none => rfl
      | some o => rw [s0 _ _ z] at hp; cases hp
    obtain ⟨a, xs, rfl, e, z, q⟩ := tup_inv rp
    have lx : xs.length = rows.length := by rw [q.len, List.length_map]
    refine ⟨_, rfl, a, xs, rfl, SqT.of (same_upd hp _ _ (s0 _ _ e)), for_enumT (K := K) (a := a) (xs := xs) (fun i σ' H' => ∃ l x y, σ' = [some (.ref a), some (.ref p), l, x, y] ∧ Same H H' ∧ H' p = some (.lst []))
      ⟨none, none, none, rfl, s0.trans (same_upd hp), upd_same⟩ (fun i σ' H' _ ⟨_, _, _, _, s, _⟩ => SqT.of (s _ _ e)) ?_ ?_⟩
    · rintro i x σ' TT H' hx hT ⟨l, x', y', rfl, s, hd⟩
      obtain ⟨r, hr', rp1⟩ := rows_at q hx
      have ri : i < xs.length := (List.getElem?_eq_some_iff.mp hx).1
      have sT : Same H' (upd H' TT (.tup [.int (i : Nat), x])) := same_upd hT
      obtain ⟨b, rfl, eb, zb⟩ := rp_row (rp1.same (s.trans sT))
      have hd1 := sT _ _ hd
      have s1 := s.trans sT
      refine ⟨TT, _, rfl, SqT.of upd_same, rfl, _, _, rfl, _, _, rfl, rfl, ?_⟩
      generalize upd H' TT (.tup [.int (i : Nat), V.ref b]) = H1 at sT eb hd1 s1 ⊢
      refine ⟨_, rfl, _, rfl, (i : Nat), rfl, by omega, by omega, fun D hD => ?_⟩
      have nDp : p ≠ D := ne_of_none hd1 hD
      refine lc_range (lo := 0) (n := i) (fun _ H2 => Same H1 (fun b => if b = D then none else H2 b) ∧ H2 D = some (.lst [])) ⟨mask_upd hD (Same.refl _), upd_same⟩ ?_ ?_
      · rintro j H2 hj ⟨s2, hd2⟩
        have sm := mask hD s2
        refine ⟨rfl, _, rfl, _, rfl, b, rowV r, rfl, .inr (SqT.of (sm _ _ eb)), rfl, flat_nats r, _, rfl, ?_⟩
        have e1 : inV (.int (0 + ((j : Nat) : Int))) (rowV r) = decide (j ∈ r) := by rw [Int.zero_add]; exact in_nat j r
        have e2 : inV (.int (0 + ((j : Nat) : Int) + 1)) (rowV r) = decide (j + 1 ∈ r) := by
          rw [show (0 : Int) + ((j : Nat) : Int) + 1 = ((j + 1 : Nat) : Int) by omega]
          exact in_nat (j + 1) r
        show if (!inV (.int (0 + ((j : Nat) : Int))) (rowV r)) = true then _ else _
        rw [e1]
        cases g1 : decide (j ∈ r) with
        | true => exact iteF (iteF ⟨s2, hd2⟩)
        | false =>
          refine iteT ⟨_, rfl, _, _, rfl, rfl, _, rfl, b, rowV r, rfl, .inr (SqT.of (sm _ _ eb)), rfl, flat_nats r, _, rfl, ?_⟩
          show if (!inV (.int (0 + ((j : Nat) : Int) + 1)) (rowV r)) = true then _ else _
          rw [e2]
          rcases ng i r hr' j hj with g | g
          · exact absurd g (of_decide_eq_false g1)
          · rw [decide_eq_true g]
            exact iteF ⟨s2, hd2⟩
      · rintro H2 ⟨s2, hd2⟩
        have sm := mask hD s2
        refine ⟨p, D, [], [], rfl, rfl, sm _ _ hd1, hd2, by show 0 ≤ sizeLine; decide, _, _, _, rfl, ?_, upd_same⟩
        exact same_upd0 hp0 (s1.trans sm)
    · rintro σ' H' ⟨l, x', y', rfl, s, hd⟩
      exact ⟨_, rfl, k p H' s hp0 hd⟩
end
end Hc

set_option Elab.async false
set_option linter.all false
set_option maxRecDepth 100000
set_option maxHeartbeats 1000000
set_option autoImplicit false
namespace Hc
open PySem L2
theorem del_upd {H : Hp} {p : Addr} {o : HO} : del (upd H p o) p = del H p := by
  funext b
  by_cases z : b = p
  · subst z; rw [del_same, del_same]
  · rw [del_ne z, del_ne z, upd_ne z]
theorem del_sub {H : Hp} {p : Addr} : Same (del H p) H := fun b o e => by
  by_cases z : b = p
  · subst z; rw [del_same] at e; cases e
  · rw [del_ne z] at e; exact e
theorem del_new {H : Hp} {p q : Addr} {o : HO} (hq : H q = none) : Same (del H p) (del (upd H q o) p) := fun b u e => by
  by_cases z : b = p
  · subst z; rw [del_same] at e; cases e
  · rw [del_ne z] at e ⊢
    rw [upd_ne (ne_of_none e hq)]; exact e
theorem Same.del {p : Addr} {H H' : Hp} (k : Same H H') : Same (L2.del H p) (L2.del H' p) := fun b o e => by
  by_cases z : b = p
  · subst z; rw [del_same] at e; cases e
  · rw [del_ne z] at e ⊢; exact k _ _ e
/-- every other place, from the last one back -/
def leastRow (l : Nat) : List Nat := (List.range ((l + 2) / 2)).map fun k => l % 2 + 2 * k
def leastM : List (List Nat) := (List.range 8).map leastRow
theorem rg_least : ∀ l, l < 8 → RgC ((l % 2 : Nat) : Int) ((l : Int) + 1) 2 ((l + 2) / 2) := by
  unfold RgC
  decide
theorem rgC_row (l : Nat) : rgC ((l % 2 : Nat) : Int) 2 ((l + 2) / 2) = rowV (leastRow l) := by
  unfold rgC rowV leastRow
  rw [List.map_map]
  refine List.map_congr_left fun k _ => ?_
  show V.int _ = V.int _
  congr 1
  show ((l % 2 : Nat) : Int) + (k : Nat) * 2 = ((l % 2 + 2 * k : Nat) : Int)
  omega
section
variable {P : Program} {w : World} {K : PySem.W.Frag} {mg : Str → Option Value} {base : Heap}
def spLeast : Sp := fun vs H Q _ => ∃ h : Addr, vs = [] ∧ ∀ p H', Same H H' → Rp H' h (.ref p) (planD leastM) → Q (.ref p) H'
theorem ok_least_plan (T : Tx K mg) : FnOk P w K mg base CX0 1 T.least_plan.f T.least_plan.fd [] spLeast := by
  refine T.least_plan.F.ok sc_least_plan (fun vs H Q E h => ?_) (fun cdv A outer s H vs Q E hr h => ?_)
  · obtain ⟨_, rfl, _⟩ := h
    rfl
  · obtain ⟨h, rfl, k⟩ := h
    refine ⟨_, (pss_one (ps_ret (pe_callTy call_tuple_of (by rfl) T.n_tuple (by decide +kernel) (pa_cons (pe_lc (own := [("last", 0)]) (g := (gName 0)) (tt := tYes) rfl sc_least_plan.nd (pi_range1 (by rfl) T.n_range (pa_cons (pe_glob (v := .int 8) rfl T.c_LONGEST_WAY.choose_spec ⟨_, rfl⟩) pa_nil)) (blkOk_by (own := [("last", 0)]) (N := ["last"]) (sc := defScope s_least_plan) (by decide +kernel)) (fun _ _ _ _ _ => (pg_name (i := 0) sc_least_plan.nd rfl (Or.inl rfl))) (fun _ _ _ _ _ => pts_nil) (fun _ _ _ _ _ => (by exact (pe_tupRg3 rfl (by rfl) T.n_tuple (by rfl) T.n_range (pa_cons (pe_op op_odd (pv 0) pe_int) (pa_cons (pe_op op_add (pv 0) pe_int) (pa_cons pe_int pa_nil))))))) pa_nil)))), ?_⟩
    refine ⟨8, rfl, by decide, by decide, fun D hD => ?_⟩
    refine lc_range (lo := 0) (n := 8) (fun i H' => ∃ ys, Same H (fun b => if b = D then none else H' b) ∧ H' D = some (.lst ys) ∧ RpA (del H' D) h ys (((List.range i).map leastRow).map rowD))
      ⟨[], mask_upd hD (Same.refl _), upd_same, .nil⟩ ?_ ?_
    · rintro i H1 hi ⟨ys, s, hd, ra⟩
      have sm := mask hD s
      have ly := ra.len
      rw [List.length_map, List.length_map, List.length_range] at ly
      rw [Int.zero_add]
      refine ⟨rfl, tyes ⟨_, rfl, i, rfl, rfl, _, rfl, _, _, rfl, rfl, _, _, _, (i + 2) / 2, rfl, rg_least i hi, by omega, fun q hq => ?_⟩⟩
      rw [rgC_row]
      have sq : Same H1 (upd H1 q (.tup (rowV (leastRow i)))) := same_upd hq
      refine ⟨ys, sq _ _ hd, line_lt (by omega), _, mask_upd hD (sm.trans sq), upd_same, ?_⟩
      rw [del_upd, List.range_succ, List.map_append, List.map_append]
      have nq : q ≠ D := (ne_of_none hd hq).symm
      refine (ra.same (del_new hq)).app (.cons (row_rp ?_ ?_) .nil)
      · rw [del_ne nq]; exact upd_same
      · unfold leastRow; rw [List.length_map, List.length_range]; omega
    · rintro H1 ⟨ys, s, hd, ra⟩
      have ly := ra.len
      rw [List.length_map, List.length_map, List.length_range] at ly
      refine ⟨D, ys, rfl, .inl ⟨SqL.of hd, fun q hq => ?_⟩⟩
      exact k q _ (same_upd0 (by
        cases z : H q with
        | none => rfl
        | some o => rw [mask hD s _ _ z] at hq; cases hq) (mask hD s)) (.tup upd_same (by omega) ((ra.same del_sub).same (same_upd hq)))
def spFlag : Sp := fun vs H Q _ => ∃ a b : Bool, vs = [.bl a, .bl b] ∧ Q (.bl (decide (V.bl a = V.bl b))) H
theorem ok__law_flag (T : Tx K mg) : FnOk P w K mg base CX0 1 T._law_flag.f T._law_flag.fd ["_law_told", "_law_due"] spFlag := by
  refine T._law_flag.F.ok sc_law_flag (fun vs H Q E h => ?_) (fun cdv A outer s H vs Q E hr h => ?_)
  · obtain ⟨_, _, rfl, _⟩ := h
    rfl
  · obtain ⟨a, b, rfl, k⟩ := h
    refine ⟨_, (pss_one (ps_ret (pe_and (pe_callB call_isi (by rfl) T.n_isinstance (by decide +kernel) (pa_cons (pv 0) (pa_cons (pe_bltn (v := .ty "bool") (by rfl) T.n_bool (by decide +kernel) rfl) pa_nil))) (pe_one (pe_cmpR op_eq (pv 0) (pv 1) (nomark _)))))), ?_⟩
    refine ⟨_, rfl, _, _, _, _, _, rfl, .ty "bool", (Rp.bl (h := 0) a).ty, kit_ty (kitBo (.bl a)), _, rfl, iteT ?_⟩
    exact ⟨_, rfl, _, rfl, rfl, k⟩
def spLGaps : Sp := fun vs H Q _ => ∃ (h : Addr) (v : V) (rows : List (List Nat)), vs = [v] ∧ Rp H h v (planD rows) ∧ rows.length = 8 ∧ noGap rows ∧ ∀ p H', Same H H' → H p = none → H' p = some (.lst []) → Q (.ref p) H'
theorem ok__law_gaps (T : Tx K mg) : FnOk P w K mg base CX0 1 T._law_gaps.f T._law_gaps.fd ["_law_plan_here"] spLGaps := by
  refine T._law_gaps.F.ok sc_law_gaps (fun vs H Q E h => ?_) (fun cdv A outer s H vs Q E hr h => ?_)
  · obtain ⟨_, _, _, rfl, _⟩ := h
    rfl
  · obtain ⟨h, v, rows, rfl, rp, rl, ng, k⟩ := h
    refine ⟨_, (pss_cons (ps_set (i := 1) sc_law_gaps.nd rfl (Or.inl rfl) (pe_lst pa_nil))
      (pss_cons (ps_for PassesOwn.never rfl (pi_range2 (by rfl) T.n_range (pa_cons pe_int (pa_cons pe_int pa_nil))) (pg_name (i := 2) sc_law_gaps.nd rfl (Or.inl rfl))
      (pss_one (ps_for PassesOwn.never rfl (pi_range1 (by rfl) T.n_range (pa_cons (pe_op op_sub (pv 2) pe_int) pa_nil)) (pg_name (i := 3) sc_law_gaps.nd rfl (Or.inl rfl))
      (pss_one (ps_if (PW.pt (pw_and (pt_cmpR op_notIn_seq (pv 3) (pe_ix ix_tup (pv 0) (pe_op op_sub (pv 2) pe_int) (fun _ _ => rfl)) (by rfl)) (pw_and1 (pt_cmpR op_notIn_seq (pe_op op_add (pv 3) pe_int) (pe_ix ix_tup (pv 0) (pe_op op_sub (pv 2) pe_int) (fun _ _ => rfl)) (by rfl)))))
      (pss_one (ps_expr (pe_bm PySem.F.plainAttrs_list PySem.F.slot_list_append PySem.F.type_list_append mt_append (pv 1) (pa_cons (pe_tup (pa_cons (pv 2) (pa_cons (pv 3) pa_nil))) pa_nil))))
      pss_nil)))))
      (pss_one (ps_ret (pv 1))))), ?_⟩
    refine ⟨by show 0 ≤ sizeLine; decide, fun p hp => ?_⟩
    obtain ⟨a, xs, rfl, e, z, q⟩ := tup_inv rp
    have lx : xs.length = 8 := by rw [q.len, List.length_map, rl]
    refine ⟨1, 9, rfl, ⟨by decide, by decide, by decide, by decide⟩, for_range (lo := 1) (n := 8) (fun i σ' H' => ∃ l x, σ' = [some (.ref a), some (.ref p), l, x] ∧ Same H H' ∧ H' p = some (.lst []))
      ⟨none, none, rfl, same_upd hp, upd_same⟩ ?_ ?_⟩
    · rintro i σ' H' hi ⟨l, x, rfl, s, hd⟩
      obtain ⟨x1, hx1⟩ : ∃ x1, xs[i]? = some x1 := ⟨_, List.getElem?_eq_getElem (by omega)⟩
      obtain ⟨r, hr', rp1⟩ := rows_at q hx1
      obtain ⟨b, rfl, eb, zb⟩ := rp_row rp1
      have ei : (1 : Int) + ((i : Nat) : Int) - 1 = ((i : Nat) : Int) := by omega
      refine ⟨_, rfl, _, _, rfl, rfl, ?_⟩
      refine ⟨((i : Nat) : Int), (by show [V.int (1 + ((i : Nat) : Int) - 1)] = _; rw [ei]), by omega, by omega, for_range (lo := 0) (n := i) (fun _ σ' H' => ∃ x, σ' = [some (.ref a), some (.ref p), some (.int (1 + (i : Nat))), x] ∧ Same H H' ∧ H' p = some (.lst []))
        ⟨x, rfl, s, hd⟩ ?_ ?_⟩
      · rintro j σ' H1 hj ⟨_, rfl, s1, hd1⟩
        have e1 : inV (.int (0 + ((j : Nat) : Int))) (rowV r) = decide (j ∈ r) := by rw [Int.zero_add]; exact in_nat j r
        have e2 : inV (.int (0 + ((j : Nat) : Int) + 1)) (rowV r) = decide (j + 1 ∈ r) := by
          rw [show (0 : Int) + ((j : Nat) : Int) + 1 = ((j + 1 : Nat) : Int) by omega]
          exact in_nat (j + 1) r
        have ix : ∀ Q' : V → Hp → Prop, Q' (.ref b) H1 → rIxT K (.ref a) (.int (1 + ((i : Nat) : Int) - 1)) H1 Q' := fun Q' q' => by
          rw [ei]
          exact ⟨a, xs, _, _, rfl, rfl, SqT.of (s1 _ _ e), atI_nat hx1, q'⟩
        refine ⟨_, rfl, _, rfl, _, rfl, _, _, rfl, rfl, ix _ ?_⟩
        refine ⟨b, rowV r, rfl, .inr (SqT.of (s1 _ _ eb)), rfl, flat_nats r, _, rfl, ?_⟩
        show if (!inV (.int (0 + ((j : Nat) : Int))) (rowV r)) = true then _ else _
        rw [e1]
        cases g1 : decide (j ∈ r) with
        | true => exact iteF (iteF ⟨_, rfl, s1, hd1⟩)
        | false =>
          refine iteT ⟨_, rfl, _, _, rfl, rfl, _, rfl, _, rfl, _, _, rfl, rfl, ix _ ?_⟩
          refine ⟨b, rowV r, rfl, .inr (SqT.of (s1 _ _ eb)), rfl, flat_nats r, _, rfl, ?_⟩
          show if (!inV (.int (0 + ((j : Nat) : Int) + 1)) (rowV r)) = true then _ else _
          rw [e2]
          rcases ng i r hr' j hj with g | g
          · exact absurd g (of_decide_eq_false g1)
          · rw [decide_eq_true g]
            refine iteF ?_
            exact ⟨_, rfl, s1, hd1⟩
      · rintro σ' H1 ⟨x2, rfl, s1, hd1⟩
        exact ⟨_, _, rfl, s1, hd1⟩
    · rintro σ' H' ⟨l, x, rfl, s, hd⟩
      exact ⟨_, rfl, k p H' s hp hd⟩
end
end Hc

set_option Elab.async false
set_option linter.all false
set_option maxRecDepth 100000
set_option maxHeartbeats 4000000
set_option autoImplicit false
namespace Hc
open PySem L2
/-- the hand: the script's cells at c, and four numbers -/
def HandAt (H : Hp) (h c : Addr) : Prop := ∃ (ns : List Int) (i d s t : Int), H h = some (.lst [.ref c, .int i, .int d, .int s, .int t]) ∧ H c = some (.lst (ns.map V.int)) ∧ 0 ≤ i ∧ c ≠ h
theorem HandAt.lst {H : Hp} {h c : Addr} (a : HandAt H h c) : IsLst H h := by
  obtain ⟨ns, i, d, s, t, e, _⟩ := a
  exact ⟨_, e⟩
theorem HandAt.ne {H : Hp} {h c : Addr} (a : HandAt H h c) {D : Addr} (hD : H D = none) : D ≠ h ∧ D ≠ c := by
  obtain ⟨ns, i, d, s, t, e, hc, _⟩ := a
  exact ⟨fun z => ne_of_none e hD z.symm, fun z => ne_of_none hc hD z.symm⟩
theorem HandAt.upd {H : Hp} {h c : Addr} (a : HandAt H h c) {D : Addr} {o : HO} (h1 : D ≠ h) (h2 : D ≠ c) : HandAt (upd H D o) h c := by
  obtain ⟨ns, i, d, s, t, e, hc, hi, hn⟩ := a
  exact ⟨ns, i, d, s, t, by rw [upd_ne (Ne.symm h1)]; exact e, by rw [upd_ne (Ne.symm h2)]; exact hc, hi, hn⟩
theorem HandAt.mono {H H' : Hp} {h c : Addr} (a : HandAt H h c) (k : Same H H') : HandAt H' h c := by
  obtain ⟨ns, i, d, s, t, e, hc, hi, hn⟩ := a
  exact ⟨ns, i, d, s, t, k _ _ e, k _ _ hc, hi, hn⟩
theorem But.upd {h D : Addr} {H H' : Hp} {o : HO} (k : But h H H') (hD : H D = none) : But h H (upd H' D o) := fun b u e n => by
  rw [upd_ne (ne_of_none e hD)]
  exact k _ _ e n
section
variable {P : Program} {w : World} {K : PySem.W.Frag} {mg : Str → Option Value} {base : Heap}
def spDraw : Sp := fun vs H Q _ => ∃ (h c : Addr) (m : Int), vs = [.ref h, .int m] ∧ HandAt H h c ∧ 0 < m ∧ m < 1000000 ∧
  ∀ n H', 0 ≤ n → n < m → HandAt H' h c → But h H H' → Q (.int n) H'
theorem mod_range (x : Int) {m : Int} (h : 0 < m) : 0 ≤ x.fmod m ∧ x.fmod m < m := by
  rw [Int.fmod_eq_emod_of_nonneg x (by omega)]
  exact ⟨Int.emod_nonneg x (by omega), Int.emod_lt_of_pos x h⟩
theorem ok__law_draw (T : Tx K mg) : FnOk P w K mg base CX0 1 T._law_draw.f T._law_draw.fd ["_law_hand_here", "_law_many"] spDraw := by
  refine T._law_draw.F.ok sc_law_draw (fun vs H Q E h => ?_) (fun cdv A outer s H vs Q E hr h => ?_)
  · obtain ⟨h, c, m, rfl, _⟩ := h
    rfl
  · obtain ⟨h, c, m, rfl, hA, m0, m1, k⟩ := h
    refine ⟨_, (C8.pss_cut (ps_if (PW.pt (pw_and (pt_cmpR op_eq (pe_ix ix_list (pv 0) pe_int (fun _ _ => rfl)) pe_int (nomark _)) (pw_and1 (pt_cmpR op_lt (pe_ix ix_list (pv 0) pe_int (fun _ _ => rfl)) (pe_callB call_len_seq (by rfl) T.n_len (by decide +kernel) (pa_cons (pe_ix ix_list (pv 0) pe_int (fun _ _ => rfl)) pa_nil)) (nomark _)))))
      (pss_cons (ps_set (i := 2) sc_law_draw.nd rfl (Or.inl rfl) (pe_ix ix_list (pe_ix ix_list (pv 0) pe_int (fun _ _ => rfl)) (pe_ix ix_list (pv 0) pe_int (fun _ _ => rfl)) (fun _ _ => rfl)))
      (pss_cons (ps_asg (pe_op op_add (pe_ix ix_list (pv 0) pe_int (fun _ _ => rfl)) pe_int) (pg_sub (pv 0) pe_int set_list))
      (pss_cons (ps_asg (pe_op op_modN (pe_callTy call_int1 (by rfl) T.n_int (by decide +kernel) (pa_cons (pe_op op_add (pe_op op_add (pe_op op_mul (pe_ix ix_list (pv 0) pe_int (fun _ _ => rfl)) pe_int) (pv 2)) pe_int) pa_nil)) pe_int) (pg_sub (pv 0) pe_int set_list))
      (pss_one (ps_if (pt_cmpR op_ge (pv 2) (pe_op op_pow pe_int pe_int) (nomark _))
      (pss_one (ps_asg (pv 2) (pg_sub (pv 0) pe_int set_list)))
      pss_nil)))))
      pss_nil)
      (pss_cons (ps_if (pt_cmpR op_gt (pe_ix ix_list (pv 0) pe_int (fun _ _ => rfl)) pe_int (nomark _))
      (pss_cons (ps_set (i := 3) sc_law_draw.nd rfl (Or.inl rfl) (pe_op op_modN (pe_callTy call_int1 (by rfl) T.n_int (by decide +kernel) (pa_cons (pe_ix ix_list (pv 0) pe_int (fun _ _ => rfl)) pa_nil)) (pv 1)))
      (pss_cons (ps_asg (pe_op op_fdivN (pe_ix ix_list (pv 0) pe_int (fun _ _ => rfl)) (pv 1)) (pg_sub (pv 0) pe_int set_list))
      (pss_one (ps_ret (pv 3)))))
      pss_nil)
      (pss_cons (ps_asg (pe_op op_add (pe_ix ix_list (pv 0) pe_int (fun _ _ => rfl)) pe_int) (pg_sub (pv 0) pe_int set_list))
      (pss_cons (ps_set (i := 4) sc_law_draw.nd rfl (Or.inl rfl) (pe_op op_modN (pe_callTy call_int1 (by rfl) T.n_int (by decide +kernel) (pa_cons (pe_op op_mul (pe_callTy call_int1 (by rfl) T.n_int (by decide +kernel) (pa_cons (pe_op op_add (pe_ix ix_list (pv 0) pe_int (fun _ _ => rfl)) (pe_op op_mul pe_int (pe_ix ix_list (pv 0) pe_int (fun _ _ => rfl)))) pa_nil)) pe_int) pa_nil)) pe_int))
      (pss_cons (ps_set (i := 4) sc_law_draw.nd rfl (Or.inl rfl) (pe_op op_modN (pe_callTy call_int1 (by rfl) T.n_int (by decide +kernel) (pa_cons (pe_op op_mul (pv 4) (pe_op op_add (pe_op op_fdivN (pv 4) pe_int) pe_int)) pa_nil)) pe_int))
      (pss_cons (ps_set (i := 4) sc_law_draw.nd rfl (Or.inl rfl) (pe_op op_modN (pe_callTy call_int1 (by rfl) T.n_int (by decide +kernel) (pa_cons (pe_op op_mul (pv 4) (pe_op op_add (pe_op op_fdivN (pv 4) pe_int) pe_int)) pa_nil)) pe_int))
      (pss_one (ps_ret (pe_op op_modN (pe_callTy call_int1 (by rfl) T.n_int (by decide +kernel) (pa_cons (pe_op op_fdivN (pv 4) pe_int) pa_nil)) (pv 1)))))))))), ?_⟩
    refine ⟨fun σ' H' => ∃ cv : Option V, σ' = [some (.ref h), some (.int m), cv, none, none] ∧ HandAt H' h c ∧ But h H H', ?_, ?_⟩
    · obtain ⟨ns, i, d, s, t, hh, hc, hi, hn⟩ := id hA
      refine ⟨_, rfl, h, _, _, _, rfl, rfl, SqL.of hh, atI_nat (j := 2) rfl, rfl, _, rfl, ?_⟩
      rw [int_eqd]
      by_cases h0 : d = 0
      · rw [decide_eq_true h0]
        refine iteT ?_
        refine ⟨_, rfl, h, _, _, _, rfl, rfl, SqL.of hh, atI_nat (j := 1) rfl, _, rfl, h, _, _, _, rfl, rfl, SqL.of hh, atI_nat (j := 0) rfl, c, _, rfl, .inl (SqL.of hc), _, _, rfl, rfl, _, rfl, ?_⟩
        rw [List.length_map]
        by_cases h1 : i < ns.length
        · rw [decide_eq_true h1]
          refine iteT ?_
          obtain ⟨j, rfl⟩ := Int.eq_ofNat_of_zero_le hi
          have hj : j < ns.length := by omega
          have hx : (ns.map V.int)[j]? = some (.int ns[j]) := by rw [List.getElem?_map, List.getElem?_eq_getElem hj]; rfl
          refine ⟨_, rfl, h, _, _, _, rfl, rfl, SqL.of hh, atI_nat (j := 0) rfl, _, rfl, h, _, _, _, rfl, rfl, SqL.of hh, atI_nat (j := 1) rfl, c, _, _, _, rfl, rfl, SqL.of hc, atI_nat hx, ?_⟩
          -- hand[1] = hand[1] + 1
          refine ⟨_, rfl, h, _, _, _, rfl, rfl, SqL.of hh, atI_nat (j := 1) rfl, _, _, rfl, rfl, _, rfl, h, _, 1, 1, rfl, rfl, hh, rfl, ?_⟩
          -- hand[3] = ..
          refine ⟨_, rfl, h, _, _, _, rfl, rfl, SqL.of upd_same, atI_nat (j := 3) rfl, _, _, rfl, rfl, .inr ⟨by decide, by decide⟩, _, rfl, _, _, rfl, rfl, _, _, rfl, rfl, .inl ⟨_, rfl, _, _, rfl, rfl, (show (2147483629 : Int) ≠ 0 by decide), _, rfl, h, _, 3, 3, rfl, rfl, upd_same, rfl, ?_⟩⟩
          refine ⟨_, rfl, _, _, rfl, rfl, ⟨by decide, by decide, by decide⟩, _, _, rfl, rfl, _, rfl, ?_⟩
          have bt : ∀ {H1 : Hp} {xs}, But h H H1 → But h H (upd H1 h xs) := fun b => b.trans but_upd
          refine ite2 (fun _ => ?_) (fun _ => ?_)
          · refine ⟨_, rfl, _, rfl, h, _, 2, 2, rfl, rfl, upd_same, rfl, ?_⟩
            exact ⟨_, rfl, ⟨ns, _, _, _, _, upd_same, (bt (bt (bt (But.refl h H)))) _ _ hc hn, by omega, hn⟩, bt (bt (bt (But.refl h H)))⟩
          · exact ⟨_, rfl, ⟨ns, _, _, _, _, upd_same, (bt (bt (But.refl h H))) _ _ hc hn, by omega, hn⟩, bt (bt (But.refl h H))⟩
        · rw [decide_eq_false h1]
          exact iteF ⟨_, rfl, hA, But.refl h H⟩
      · rw [decide_eq_false h0]
        exact iteF (iteF ⟨_, rfl, hA, But.refl h H⟩)
    · rintro σ' H1 ⟨cv, rfl, hA1, b1⟩
      obtain ⟨ns, i, d, s, t, hh, hc, hi, hn⟩ := id hA1
      have bt : ∀ {H2 : Hp} {xs}, But h H H2 → But h H (upd H2 h xs) := fun b => b.trans but_upd
      have bu : ∀ {H2 : Hp} {xs}, But h H1 H2 → But h H1 (upd H2 h xs) := fun b => b.trans but_upd
      refine ⟨_, rfl, h, _, _, _, rfl, rfl, SqL.of hh, atI_nat (j := 2) rfl, _, _, rfl, rfl, _, rfl, ?_⟩
      refine ite2 (fun _ => ?_) (fun _ => ?_)
      · refine ⟨_, rfl, h, _, _, _, rfl, rfl, SqL.of hh, atI_nat (j := 2) rfl, .inl ⟨_, rfl, _, rfl, _, _, rfl, rfl, by omega, ?_⟩⟩
        refine ⟨_, rfl, h, _, _, _, rfl, rfl, SqL.of hh, atI_nat (j := 2) rfl, _, rfl, _, _, rfl, rfl, ⟨by omega, by omega⟩, _, rfl, h, _, 2, 2, rfl, rfl, hh, rfl, ?_⟩
        obtain ⟨q1, q2⟩ := mod_range d m0
        exact ⟨_, rfl, k _ _ q1 q2 ⟨ns, _, _, _, _, upd_same, (bu (But.refl h H1)) _ _ hc hn, hi, hn⟩ (bt b1)⟩
      · refine ⟨_, rfl, h, _, _, _, rfl, rfl, SqL.of hh, atI_nat (j := 4) rfl, _, _, rfl, rfl, _, rfl, h, _, 4, 4, rfl, rfl, hh, rfl, ?_⟩
        refine ⟨_, rfl, h, _, _, _, rfl, rfl, SqL.of upd_same, atI_nat (j := 3) rfl, _, rfl, h, _, _, _, rfl, rfl, SqL.of upd_same, atI_nat (j := 4) rfl, _, _, rfl, rfl, .inl ⟨by decide, by decide⟩, _, _, rfl, rfl, .inl ⟨_, rfl, _, _, rfl, rfl, .inr ⟨by decide, by decide⟩, .inl ⟨_, rfl, _, _, rfl, rfl, (show (2147483647 : Int) ≠ 0 by decide), ?_⟩⟩⟩
        obtain ⟨u1, u2⟩ := mod_range ((s + 7919 * (t + 1)) * 48271) (m := 2147483647) (by decide)
        obtain ⟨x, hx⟩ : ∃ x, x = ((s + 7919 * (t + 1)) * 48271).fmod 2147483647 := ⟨_, rfl⟩
        rw [← hx] at u1 u2
        refine ⟨_, rfl, _, rfl, _, _, rfl, rfl, ⟨by decide, by decide⟩, _, _, rfl, rfl, _, _, rfl, rfl, .inl ⟨by rw [← hx]; omega, by rw [← hx]; omega⟩, .inl ⟨_, rfl, _, _, rfl, rfl, (show (2147483647 : Int) ≠ 0 by decide), ?_⟩⟩
        rw [← hx]
        obtain ⟨u1, u2⟩ := mod_range (x * (x.fdiv 1009 + 69621)) (m := 2147483647) (by decide)
        obtain ⟨y, hy⟩ : ∃ y, y = (x * (x.fdiv 1009 + 69621)).fmod 2147483647 := ⟨_, rfl⟩
        rw [← hy] at u1 u2
        refine ⟨_, rfl, _, rfl, _, _, rfl, rfl, ⟨by decide, by decide⟩, _, _, rfl, rfl, _, _, rfl, rfl, .inl ⟨by rw [← hy]; omega, by rw [← hy]; omega⟩, .inl ⟨_, rfl, _, _, rfl, rfl, (show (2147483399 : Int) ≠ 0 by decide), ?_⟩⟩
        rw [← hy]
        refine ⟨_, rfl, _, _, rfl, rfl, ⟨by decide, by decide⟩, .inl ⟨_, rfl, _, rfl, _, _, rfl, rfl, by omega, ?_⟩⟩
        obtain ⟨q1, q2⟩ := mod_range (((y * (y.fdiv 2003 + 40692)).fmod 2147483399).fdiv 16) m0
        exact k _ _ q1 q2 ⟨ns, _, _, _, _, upd_same, (bu (But.refl h H1)) _ _ hc hn, hi, hn⟩ (bt b1)
def spHand (K : PySem.W.Frag) : Sp := fun vs H Q _ => ∃ (a : Addr) (ns : List Int), vs = [.ref a] ∧ SqL K H a (ns.map V.int) ∧ ns.length ≤ 63 ∧
  ∀ h c H', Same H H' → HandAt H' h c → Q (.ref h) H'
theorem cutV_ints (ns : List Int) (lo hi : Option Int) : ∃ ms : List Int, cutV (ns.map V.int) lo hi = ms.map V.int ∧ ms.length ≤ ns.length := by
  refine ⟨(ns.drop (HT.sIx ns.length 0 lo)).take (HT.sIx ns.length ns.length hi - HT.sIx ns.length 0 lo), ?_, ?_⟩
  · unfold cutV
    rw [List.length_map, List.map_take, List.map_drop]
  · rw [List.length_take, List.length_drop]; omega
theorem ok__law_hand (T : Tx K mg) : FnOk P w K mg base CX0 1 T._law_hand.f T._law_hand.fd ["_law_script"] (spHand K) := by
  refine T._law_hand.F.ok sc_law_hand (fun vs H Q E h => ?_) (fun cdv A outer s H vs Q E hr h => ?_)
  · obtain ⟨a, ns, rfl, _⟩ := h
    rfl
  · obtain ⟨a, ns, rfl, hS, hl, k⟩ := h
    refine ⟨_, (pss_cons (ps_setLc (i := 1) (own := [("_law_cell", 2)]) (g := (gName 2)) (tt := tYes) rfl sc_law_hand.nd rfl rfl (sw_true rfl rfl rfl (by decide +kernel)) (pi_list (pe_slice sl_list (pv 0) po_none (po_some pe_int))) (blkOk_by (own := [("_law_cell", 2)]) (N := ["_law_script", "_law_cells", "_law_cell"]) (sc := defScope s_law_hand) (by decide +kernel)) (fun _ _ _ _ _ => (pg_name (i := 2) sc_law_hand.nd rfl (Or.inl rfl))) (fun _ _ _ _ _ => pts_nil) (fun _ _ _ _ _ => (by exact (pe_callB call_abs (by rfl) T.n_abs (by decide +kernel) (pa_cons (pe_callTy call_int1 (by rfl) T.n_int (by decide +kernel) (pa_cons (pv 2) pa_nil)) pa_nil)))))
      (pss_one (ps_ret (pe_lst (pa_cons (pv 1) (pa_cons pe_int (pa_cons pe_int (pa_cons (pe_op op_add pe_int (pe_callB call_len_seq (by rfl) T.n_len (by decide +kernel) (pa_cons (pv 1) pa_nil))) (pa_cons pe_int pa_nil))))))))), ?_⟩
    obtain ⟨ms, em, lm⟩ := cutV_ints ns none (some 63)
    refine ⟨_, rfl, _, rfl, a, _, rfl, hS, fun p hp => ?_⟩
    rw [em]
    refine ⟨p, rfl, ⟨_, SqL.of upd_same⟩, fun D hD => ?_⟩
    have s1 : Same H (upd H p (.lst (ms.map V.int))) := same_upd hp
    have npD : p ≠ D := ne_of_none upd_same hD
    refine lc_list (K := K) (a := p) (xs := ms.map V.int) (fun i H' => ∃ ys : List Int, H' D = some (.lst (ys.map V.int)) ∧ ys.length = i ∧ H' p = some (.lst (ms.map V.int)) ∧ ∀ b o, H b = some o → H' b = some o)
      ⟨[], upd_same, rfl, by rw [upd_ne npD]; exact upd_same, fun b o q => by rw [upd_ne (ne_of_none (s1 _ _ q) hD)]; exact s1 _ _ q⟩ (fun i H' _ ⟨_, _, _, q, _⟩ => SqL.of q) ?_ ?_
    · rintro i x H' hx ⟨ys, hd, hy, hp', sm⟩
      have hi : i < (ms.map V.int).length := (List.getElem?_eq_some_iff.mp hx).1
      rw [List.length_map] at hi
      obtain ⟨z, rfl⟩ : ∃ z, x = V.int z := by
        rw [List.getElem?_map] at hx
        cases e : ms[i]? with
        | none => rw [e] at hx; cases hx
        | some z => rw [e] at hx; exact ⟨z, (Option.some.inj hx).symm⟩
      refine ⟨rfl, tyes ⟨_, rfl, .inl ⟨_, rfl, _, rfl, _, hd, ?_, ys ++ [if z < 0 then -z else z], ?_, ?_, ?_, ?_⟩⟩⟩
      · rw [List.length_map]; exact line_lt (by omega)
      · rw [upd_same, List.map_append]; rfl
      · rw [List.length_append, hy]; rfl
      · rw [upd_ne npD]; exact hp'
      · intro b o q
        have := s1 _ _ q
        rw [upd_ne (ne_of_none this hD)]
        exact sm _ _ q
    · rintro H' ⟨ys, hd, hy, hp', sm⟩
      refine ⟨_, rfl, _, rfl, _, _, rfl, .inl (SqL.of hd), _, _, rfl, rfl, by show 5 ≤ sizeLine; decide, fun hh nh => ?_⟩
      have nD : D ≠ hh := ne_of_none hd nh
      exact k hh D _ (fun b o q => by rw [upd_ne (ne_of_none (sm _ _ q) nh)]; exact sm _ _ q) ⟨ys, 0, 0, _, 0, upd_same, by rw [upd_ne nD]; exact hd, by decide, nD⟩
end
end Hc

set_option Elab.async false
set_option linter.all false
set_option maxRecDepth 100000
set_option maxHeartbeats 2000000
set_option autoImplicit false
namespace Hc
open PySem L2
/-- what a row may be one place on -/
def stepR (n p : Nat) (t : List Nat) : List (List Nat) := (if p < n - 1 ∧ (p = 0 ∨ p - 1 ∈ t) then [t] else []) ++ [t ++ [p]]
/-- the rows without a gap, up to the place p -/
def reach (n : Nat) : Nat → List (List Nat)
  | 0 => [[]]
  | p + 1 => (reach n p).flatMap (stepR n p)
theorem step_le (n p : Nat) (t : List Nat) : (stepR n p t).length ≤ 2 := by
  unfold stepR
  by_cases h : p < n - 1 ∧ (p = 0 ∨ p - 1 ∈ t)
  · rw [if_pos h]; exact Nat.le_refl _
  · rw [if_neg h]; exact Nat.le_succ _
theorem flat_le {f : List Nat → List (List Nat)} (hf : ∀ t, (f t).length ≤ 2) : ∀ l : List (List Nat), (l.flatMap f).length ≤ 2 * l.length
  | [] => Nat.zero_le _
  | t :: l => by
    rw [List.flatMap_cons, List.length_append, List.length_cons]
    have := flat_le hf l
    have := hf t
    omega
theorem reach_card (n : Nat) : ∀ p, (reach n p).length ≤ 2 ^ p
  | 0 => Nat.le_refl _
  | p + 1 => by
    have h1 := flat_le (step_le n p) (reach n p)
    have h2 := reach_card n p
    show ((reach n p).flatMap (stepR n p)).length ≤ _
    rw [Nat.pow_succ]
    omega
theorem reach_skip {n p : Nat} {t : List Nat} (h : t ∈ reach n p) (h1 : p < n - 1) (h2 : p = 0 ∨ p - 1 ∈ t) : t ∈ reach n (p + 1) := by
  refine List.mem_flatMap.mpr ⟨t, h, ?_⟩
  unfold stepR
  rw [if_pos ⟨h1, h2⟩]
  simp
theorem reach_put {n p : Nat} {t : List Nat} (h : t ∈ reach n p) : t ++ [p] ∈ reach n (p + 1) := by
  refine List.mem_flatMap.mpr ⟨t, h, ?_⟩
  unfold stepR
  simp
theorem reach_len {n : Nat} : ∀ {p : Nat} {t : List Nat}, t ∈ reach n p → t.length ≤ p
  | 0, t, h => by
    have : t = [] := by simpa [reach] using h
    subst this; exact Nat.le_refl _
  | p + 1, t, h => by
    obtain ⟨u, hu, ht⟩ := List.mem_flatMap.mp (show t ∈ (reach n p).flatMap (stepR n p) from h)
    have := reach_len hu
    unfold stepR at ht
    rcases List.mem_append.mp ht with q | q
    · by_cases c : p < n - 1 ∧ (p = 0 ∨ p - 1 ∈ u)
      · rw [if_pos c] at q
        have : t = u := by simpa using q
        subst this; omega
      · rw [if_neg c] at q
        cases q
    · have : t = u ++ [p] := by simpa using q
      subst this
      rw [List.length_append]
      show u.length + 1 ≤ p + 1
      omega
theorem rowV_snoc (t : List Nat) (p : Nat) : rowV t ++ [V.int (p : Nat)] = rowV (t ++ [p]) := by
  unfold rowV
  rw [List.map_append]; rfl
section
variable {P : Program} {w : World} {K : PySem.W.Frag} {mg : Str → Option Value} {base : Heap}
theorem But.del {h p : Addr} {H H' : Hp} (k : But h H H') : But h (L2.del H p) (L2.del H' p) := fun b o e n => by
  by_cases z : b = p
  · subst z; rw [del_same] at e; cases e
  · rw [del_ne z] at e ⊢; exact k _ _ e n
def spPlanL : Sp := fun vs H Q _ => ∃ (h c : Addr), vs = [.ref h, .bl false] ∧ HandAt H h c ∧
  ∀ v rows H', HandAt H' h c → But h H H' → Rp H' h v (planD rows) → rows.length = 8 → (∀ k r, rows[k]? = some r → r ∈ reach (k + 1) (k + 1)) → Q v H'
theorem ok__law_plan (T : Tx K mg) : FnOk P w K mg base CX0 2 T._law_plan.f T._law_plan.fd ["_law_hand_here", "_law_gaps_here"] spPlanL := by
  refine T._law_plan.F.ok sc_law_plan (fun vs H Q E h => ?_) (fun cdv A outer s H vs Q E hr h => ?_)
  · obtain ⟨_, _, rfl, _⟩ := h
    rfl
  · obtain ⟨h, c, rfl, hA, k⟩ := h
    refine ⟨_, (pss_cons (ps_set (i := 2) sc_law_plan.nd rfl (Or.inl rfl) (pe_lst pa_nil))
      (pss_cons (ps_for PassesOwn.never rfl (pi_range2 (by rfl) T.n_range (pa_cons pe_int (pa_cons pe_int pa_nil))) (pg_name (i := 3) sc_law_plan.nd rfl (Or.inl rfl))
      (pss_cons (ps_set (i := 4) sc_law_plan.nd rfl (Or.inl rfl) (pe_lst pa_nil))
      (pss_cons (ps_for PassesOwn.never rfl (pi_range1 (by rfl) T.n_range (pa_cons (pv 3) pa_nil)) (pg_name (i := 5) sc_law_plan.nd rfl (Or.inl rfl))
      (C8.pss_cut (ps_set (i := 6) sc_law_plan.nd rfl (Or.inl rfl) (pe_or (pe_cmpR op_eq (pv 5) (pe_op op_sub (pv 3) pe_int) (nomark _)) (pe_one (pe_and (pe_not (pv 1)) (pe_and (pe_cmpR op_gt (pv 5) pe_int (nomark _)) (pe_one (pe_cmpR op_notIn_seq (pe_op op_sub (pv 5) pe_int) (pv 4) (by rfl))))))))
      (pss_one (ps_if (PW.pt (pw_or (pt_val (pv 6)) (pw_or1 (pt_cmpR op_eq (pe_call (ok__law_draw T) (hr.mono (by decide)) rfl T._law_draw.g T._law_draw.F.kp T._law_draw.b .nil pass0 (pa_cons (pv 0) (pa_cons pe_int pa_nil))) pe_int (nomark _)))))
      (pss_one (ps_expr (pe_bm PySem.F.plainAttrs_list PySem.F.slot_list_append PySem.F.type_list_append mt_append (pv 4) (pa_cons (pv 5) pa_nil))))
      pss_nil))))
      (pss_one (ps_expr (pe_bm PySem.F.plainAttrs_list PySem.F.slot_list_append PySem.F.type_list_append mt_append (pv 2) (pa_cons (pe_callTy call_tuple_of (by rfl) T.n_tuple (by decide +kernel) (pa_cons (pv 4) pa_nil)) pa_nil)))))))
      (pss_one (ps_ret (pe_callTy call_tuple_of (by rfl) T.n_tuple (by decide +kernel) (pa_cons (pv 2) pa_nil)))))), ?_⟩
    refine ⟨by show 0 ≤ sizeLine; decide, fun p hp => ?_⟩
    obtain ⟨n1, n2⟩ := hA.ne hp
    refine ⟨1, 9, rfl, ⟨by decide, by decide, by decide, by decide⟩, for_range (lo := 1) (n := 8) (fun i σ' H' => ∃ (l t pl nd : Option V) (ys : List V) (rows : List (List Nat)), σ' = [some (.ref h), some (.bl false), some (.ref p), l, t, pl, nd] ∧
      HandAt H' h c ∧ But h H H' ∧ H' p = some (.lst ys) ∧ RpA (L2.del H' p) h ys (rows.map rowD) ∧ rows.length = i ∧ ∀ k r, rows[k]? = some r → r ∈ reach (k + 1) (k + 1))
      ⟨none, none, none, none, [], [], rfl, hA.upd n1 n2, (But.refl h H).upd hp, upd_same, .nil, rfl, fun k r e => by simp at e⟩ ?_ ?_⟩
    · rintro i σ' H1 hi ⟨l, t, pl, nd, ys, rows, rfl, hA1, b1, hd1, ra1, rl1, rr1⟩
      have ly := ra1.len
      rw [List.length_map] at ly
      refine ⟨by show 0 ≤ sizeLine; decide, fun q hq => ?_⟩
      obtain ⟨m1, m2⟩ := hA1.ne hq
      have nqp : q ≠ p := (ne_of_none hd1 hq).symm
      have hq0 : H q = none := b1.free m1 hq
      have ei : (1 : Int) + ((i : Nat) : Int) = ((i + 1 : Nat) : Int) := by omega
      refine ⟨_, rfl, ((i + 1 : Nat) : Int), (by rw [ei]), by omega, by omega, for_range (lo := 0) (n := i + 1) (fun j σ' H' => ∃ (pl nd : Option V) (told : List Nat), σ' = [some (.ref h), some (.bl false), some (.ref p), some (.int (1 + (i : Nat))), some (.ref q), pl, nd] ∧
        HandAt H' h c ∧ But h H1 H' ∧ H' q = some (.lst (rowV told)) ∧ told ∈ reach (i + 1) j)
        ⟨pl, nd, [], rfl, hA1.upd m1 m2, (But.refl h H1).upd hq, upd_same, by simp [reach]⟩ ?_ ?_⟩
      · rintro j σ' H2 hj ⟨pl, nd, told, rfl, hA2, b2, hq2, ht⟩
        have tl := reach_len ht
        refine ⟨fun σ'' H'' => ∃ nb : Bool, σ'' = [some (.ref h), some (.bl false), some (.ref p), some (.int (1 + (i : Nat))), some (.ref q), some (.int (0 + (j : Nat))), some (.bl nb)] ∧ H'' = H2 ∧ (nb = false → j < i ∧ (j = 0 ∨ j - 1 ∈ told)), ?_, ?_⟩
        · refine ⟨_, rfl, _, rfl, _, _, rfl, rfl, rfl, _, rfl, ?_⟩
          rw [int_eqd]
          by_cases g : j = i
          · rw [decide_eq_true (by omega)]
            exact iteT ⟨_, rfl, rfl, fun z => by cases z⟩
          · rw [decide_eq_false (by omega)]
            refine iteF ⟨_, rfl, _, rfl, _, rfl, iteT ⟨_, rfl, _, _, rfl, rfl, _, rfl, ?_⟩⟩
            by_cases g0 : j = 0
            · rw [decide_eq_false (by omega)]
              exact iteF ⟨_, rfl, rfl, fun _ => ⟨by omega, .inl g0⟩⟩
            · rw [decide_eq_true (by omega)]
              refine iteT ⟨_, rfl, _, _, rfl, rfl, _, rfl, q, rowV told, rfl, .inl (SqL.of hq2), rfl, flat_nats told, ?_⟩
              have e1 : inV (.int (0 + ((j : Nat) : Int) - 1)) (rowV told) = decide (j - 1 ∈ told) := by
                rw [show (0 : Int) + ((j : Nat) : Int) - 1 = ((j - 1 : Nat) : Int) by omega]
                exact in_nat (j - 1) told
              refine ⟨!inV (.int (0 + ((j : Nat) : Int) - 1)) (rowV told), rfl, rfl, fun z => ⟨by omega, .inr ?_⟩⟩
              rw [e1] at z
              have z' : decide (j - 1 ∈ told) = true := by simpa using z
              exact of_decide_eq_true z'
        · rintro σ'' H'' ⟨nb, rfl, rfl, hnb⟩
          have put : ∀ H3, HandAt H3 h c → But h H1 H3 → H3 q = some (.lst (rowV told)) → ∃ (pl nd : Option V) (told' : List Nat), ([some (.ref h), some (.bl false), some (.ref p), some (.int (1 + (i : Nat))), some (.ref q), some (.int (0 + (j : Nat))), some (.bl nb)] : St) = [some (.ref h), some (.bl false), some (.ref p), some (.int (1 + (i : Nat))), some (.ref q), pl, nd] ∧
              HandAt (upd H3 q (.lst (rowV told ++ [.int (0 + (j : Nat))]))) h c ∧ But h H1 (upd H3 q (.lst (rowV told ++ [.int (0 + (j : Nat))]))) ∧ (upd H3 q (.lst (rowV told ++ [.int (0 + (j : Nat))]))) q = some (.lst (rowV told')) ∧ told' ∈ reach (i + 1) (j + 1) := fun H3 hA3 b3 hq3 =>
            ⟨_, _, told ++ [j], rfl, hA3.upd m1 m2, b3.upd hq, by rw [upd_same, Int.zero_add, rowV_snoc], reach_put ht⟩
          refine ⟨_, rfl, _, rfl, ?_⟩
          cases nb with
          | true =>
            refine iteT (iteT ?_)
            have lt : (rowV told).length < sizeLine := by
              unfold rowV
              rw [List.length_map]; exact line_lt (by omega)
            exact ⟨_, rfl, .inl ⟨rfl, _, SqL.of hq2⟩, _, rfl, q, _, _, rfl, rfl, hq2, lt, put _ hA2 b2 hq2⟩
          | false =>
            refine iteF ⟨_, rfl, h, c, 2, rfl, hA2, by decide, by decide, fun x H3 x0 x1 hA3 b3 => ⟨rfl, _, rfl, ?_⟩⟩
            have hq3 := b3 _ _ hq2 m1
            refine ite2 (fun _ => ?_) (fun _ => ?_)
            · have lt : (rowV told).length < sizeLine := by
                unfold rowV
                rw [List.length_map]; exact line_lt (by omega)
              exact ⟨_, rfl, .inl ⟨rfl, _, SqL.of hq3⟩, _, rfl, q, _, _, rfl, rfl, hq3, lt, put _ hA3 (b2.trans b3) hq3⟩
            · obtain ⟨h1, h2⟩ := hnb rfl
              exact ⟨_, _, told, rfl, hA3, b2.trans b3, hq3, reach_skip ht (by omega) h2⟩
      · rintro σ' H2 ⟨pl, nd, told, rfl, hA2, b2, hq2, ht⟩
        have tl := reach_len ht
        have hd2 := b2 _ _ hd1 n1
        have ra2 : RpA (L2.del H2 p) h ys (rows.map rowD) := ra1.mono (by obtain ⟨zs, e⟩ := hA1.lst; exact ⟨zs, by rw [del_ne n1.symm]; exact e⟩) b2.del
        refine ⟨_, rfl, .inl ⟨rfl, _, SqL.of hd2⟩, _, rfl, q, rowV told, rfl, .inl ⟨SqL.of hq2, fun u hu => ?_⟩⟩
        obtain ⟨u1, u2⟩ := hA2.ne hu
        have nup : u ≠ p := (ne_of_none hd2 hu).symm
        refine ⟨p, ys, _, rfl, rfl, by rw [upd_ne nup.symm]; exact hd2, line_lt (by omega), ?_⟩
        refine ⟨_, _, _, _, _, rows ++ [told], rfl, (hA2.upd u1 u2).upd n1 n2, ((b1.trans b2).upd ((b1.trans b2).free u1 hu)).upd hp, upd_same, ?_, by rw [List.length_append, rl1]; rfl, fun k r e => ?_⟩
        · rw [del_upd, List.map_append]
          refine (ra2.same (del_new hu)).app (.cons (row_rp ?_ (by omega)) .nil)
          rw [del_ne nup]; exact upd_same
        · by_cases g : k < rows.length
          · rw [List.getElem?_append_left g] at e
            exact rr1 k r e
          · rw [List.getElem?_append_right (by omega)] at e
            have : k = rows.length := by
              by_cases g2 : k = rows.length
              · exact g2
              · obtain ⟨m, hm⟩ : ∃ m, k - rows.length = m + 1 := ⟨k - rows.length - 1, by omega⟩
                rw [hm] at e
                simp at e
            subst this
            rw [Nat.sub_self] at e
            have : told = r := by simpa using e
            subst this
            rw [rl1]; exact ht
    · rintro σ' H1 ⟨l, t, pl, nd, ys, rows, rfl, hA1, b1, hd1, ra1, rl1, rr1⟩
      have ly := ra1.len
      rw [List.length_map] at ly
      refine ⟨_, rfl, p, ys, rfl, .inl ⟨SqL.of hd1, fun u hu => ?_⟩⟩
      obtain ⟨u1, u2⟩ := hA1.ne hu
      exact k _ rows _ (hA1.upd u1 u2) (b1.upd (b1.free u1 hu)) (.tup upd_same (by omega) ((ra1.same del_sub).same (same_upd hu))) rl1 rr1
end
end Hc

set_option Elab.async false
set_option linter.all false
set_option maxRecDepth 100000
set_option maxHeartbeats 2000000
set_option autoImplicit false
namespace Hc
open PySem L2
theorem in_nat0 (r : Nat) (ns : List Nat) (z : Int) (e : z = (r : Nat)) : inV (.int z) (rowV ns) = decide (r ∈ ns) := by
  subst e
  exact in_nat r ns
section
variable {P : Program} {w : World} {K : PySem.W.Frag} {mg : Str → Option Value} {base : Heap}
def spAll : Sp := fun vs H Q _ => ∃ (h : Addr) (n : Nat), vs = [.int (n : Nat)] ∧ n ≤ 8 ∧ ∀ a ys H', Same H H' → H a = none → H' a = some (.lst ys) → RpA H' h ys ((reach n n).map rowD) → Q (.ref a) H'
theorem ok__law_all_places (T : Tx K mg) : FnOk P w K mg base CX0 1 T._law_all_places.f T._law_all_places.fd ["_law_length"] spAll := by
  refine T._law_all_places.F.ok sc_law_all_places (fun vs H Q E h => ?_) (fun cdv A outer s H vs Q E hr h => ?_)
  · obtain ⟨_, _, rfl, _⟩ := h
    rfl
  · obtain ⟨h, n, rfl, hn, k⟩ := h
    refine ⟨_, (pss_cons (ps_set (i := 1) sc_law_all_places.nd rfl (Or.inl rfl) (pe_lst (pa_cons (pe_tup pa_nil) pa_nil)))
      (pss_cons (ps_for PassesOwn.never rfl (pi_range1 (by rfl) T.n_range (pa_cons (pv 0) pa_nil)) (pg_name (i := 2) sc_law_all_places.nd rfl (Or.inl rfl))
      (pss_cons (ps_set (i := 3) sc_law_all_places.nd rfl (Or.inl rfl) (pe_lst pa_nil))
      (pss_cons (ps_for PassesOwn.never rfl (pi_list (pv 1)) (pg_name (i := 4) sc_law_all_places.nd rfl (Or.inl rfl))
      (C8.pss_cut (ps_if (PW.pt (pw_and (pt_cmpR op_lt (pv 2) (pe_op op_sub (pv 0) pe_int) (nomark _)) (pw_and1 (PW.pt (pw_or (pt_cmpR op_eq (pv 2) pe_int (nomark _)) (pw_or1 (pt_cmpR op_in_seq (pe_op op_sub (pv 2) pe_int) (pv 4) (by rfl))))))))
      (pss_one (ps_expr (pe_bm PySem.F.plainAttrs_list PySem.F.slot_list_append PySem.F.type_list_append mt_append (pv 3) (pa_cons (pv 4) pa_nil))))
      pss_nil)
      (pss_one (ps_expr (pe_bm PySem.F.plainAttrs_list PySem.F.slot_list_append PySem.F.type_list_append mt_append (pv 3) (pa_cons (pe_op op_catA (pv 4) (pe_tup (pa_cons (pv 2) pa_nil))) pa_nil))))))
      (pss_one (ps_set (i := 1) sc_law_all_places.nd rfl (Or.inl rfl) (pv 3))))))
      (pss_one (ps_ret (pv 1))))), ?_⟩
    refine ⟨by show 0 ≤ sizeLine; decide, fun t0 ht0 => ⟨by show 1 ≤ sizeLine; decide, fun a0 ha0 => ?_⟩⟩
    have s0 : Same H (upd H t0 (.tup [])) := same_upd ht0
    have et0 : (upd H t0 (.tup [])) t0 = some (.tup []) := upd_same
    have ha00 : H a0 = none := by
      cases z : H a0 with
      | none => rfl
      | some o => rw [s0 _ _ z] at ha0; cases ha0
    generalize upd H t0 (.tup []) = H0 at s0 et0 ha0 ⊢
    have sa : Same H0 (upd H0 a0 (.lst [.ref t0])) := same_upd ha0
    refine ⟨_, rfl, ((n : Nat) : Int), rfl, by omega, by omega, for_range (lo := 0) (n := n) (fun i σ' H' => ∃ (a : Addr) (ys : List V) (pl lt tl : Option V), σ' = [some (.int (n : Nat)), some (.ref a), pl, lt, tl] ∧ Same H H' ∧ H a = none ∧ H' a = some (.lst ys) ∧ RpA H' h ys ((reach n i).map rowD))
      ⟨a0, [.ref t0], none, none, none, rfl, s0.trans sa, ha00, upd_same, .cons (row_rp (r := []) (sa _ _ et0) (Nat.zero_le _)) .nil⟩ ?_ ?_⟩
    · rintro i σ' H1 hi ⟨a, ys, pl, lt, tl, rfl, s1, ha, hd1, ra1⟩
      have ly := ra1.len
      rw [List.length_map] at ly
      have lc := reach_card n i
      have l256 : 2 ^ i ≤ 256 := Nat.pow_le_pow_right (n := 2) (by decide) (show i ≤ 8 by omega)
      refine ⟨by show 0 ≤ sizeLine; decide, fun b hb => ?_⟩
      have nab : a ≠ b := ne_of_none hd1 hb
      have hb0 : H b = none := by
        cases z : H b with
        | none => rfl
        | some o => rw [s1 _ _ z] at hb; cases hb
      have en : ∀ z : Int, (n : Int) - 1 = z → z = (n : Int) - 1 := fun _ e => e.symm
      refine ⟨_, rfl, a, rfl, ⟨ys, SqL.of (by rw [upd_ne nab]; exact hd1)⟩, for_list (K := K) (a := a) (xs := ys) (fun m σ' H' => ∃ (zs : List V) (tl : Option V), σ' = [some (.int (n : Nat)), some (.ref a), some (.int (0 + (i : Nat))), some (.ref b), tl] ∧ Same H1 (fun x => if x = b then none else H' x) ∧
        H' b = some (.lst zs) ∧ RpA (L2.del H' b) h zs ((((reach n i).take m).flatMap (stepR n i)).map rowD))
        ⟨[], tl, rfl, mask_upd hb (Same.refl _), upd_same, .nil⟩ (fun m σ' H' _ ⟨_, _, _, s, _⟩ => SqL.of (mask hb s _ _ hd1)) ?_ ?_⟩
      · rintro m x σ' H2 hx ⟨zs, tl, rfl, s2, hb2, ra2⟩
        have sm := mask hb s2
        obtain ⟨t, ht, rp⟩ := rows_at ra1 hx
        obtain ⟨c, rfl, ec, zc⟩ := rp_row rp
        have mt : t ∈ reach n i := List.mem_of_getElem? ht
        have tle := reach_len mt
        have lz := ra2.len
        rw [List.length_map] at lz
        have l2 := flat_le (step_le n i) ((reach n i).take m)
        have l3 : ((reach n i).take m).length ≤ (reach n i).length := by rw [List.length_take]; omega
        have lt1 : zs.length < sizeLine := line_lt (by omega)
        have lt2 : zs.length + 1 < sizeLine := line_lt (by omega)
        -- behind the first statement: the row itself, if its place may be silent
        refine ⟨fun σ'' H'' => ∃ zs', σ'' = [some (.int (n : Nat)), some (.ref a), some (.int (0 + (i : Nat))), some (.ref b), some (.ref c)] ∧ Same H1 (fun x => if x = b then none else H'' x) ∧ H'' b = some (.lst zs') ∧ zs'.length < sizeLine ∧
          RpA (L2.del H'' b) h zs' ((((reach n i).take m).flatMap (stepR n i) ++ (if i < n - 1 ∧ (i = 0 ∨ i - 1 ∈ t) then [t] else [])).map rowD), ?_, ?_⟩
        · have yes : i < n - 1 ∧ (i = 0 ∨ i - 1 ∈ t) → ∃ zs', ([some (.int (n : Nat)), some (.ref a), some (.int (0 + (i : Nat))), some (.ref b), some (.ref c)] : St) = [some (.int (n : Nat)), some (.ref a), some (.int (0 + (i : Nat))), some (.ref b), some (.ref c)] ∧ Same H1 (fun x => if x = b then none else upd H2 b (.lst (zs ++ [.ref c])) x) ∧ (upd H2 b (.lst (zs ++ [.ref c]))) b = some (.lst zs') ∧ zs'.length < sizeLine ∧
            RpA (L2.del (upd H2 b (.lst (zs ++ [.ref c]))) b) h zs' ((((reach n i).take m).flatMap (stepR n i) ++ (if i < n - 1 ∧ (i = 0 ∨ i - 1 ∈ t) then [t] else [])).map rowD) := fun g => by
            refine ⟨_, rfl, mask_upd hb sm, upd_same, by rw [List.length_append]; exact lt2, ?_⟩
            rw [del_upd, if_pos g, List.map_append]
            refine ra2.app (.cons (row_rp ?_ (by omega)) .nil)
            rw [del_ne (ne_of_none ec hb)]
            exact sm _ _ ec
          have no : ¬ (i < n - 1 ∧ (i = 0 ∨ i - 1 ∈ t)) → ∃ zs', ([some (.int (n : Nat)), some (.ref a), some (.int (0 + (i : Nat))), some (.ref b), some (.ref c)] : St) = [some (.int (n : Nat)), some (.ref a), some (.int (0 + (i : Nat))), some (.ref b), some (.ref c)] ∧ Same H1 (fun x => if x = b then none else H2 x) ∧ H2 b = some (.lst zs') ∧ zs'.length < sizeLine ∧
            RpA (L2.del H2 b) h zs' ((((reach n i).take m).flatMap (stepR n i) ++ (if i < n - 1 ∧ (i = 0 ∨ i - 1 ∈ t) then [t] else [])).map rowD) := fun g => by
            refine ⟨zs, rfl, s2, hb2, lt1, ?_⟩
            rw [if_neg g, List.append_nil]
            exact ra2
          refine ⟨_, rfl, _, rfl, _, _, rfl, rfl, _, _, rfl, rfl, _, rfl, ?_⟩
          by_cases g1 : i < n - 1
          · rw [decide_eq_true (show (0 : Int) + ((i : Nat) : Int) < ((n : Nat) : Int) - 1 by omega)]
            refine iteT ⟨_, rfl, rfl, _, rfl, ?_⟩
            rw [int_eqd]
            by_cases g2 : i = 0
            · rw [decide_eq_true (by omega)]
              refine iteT (iteT ?_)
              exact ⟨_, rfl, .inl ⟨rfl, _, SqL.of hb2⟩, _, rfl, b, _, _, rfl, rfl, hb2, lt1, yes ⟨g1, .inl g2⟩⟩
            · rw [decide_eq_false (by omega)]
              refine iteF ⟨_, rfl, _, _, rfl, rfl, _, rfl, c, rowV t, rfl, .inr (SqT.of (sm _ _ ec)), rfl, flat_nats t, _, rfl, ?_⟩
              show if inV (.int (0 + ((i : Nat) : Int) - 1)) (rowV t) = true then _ else _
              rw [in_nat0 (i - 1) t _ (by omega)]
              by_cases g3 : i - 1 ∈ t
              · rw [decide_eq_true g3]
                refine iteT ?_
                exact ⟨_, rfl, .inl ⟨rfl, _, SqL.of hb2⟩, _, rfl, b, _, _, rfl, rfl, hb2, lt1, yes ⟨g1, .inr g3⟩⟩
              · rw [decide_eq_false g3]
                refine iteF ?_
                exact no fun z => z.2.elim g2 g3
          · rw [decide_eq_false (show ¬ (0 : Int) + ((i : Nat) : Int) < ((n : Nat) : Int) - 1 by omega)]
            refine iteF (iteF ?_)
            exact no fun z => g1 z.1
        · rintro σ'' H3 ⟨zs', rfl, s3, hb3, lt3, ra3⟩
          have sm3 := mask hb s3
          refine ⟨_, rfl, .inl ⟨rfl, _, SqL.of hb3⟩, _, rfl, _, rfl, by show 1 ≤ sizeLine; decide, fun u hu => ?_⟩
          have su : Same H3 (upd H3 u (.tup [.int (0 + (i : Nat))])) := same_upd hu
          have eu : (upd H3 u (.tup [.int (0 + (i : Nat))])) u = some (.tup (rowV [i])) := by
            rw [upd_same, Int.zero_add]; rfl
          have hb4 := su _ _ hb3
          have nub : u ≠ b := (ne_of_none hb3 hu).symm
          have ec4 := su _ _ (sm3 _ _ ec)
          have ra4 := ra3.same (del_new (o := .tup [.int (0 + (i : Nat))]) hu)
          have sm4 := sm3.trans su
          have eq1 : (upd H3 u (.tup [.int (0 + (i : Nat))])) u = some (.tup [.int (0 + (i : Nat))]) := upd_same
          generalize upd H3 u (.tup [.int (0 + (i : Nat))]) = H4 at su eu hb4 ec4 ra4 sm4 eq1 ⊢
          have lrt : (rowV t).length = t.length := by unfold rowV; rw [List.length_map]
          -- the end: the row with this place
          have fin : ∀ (q : Addr) H5, Same H4 H5 → RpA (L2.del H4 b) h [] [] → H5 b = some (.lst zs') → Same (L2.del H4 b) (L2.del H5 b) → q ≠ b → H5 q = some (.tup (rowV (t ++ [i]))) →
              ∃ (zs : List V) (tl : Option V), ([some (.int (n : Nat)), some (.ref a), some (.int (0 + (i : Nat))), some (.ref b), some (.ref c)] : St) = [some (.int (n : Nat)), some (.ref a), some (.int (0 + (i : Nat))), some (.ref b), tl] ∧ Same H1 (fun x => if x = b then none else upd H5 b (.lst (zs' ++ [.ref q])) x) ∧
                (upd H5 b (.lst (zs' ++ [.ref q]))) b = some (.lst zs) ∧ RpA (L2.del (upd H5 b (.lst (zs' ++ [.ref q]))) b) h zs ((((reach n i).take (m + 1)).flatMap (stepR n i)).map rowD) := fun q H5 s5 _ hb5 sd nq eq => by
            refine ⟨_, _, rfl, mask_upd hb (sm4.trans s5), upd_same, ?_⟩
            rw [del_upd, take_more ht, List.flatMap_append, List.flatMap_cons, List.flatMap_nil, List.append_nil]
            rw [show stepR n i t = (if i < n - 1 ∧ (i = 0 ∨ i - 1 ∈ t) then [t] else []) ++ [t ++ [i]] from rfl, ← List.append_assoc, List.map_append]
            refine (ra4.same sd).app (.cons (row_rp ?_ ?_) .nil)
            · rw [del_ne nq]; exact eq
            · rw [List.length_append]
              show t.length + 1 ≤ 1000
              omega
          refine ⟨c, u, rowV t, _, rfl, rfl, SqT.of ec4, SqT.of eq1, line_le (by rw [lrt]; show t.length + 1 ≤ 100000; omega), fun z => ?_, fun z1 z2 => (by cases z2), fun z1 z2 q hq => ?_⟩
          · refine ⟨b, _, _, rfl, rfl, hb4, lt3, ?_⟩
            have z' : t = [] := List.eq_nil_of_length_eq_zero (by rw [← lrt, z]; rfl)
            refine fin u H4 (Same.refl _) .nil hb4 (Same.refl _) nub ?_
            rw [z']
            exact eu
          · have nqb : q ≠ b := (ne_of_none hb4 hq).symm
            refine ⟨b, _, _, rfl, rfl, by rw [upd_ne nqb.symm]; exact hb4, lt3, ?_⟩
            refine fin q _ (same_upd hq) .nil (by rw [upd_ne nqb.symm]; exact hb4) (del_new hq) nqb ?_
            rw [upd_same, Int.zero_add, rowV_snoc]
      · rintro σ' H2 ⟨zs, tl, rfl, s2, hb2, ra2⟩
        have sm := mask hb s2
        rw [ly, List.take_length] at ra2
        refine ⟨_, rfl, b, zs, _, _, _, rfl, s1.trans sm, hb0, hb2, ?_⟩
        exact ra2.same del_sub
    · rintro σ' H1 ⟨a, ys, pl, lt, tl, rfl, s1, ha, hd1, ra1⟩
      exact ⟨_, rfl, k a ys H1 s1 ha hd1 ra1⟩
end
end Hc

set_option Elab.async false
set_option linter.all false
set_option maxRecDepth 100000
set_option maxHeartbeats 2000000
set_option autoImplicit false
namespace Hc
open PySem L2
open PySem.W (alike dataLt)
theorem units65 {k : Nat} {A : Around} (r : Room k A) : A.units + 65 < cLine := by have := r.un; omega
abbrev rLenS (K : PySem.W.Frag) : List V → Hp → VK → Prop := fun xs H Q => ∃ p ys, xs = [V.ref p] ∧ (SqL K H p ys ∨ SqT K H p ys) ∧ Q (.int ys.length) H
def nz (r : List Nat) : List Int := r.map fun (j : Nat) => (j : Int)
theorem rowV_nz (r : List Nat) : rowV r = (nz r).map V.int := by
  unfold rowV nz
  rw [List.map_map]; rfl
def planP (rows : List (List Nat)) : PyData := .tuple (rows.map fun r => rwP (nz r))
def prP (t : List Nat) : PyData := .tuple [.int t.length, rwP (nz t)]
theorem least_in : ∀ i, i < 8 → leastRow i ∈ reach (i + 1) (i + 1) := by decide +kernel
theorem least_lt : ∀ i, i < 8 → ∀ t ∈ reach (i + 1) (i + 1), (leastRow i).length ≤ t.length ∧ (t.length = (leastRow i).length → t = leastRow i ∨ Pl.lexI (nz (leastRow i)) (nz t) = true) := by decide +kernel
theorem least_data : ∀ i, i < 8 → ∀ t ∈ reach (i + 1) (i + 1), dataLt (prP t) (prP (leastRow i)) = false ∧ alike (prP t) (prP (leastRow i)) = true := by decide +kernel
theorem least_nogap : ∀ i, i < 8 → ∀ j, j < i → j ∈ leastRow i ∨ j + 1 ∈ leastRow i := by decide +kernel
theorem least_ok : planOk leastM = true := by decide +kernel
theorem least_len : leastM.length = 8 := rfl
theorem least_get {i : Nat} {r : List Nat} (h : leastM[i]? = some r) : i < 8 ∧ r = leastRow i := by
  have hi : i < leastM.length := (List.getElem?_eq_some_iff.mp h).1
  rw [least_len] at hi
  unfold leastM at h
  rw [List.getElem?_map, List.getElem?_range hi] at h
  exact ⟨hi, (Option.some.inj h).symm⟩
theorem least_at {i : Nat} (hi : i < 8) : leastM[i]? = some (leastRow i) := by
  unfold leastM
  rw [List.getElem?_map, List.getElem?_range hi]; rfl
theorem least_ng : noGap leastM := fun i r h j hj => by
  obtain ⟨h1, rfl⟩ := least_get h
  exact least_nogap i h1 j hj
theorem leastRow_le (l : Nat) (h : l < 8) : (leastRow l).length ≤ 1000 := by
  unfold leastRow
  rw [List.length_map, List.length_range]; omega
theorem least_rr : ∀ r ∈ leastM, r.length ≤ 1000 := fun r hr => by
  obtain ⟨i, hi⟩ := List.getElem?_of_mem hr
  obtain ⟨h1, rfl⟩ := least_get hi
  exact leastRow_le i h1
theorem least_shaped : SeqAt.shaped (planP leastM) = true := by decide +kernel
theorem least_eqv : PyData.eqv (planP leastM) (planP leastM) = true := by decide +kernel
theorem row_eqv (i : Nat) (h : i < 8) : PyData.eqv (rwP (nz (leastRow i))) (rwP (nz (leastRow i))) = true := by
  revert i
  decide +kernel
theorem pr_depth (t : List Nat) : (prP t).depth ≤ 64 := by
  obtain ⟨h3, h4⟩ := lay_row (nz t)
  have h5 : PyData.depth (.int (t.length : Int)) ≤ 1 := by simp [PyData.depth]
  show max (PyData.depth (.int (t.length : Int))) (max (rwP (nz t)).depth 0) + 1 ≤ 64
  omega
theorem dp_rowN {K : PySem.W.Frag} {H : Hp} {a : Addr} {r : List Nat} (e : H a = some (.tup (rowV r))) : Dp K H (.ref a) (rwP (nz r)) := dp_row (by rw [e, rowV_nz])
theorem dp_rows {K : PySem.W.Frag} {H : Hp} {h : Addr} : ∀ {rows : List (List Nat)} {xs : List V}, RpA H h xs (rows.map rowD) → DpAll K H xs (rows.map fun r => rwP (nz r))
  | [], _, .nil => .nil
  | r :: rows, _, .cons a q => by
    obtain ⟨b, rfl, e, _⟩ := rp_row a
    exact .cons (dp_rowN e) (dp_rows q)
theorem dp_plan {K : PySem.W.Frag} {H : Hp} {h : Addr} {v : V} {rows : List (List Nat)} (r : Rp H h v (planD rows)) : Dp K H v (planP rows) := by
  obtain ⟨a, xs, rfl, e, z, q⟩ := tup_inv r
  exact .tup (SqT.of e) (dp_rows q)
/-- the ints at a value -/
def toI : V → Int | .int i => i | _ => 0
def kv (H : Hp) : V → List Int
  | .ref t => match H t with | some (.tup vs) => vs.map toI | _ => []
  | _ => []
theorem rowI (t : List Nat) : (rowV t).map toI = nz t := by
  rw [rowV_nz, List.map_map]
  exact (List.map_congr_left fun x _ => rfl).trans (List.map_id _)
theorem kv_at {H : Hp} {c : Addr} {t : List Nat} (e : H c = some (.tup (rowV t))) : kv H (.ref c) = nz t := by
  show (match H c with | some (.tup vs) => vs.map toI | _ => []) = nz t
  rw [e]
  exact rowI t
/-- the least of the rows comes first -/
theorem first_least {H : Hp} {h : Addr} {i : Nat} (hi : i < 8) {F : List (List Nat)} (hF : ∀ t, t ∈ F ↔ t ∈ reach (i + 1) (i + 1) ∧ t.length = (leastRow i).length) {zs ys : List V} (r : RpA H h zs (F.map rowD))
    (h1 : SrtO.Srtd (fun x y => Pl.lexI (kv H x) (kv H y)) ys) (h2 : ys.Perm zs) : ∃ c, ys[0]? = some (.ref c) ∧ H c = some (.tup (rowV (leastRow i))) := by
  have hl : leastRow i ∈ F := (hF _).mpr ⟨least_in i hi, rfl⟩
  obtain ⟨j, hj⟩ := List.getElem?_of_mem hl
  have lz := r.len
  rw [List.length_map] at lz
  have hjl : j < zs.length := by rw [lz]; exact (List.getElem?_eq_some_iff.mp hj).1
  have hz := List.getElem?_eq_getElem hjl
  obtain ⟨t, ht, rp⟩ := rows_at r hz
  rw [hj] at ht
  cases ht
  obtain ⟨c1, ec1, e1, _⟩ := rp_row rp
  have mem1 : zs[j] ∈ ys := h2.mem_iff.mpr (List.getElem_mem hjl)
  cases ys with
  | nil => cases mem1
  | cons y rest =>
    have my : y ∈ zs := h2.mem_iff.mp (List.mem_cons_self ..)
    obtain ⟨m, hm⟩ := List.getElem?_of_mem my
    obtain ⟨t0, ht0, rp0⟩ := rows_at r hm
    obtain ⟨c0, rfl, e0, _⟩ := rp_row rp0
    refine ⟨c0, rfl, ?_⟩
    obtain ⟨q1, q2⟩ := (hF t0).mp (List.mem_of_getElem? ht0)
    rcases (least_lt i hi t0 q1).2 q2 with g | g
    · rw [← g]; exact e0
    · exfalso
      rw [ec1] at mem1
      rcases List.mem_cons.mp mem1 with z | z
      · have z' := V.ref.inj z
        rw [z', e0] at e1
        have e2 : rowV t0 = rowV (leastRow i) := HO.tup.inj (Option.some.inj e1)
        have e3 : nz t0 = nz (leastRow i) := by
          rw [← rowI, e2, rowI]
        rw [e3] at g
        have := Pl.lexI_asym _ _ g
        rw [g] at this
        cases this
      · have := SrtO.srtd_head h1 _ z
        rw [show Pl.lexI (kv H (.ref c1)) (kv H (.ref c0)) = Pl.lexI (nz (leastRow i)) (nz t0) by rw [kv_at e1, kv_at e0]] at this
        rw [g] at this
        cases this
end Hc

set_option Elab.async false
set_option linter.all false
set_option maxRecDepth 100000
set_option maxHeartbeats 4000000
set_option autoImplicit false
namespace Hc
open PySem L2
open PySem.W (alike dataLt)
def spLaw (K : PySem.W.Frag) : Sp := fun vs H Q _ => ∃ (a : Addr) (ns : List Int), vs = [.ref a] ∧ SqL K H a (ns.map V.int) ∧ ns.length ≤ 63 ∧ ∀ H', Q (.bl true) H'
section
variable {P : Program} {w : World} {K : PySem.W.Frag} {mg : Str → Option Value} {base : Heap}
theorem ok_law (T : Tx K mg) : FnOk P w K mg base CX0 9 T.law.f T.law.fd ["_law_script"] (spLaw K) := by
  refine T.law.F.ok sc_law (fun vs H Q E h => ?_) (fun cdv A outer s H vs Q E hr h => ?_)
  · obtain ⟨a, ns, rfl, _⟩ := h
    rfl
  · obtain ⟨a, ns, rfl, hS, hl, k⟩ := h
    refine ⟨_, (pss_cons (ps_set (i := 1) sc_law.nd rfl (Or.inl rfl) (pe_call (ok__law_hand T) (hr.mono (by decide)) rfl T._law_hand.g T._law_hand.F.kp T._law_hand.b .nil pass0 (pa_cons (pv 0) pa_nil)))
      (pss_cons (ps_set (i := 2) sc_law.nd rfl (Or.inl rfl) (pe_call0 (ok_least_plan T) (hr.mono (by decide)) rfl T.least_plan.g T.least_plan.F.kp T.least_plan.b .nil pass0))
      (C8.pss_cut (ps_if (PW.pt (pw_or (pt_not (pt_val (pe_call (ok__law_flag T) (hr.mono (by decide)) rfl T._law_flag.g T._law_flag.F.kp T._law_flag.b .nil pass0 (pa_cons (pe_call (ok_is_plan T) (hr.mono (by decide)) rfl T.is_plan.g T.is_plan.F.kp T.is_plan.b .nil pass0 (pa_cons (pv 2) pa_nil)) (pa_cons pe_bl pa_nil))))) (pw_or (pt_cmpR (op_neD hr.units) (pe_call (ok_plan_gaps T) (hr.mono (by decide)) rfl T.plan_gaps.g T.plan_gaps.F.kp T.plan_gaps.b .nil pass0 (pa_cons (pv 2) pa_nil)) (pe_lst pa_nil) (nomark _)) (pw_or1 (pt_cmpR (op_neD hr.units) (pe_call (ok__law_gaps T) (hr.mono (by decide)) rfl T._law_gaps.g T._law_gaps.F.kp T._law_gaps.b .nil pass0 (pa_cons (pv 2) pa_nil)) (pe_lst pa_nil) (nomark _))))))
      (pss_one (ps_ret pe_bl))
      pss_nil)
      (pss_cons (ps_for PassesOwn.never rfl (pi_range1 (by rfl) T.n_range (pa_cons pe_int pa_nil)) (pg_name (i := 3) sc_law.nd rfl (Or.inl rfl))
      (pss_cons (ps_set (i := 4) sc_law.nd rfl (Or.inl rfl) (pe_op op_add pe_int (pe_call (ok__law_draw T) (hr.mono (by decide)) rfl T._law_draw.g T._law_draw.F.kp T._law_draw.b .nil pass0 (pa_cons (pv 1) (pa_cons pe_int pa_nil)))))
      (pss_cons (ps_set (i := 5) sc_law.nd rfl (Or.inl rfl) (pe_call (ok__law_all_places T) (hr.mono (by decide)) rfl T._law_all_places.g T._law_all_places.F.kp T._law_all_places.b .nil pass0 (pa_cons (pv 4) pa_nil)))
      (pss_cons (ps_set (i := 6) sc_law.nd rfl (Or.inr rfl) (pe_callB (cr_min rfl) (by rfl) T.n_min (by decide +kernel) (pa_cons (pe_lc (own := [("_law_row", 9)]) (g := (gName 9)) (tt := tYes) (te := (tCB (rLenS K) (tCons (tVar 9) tNil))) rfl sc_law.nd (pi_list (pv 5)) (blkOk_by (own := [("_law_row", 9)]) (N := ["_law_script", "_law_hand_here", "_law_told", "_law_turn", "_law_length", "_law_rows", "_law_fewest", "_law_other", "_law_k", "_law_row"]) (sc := defScope s_law) (by decide +kernel)) (fun _ _ _ _ _ => (pg_name (i := 9) sc_law.nd rfl (Or.inl rfl))) (fun _ _ _ _ _ => pts_nil) (fun _ _ _ _ _ => (by exact (pe_callB call_len_seq (by rfl) T.n_len (by decide +kernel) (pa_cons (pv 9) pa_nil))))) pa_nil)))
      (C8.pss_cut (ps_if (pt_cmpR (op_neD hr.units) (pe_ix ix_tup (pv 2) (pe_op op_sub (pv 4) pe_int) (fun _ _ => rfl)) (pe_ix ix_list (pe_callB cr_sortedR (by rfl) T.n_sorted (by decide +kernel) (pa_cons (pe_lc (own := [("_law_row", 9)]) (g := (gName 9))  (tt := (tTest (tOp rEq (tCB (rLenS K) (tCons (tVar 9) tNil)) (tVar 6)))) rfl sc_law.nd (pi_list (pv 5)) (blkOk_by (own := [("_law_row", 9)]) (N := ["_law_script", "_law_hand_here", "_law_told", "_law_turn", "_law_length", "_law_rows", "_law_fewest", "_law_other", "_law_k", "_law_row"]) (sc := defScope s_law) (by decide +kernel)) (fun _ _ _ _ _ => (pg_name (i := 9) sc_law.nd rfl (Or.inl rfl))) (fun _ _ _ _ _ => (pts_one (by exact (pt_cmpR op_eq (pe_callB call_len_seq (by rfl) T.n_len (by decide +kernel) (pa_cons (pv 9) pa_nil)) (pv 6) (nomark _))))) (fun _ _ _ _ _ => (by exact (pv 9)))) pa_nil)) pe_int (fun _ _ => rfl)) (nomark _))
      (pss_one (ps_ret pe_bl))
      pss_nil)
      (pss_cons (ps_set (i := 7) sc_law.nd rfl (Or.inl rfl) (pe_call (ok__law_plan T) (hr.mono (by decide)) rfl T._law_plan.g T._law_plan.F.kp T._law_plan.b .nil pass0 (pa_cons (pv 1) (pa_cons pe_bl pa_nil))))
      (pss_one (ps_for PassesOwn.never rfl (pi_range1 (by rfl) T.n_range (pa_cons pe_int pa_nil)) (pg_name (i := 8) sc_law.nd rfl (Or.inl rfl))
      (pss_one (ps_if (pt_cmpR (op_ltD (units65 hr)) (pe_tup (pa_cons (pe_callB call_len_seq (by rfl) T.n_len (by decide +kernel) (pa_cons (pe_ix ix_tup (pv 7) (pv 8) (fun _ _ => rfl)) pa_nil)) (pa_cons (pe_ix ix_tup (pv 7) (pv 8) (fun _ _ => rfl)) pa_nil))) (pe_tup (pa_cons (pe_callB call_len_seq (by rfl) T.n_len (by decide +kernel) (pa_cons (pe_ix ix_tup (pv 2) (pv 8) (fun _ _ => rfl)) pa_nil)) (pa_cons (pe_ix ix_tup (pv 2) (pv 8) (fun _ _ => rfl)) pa_nil))) (nomark _))
      (pss_one (ps_ret pe_bl))
      pss_nil))))))))))
      (pss_one (ps_ret (pe_cmpR (op_eqD hr.units) (pe_call0 (ok_least_plan T) (hr.mono (by decide)) rfl T.least_plan.g T.least_plan.F.kp T.least_plan.b .nil pass0) (pv 2) (nomark _)))))))), ?_⟩
    refine ⟨_, rfl, a, ns, rfl, hS, hl, fun h c H1 s1 hA => ?_⟩
    refine ⟨h, rfl, fun p H2 s2 rp => ?_⟩
    refine ⟨fun σ' H' => ∃ (w3 w4 w5 w6 w7 w8 w9 : Option V), σ' = [some (.ref a), some (.ref h), some (.ref p), w3, w4, w5, w6, w7, w8, w9] ∧ Same H2 H', ?_, ?_⟩
    · refine ⟨_, rfl, h, _, leastM, rfl, rp, by rw [least_len]; decide, least_rr, fun H3 s3 => ?_⟩
      rw [least_ok]
      refine ⟨true, true, rfl, _, rfl, ?_⟩
      refine iteF ⟨_, rfl, h, _, leastM, rfl, rp.same s3, by rw [least_len]; decide, least_rr, least_ok, least_ng, fun q1 H4 s4 n4 e4 => ?_⟩
      refine ⟨by show 0 ≤ sizeLine; decide, fun q2 hq2 => ?_⟩
      have s5 : Same H4 (upd H4 q2 (.lst [])) := same_upd hq2
      refine ⟨.list [], .list [], .lst (SqL.of (s5 _ _ e4)) .nil, .lst (SqL.of upd_same) .nil, rfl, rfl, _, rfl, ?_⟩
      refine iteF ⟨_, rfl, h, _, leastM, rfl, ((rp.same s3).same s4).same s5, least_len, least_ng, fun q3 H6 s6 n6 e6 => ?_⟩
      refine ⟨by show 0 ≤ sizeLine; decide, fun q4 hq4 => ?_⟩
      have s7 : Same H6 (upd H6 q4 (.lst [])) := same_upd hq4
      refine ⟨.list [], .list [], .lst (SqL.of (s7 _ _ e6)) .nil, .lst (SqL.of upd_same) .nil, rfl, rfl, _, rfl, ?_⟩
      refine iteF ?_
      exact ⟨_, _, _, _, _, _, _, rfl, s3.trans (s4.trans (s5.trans (s6.trans s7)))⟩
    · rintro σ0 H3 ⟨w3, w4, w5, w6, w7, w8, w9, rfl, s3⟩
      have hA3 := (hA.mono s2).mono s3
      have rp3 := rp.same s3
      refine ⟨2, rfl, by decide, by decide, for_range (lo := 0) (n := 2) (fun _ σ' H' => ∃ (w3 w4 w5 w6 w7 w8 w9 : Option V), σ' = [some (.ref a), some (.ref h), some (.ref p), w3, w4, w5, w6, w7, w8, w9] ∧ HandAt H' h c ∧ Rp H' h (.ref p) (planD leastM))
        ⟨w3, w4, w5, w6, w7, w8, w9, rfl, hA3, rp3⟩ ?_ ?_⟩
      · rintro u σ' H4 hu ⟨w3, w4, w5, w6, w7, w8, w9, rfl, hA4, rp4⟩
        refine ⟨_, rfl, h, c, 8, rfl, hA4, by decide, by decide, fun x H5 x0 x1 hA5 b5 => ⟨_, _, rfl, rfl, ?_⟩⟩
        have rp5 := rp4.mono hA4.lst b5
        obtain ⟨i, rfl⟩ := Int.eq_ofNat_of_zero_le x0
        have hi : i < 8 := by omega
        have ei : (1 : Int) + (i : Int) = ((i + 1 : Nat) : Int) := by omega
        refine ⟨_, rfl, h, i + 1, (by show [V.int (1 + (i : Int))] = _; rw [ei]), by omega, fun a5 ys H6 s6 na5 e6 ra6 => ?_⟩
        have hA6 := hA5.mono s6
        have rp6 := rp5.same s6
        have ly := ra6.len
        rw [List.length_map] at ly
        have lc := reach_card (i + 1) (i + 1)
        have l256 : 2 ^ (i + 1) ≤ 256 := Nat.pow_le_pow_right (n := 2) (by decide) (show i + 1 ≤ 8 by omega)
        -- the fewest places
        refine ⟨_, rfl, a5, rfl, ⟨ys, SqL.of e6⟩, fun D hD => ?_⟩
        refine lc_list (K := K) (a := a5) (xs := ys) (fun m H' => Same H6 (fun b => if b = D then none else H' b) ∧ H' D = some (.lst ((((reach (i + 1) (i + 1)).take m).map fun t => (t.length : Int)).map V.int)))
          ⟨mask_upd hD (Same.refl _), upd_same⟩ (fun m H' _ ⟨s, _⟩ => SqL.of (mask hD s _ _ e6)) ?_ ?_
        · rintro m x H' hx ⟨s, hd⟩
          have sm := mask hD s
          obtain ⟨t, ht, rpt⟩ := rows_at ra6 hx
          obtain ⟨ct, rfl, ect, _⟩ := rp_row rpt
          refine ⟨rfl, tyes ⟨_, rfl, ct, _, rfl, .inr (SqT.of (sm _ _ ect)), _, hd, ?_, mask_upd hD sm, ?_⟩⟩
          · rw [List.length_map, List.length_map, List.length_take]; exact line_lt (by omega)
          · rw [upd_same, take_more ht, List.map_append, List.map_append]
            unfold rowV
            rw [List.length_map]; rfl
        · rintro H7 ⟨s, hd⟩
          rw [ly, List.take_length] at hd
          have s7 := mask hD s
          have hA7 := hA6.mono s7
          have rp7 := rp6.same s7
          have ra7 := ra6.same s7
          have e7 := s7 _ _ e6
          refine ⟨D, _, rfl, SqL.of hd, ?_, fun mn hm hle => ?_⟩
          · rw [List.length_map]
            exact List.length_pos_of_mem (least_in i hi)
          · have emn : mn = ((leastRow i).length : Int) := by
              obtain ⟨t, ht, rfl⟩ := List.mem_map.mp hm
              have h1 := (least_lt i hi t ht).1
              have h2 := hle _ (List.mem_map.mpr ⟨_, least_in i hi, rfl⟩)
              omega
            subst emn
            clear hle hm
            refine ⟨fun σ' H' => ∃ (w7 w8 w9 : Option V), σ' = [some (.ref a), some (.ref h), some (.ref p), some (.int (0 + (u : Nat))), some (.int (1 + (i : Int))), some (.ref a5), some (.int ((leastRow i).length : Int)), w7, w8, w9] ∧ HandAt H' h c ∧ Rp H' h (.ref p) (planD leastM), ?_, ?_⟩
            · have ei2 : (1 : Int) + ((i : Nat) : Int) - 1 = ((i : Nat) : Int) := by omega
              obtain ⟨pp, xp, ep0, ep, zp, qp⟩ := tup_inv rp7
              cases ep0
              have lp : xp.length = 8 := by rw [qp.len, List.length_map, least_len]
              obtain ⟨x1, hx1⟩ : ∃ x1, xp[i]? = some x1 := ⟨_, List.getElem?_eq_getElem (by omega)⟩
              obtain ⟨r, hr', rp1⟩ := rows_at qp hx1
              obtain ⟨_, rfl⟩ := least_get hr'
              obtain ⟨b, rfl, eb, zb⟩ := rp_row rp1
              have ix : ∀ (H' : Hp) (Q' : V → Hp → Prop), Same H7 H' → Q' (.ref b) H' → rIxT K (.ref p) (.int (1 + ((i : Nat) : Int) - 1)) H' Q' := fun H' Q' s' q' => by
                rw [ei2]
                exact ⟨p, xp, _, _, rfl, rfl, SqT.of (s' _ _ ep), atI_nat hx1, q'⟩
              refine ⟨_, rfl, _, rfl, _, _, rfl, rfl, ix _ _ (Same.refl _) ?_⟩
              refine ⟨_, rfl, a5, rfl, ⟨ys, SqL.of e7⟩, fun D2 hD2 => ?_⟩
              refine lc_list (K := K) (a := a5) (xs := ys) (fun m H' => Same H7 (fun b => if b = D2 then none else H' b) ∧ ∃ zs, H' D2 = some (.lst zs) ∧ zs.length ≤ m ∧ RpA H7 h zs ((((reach (i + 1) (i + 1)).take m).filter fun t => decide (t.length = (leastRow i).length)).map rowD))
                ⟨mask_upd hD2 (Same.refl _), [], upd_same, Nat.le_refl _, .nil⟩ (fun m H' _ ⟨s, _⟩ => SqL.of (mask hD2 s _ _ e7)) ?_ ?_
              · rintro m x H' hx ⟨s, zs, hd, lz, rz⟩
                have sm := mask hD2 s
                obtain ⟨t, ht, rpt⟩ := rows_at ra7 hx
                obtain ⟨ct, rfl, ect, _⟩ := rp_row rpt
                have hml : m < ys.length := (List.getElem?_eq_some_iff.mp hx).1
                refine ⟨rfl, _, rfl, ct, _, rfl, .inr (SqT.of (sm _ _ ect)), _, rfl, rfl, _, rfl, ?_⟩
                rw [int_eqd]
                have lrt : (rowV t).length = t.length := by unfold rowV; rw [List.length_map]
                rw [lrt]
                by_cases g : t.length = (leastRow i).length
                · rw [decide_eq_true (by omega)]
                  refine iteT ⟨_, rfl, zs, hd, line_lt (by omega), mask_upd hD2 sm, _, upd_same, by rw [List.length_append]; show zs.length + 1 ≤ m + 1; omega, ?_⟩
                  rw [take_more ht, List.filter_append, List.map_append, List.filter_cons, if_pos (by simpa using g)]
                  exact rz.app (.cons rpt .nil)
                · rw [decide_eq_false (by omega)]
                  refine iteF ⟨s, zs, hd, by omega, ?_⟩
                  rw [take_more ht, List.filter_append, List.filter_cons, if_neg (by simpa using g), List.filter_nil, List.append_nil]
                  exact rz
              · rintro H8 ⟨s, zs, hd, lz, rz⟩
                rw [ly, List.take_length] at rz
                have s8 := mask hD2 s
                have rz8 := rz.same s8
                refine ⟨D2, zs, kv H8, rfl, SqL.of hd, fun x hx => ?_, fun ys2 p2 h1 h2 hp2 => ?_⟩
                · obtain ⟨m, hm⟩ := List.getElem?_of_mem hx
                  obtain ⟨t, ht, rpt⟩ := rows_at rz8 hm
                  obtain ⟨ct, rfl, ect, _⟩ := rp_row rpt
                  have hmem := List.mem_of_getElem? ht
                  have hlen : t.length = (leastRow i).length := of_decide_eq_true (List.mem_filter.mp hmem).2
                  have lpos : 0 < (leastRow i).length := by
                    unfold leastRow; rw [List.length_map, List.length_range]; omega
                  cases t with
                  | nil => exact absurd hlen (by rw [List.length_nil]; omega)
                  | cons t0 t =>
                    refine ⟨ct, (t0 : Int), nz t, rfl, ?_, kv_at ect⟩
                    rw [kv_at ect, ect, rowV_nz]
                · have sp : Same H8 (upd H8 p2 (.lst ys2)) := same_upd hp2
                  obtain ⟨cc, hc0, ecc⟩ := first_least hi (fun t => by
                    rw [List.mem_filter]
                    exact ⟨fun z => ⟨z.1, of_decide_eq_true z.2⟩, fun z => ⟨z.1, decide_eq_true z.2⟩⟩) rz8 h1 h2.perm
                  refine ⟨p2, ys2, _, _, rfl, rfl, SqL.of upd_same, atI_nat (j := 0) hc0, ?_⟩
                  have s9 := s8.trans sp
                  refine ⟨rwP (nz (leastRow i)), rwP (nz (leastRow i)), dp_rowN (s9 _ _ eb), dp_rowN (sp _ _ ecc), shaped_row _, shaped_row _, _, rfl, ?_⟩
                  rw [row_eqv i hi]
                  refine iteF ?_
                  exact ⟨_, _, _, rfl, hA7.mono s9, rp7.same s9⟩
            · rintro σ1 H8 ⟨w7, w8, w9, rfl, hA8, rp8⟩
              refine ⟨_, rfl, h, c, rfl, hA8, fun v rows H9 hA9 b9 rp9 l9 rr9 => ?_⟩
              have rq9 := rp8.mono hA8.lst b9
              obtain ⟨po, xo, rfl, eo, zo, qo⟩ := tup_inv rp9
              obtain ⟨pp, xp, ep0, ep, zp, qp⟩ := tup_inv rq9
              cases ep0
              have lo : xo.length = 8 := by rw [qo.len, List.length_map, l9]
              have lp : xp.length = 8 := by rw [qp.len, List.length_map, least_len]
              refine ⟨8, rfl, by decide, by decide, for_range (lo := 0) (n := 8) (fun _ σ' H' => ∃ (w8 w9 : Option V), σ' = [some (.ref a), some (.ref h), some (.ref p), some (.int (0 + (u : Nat))), some (.int (1 + (i : Int))), some (.ref a5), some (.int ((leastRow i).length : Int)), some (.ref po), w8, w9] ∧ Same H9 H')
                ⟨w8, w9, rfl, Same.refl _⟩ ?_ ?_⟩
              · rintro m σ' H10 hm ⟨w8, w9, rfl, s10⟩
                obtain ⟨x1, hx1⟩ : ∃ x1, xo[m]? = some x1 := ⟨_, List.getElem?_eq_getElem (by omega)⟩
                obtain ⟨r1, hr1, rp1⟩ := rows_at qo hx1
                obtain ⟨b1, rfl, eb1, zb1⟩ := rp_row rp1
                obtain ⟨x2, hx2⟩ : ∃ x2, xp[m]? = some x2 := ⟨_, List.getElem?_eq_getElem (by omega)⟩
                obtain ⟨r2, hr2, rp2⟩ := rows_at qp hx2
                obtain ⟨_, rfl⟩ := least_get hr2
                obtain ⟨b2, rfl, eb2, zb2⟩ := rp_row rp2
                have e0 : (0 : Int) + ((m : Nat) : Int) = ((m : Nat) : Int) := by omega
                have ix1 : ∀ (H' : Hp) (Q' : V → Hp → Prop), Same H9 H' → Q' (.ref b1) H' → rIxT K (.ref po) (.int (0 + ((m : Nat) : Int))) H' Q' := fun H' Q' s' q' => by
                  rw [e0]
                  exact ⟨po, xo, _, _, rfl, rfl, SqT.of (s' _ _ eo), atI_nat hx1, q'⟩
                have ix2 : ∀ (H' : Hp) (Q' : V → Hp → Prop), Same H9 H' → Q' (.ref b2) H' → rIxT K (.ref p) (.int (0 + ((m : Nat) : Int))) H' Q' := fun H' Q' s' q' => by
                  rw [e0]
                  exact ⟨p, xp, _, _, rfl, rfl, SqT.of (s' _ _ ep), atI_nat hx2, q'⟩
                have lv : ∀ r : List Nat, (rowV r).length = r.length := fun r => by unfold rowV; rw [List.length_map]
                refine ⟨_, rfl, _, rfl, ix1 _ _ s10 ⟨b1, _, rfl, .inr (SqT.of (s10 _ _ eb1)), _, rfl, _, rfl, ix1 _ _ s10 ?_⟩⟩
                refine ⟨by show 2 ≤ sizeLine; decide, fun t1 ht1 => ?_⟩
                have s11 : Same H10 (upd H10 t1 (.tup [.int ((rowV r1).length : Nat), .ref b1])) := same_upd ht1
                have q11 := s10.trans s11
                refine ⟨_, rfl, _, rfl, ix2 _ _ q11 ⟨b2, _, rfl, .inr (SqT.of (q11 _ _ eb2)), _, rfl, _, rfl, ix2 _ _ q11 ?_⟩⟩
                refine ⟨by show 2 ≤ sizeLine; decide, fun t2 ht2 => ?_⟩
                have et1 : (upd H10 t1 (.tup [.int ((rowV r1).length : Nat), .ref b1])) t1 = some (.tup [.int ((rowV r1).length : Nat), .ref b1]) := upd_same
                generalize upd H10 t1 (.tup [.int ((rowV r1).length : Nat), .ref b1]) = H11 at s11 q11 et1 ht2 ⊢
                have s12 : Same H11 (upd H11 t2 (.tup [.int ((rowV (leastRow m)).length : Nat), .ref b2])) := same_upd ht2
                have q12 := q11.trans s12
                have et2 : (upd H11 t2 (.tup [.int ((rowV (leastRow m)).length : Nat), .ref b2])) t2 = some (.tup [.int ((rowV (leastRow m)).length : Nat), .ref b2]) := upd_same
                have et1' := s12 _ _ et1
                generalize upd H11 t2 (.tup [.int ((rowV (leastRow m)).length : Nat), .ref b2]) = H12 at s12 q12 et2 et1' ⊢
                rw [lv] at et1' et2
                obtain ⟨d1, d2⟩ := least_data m hm r1 (rr9 m r1 hr1)
                have p1 : Dp K H12 (.ref t1) (prP r1) := .tup (SqT.of et1') (.cons (.int _) (.cons (dp_rowN (q12 _ _ eb1)) .nil))
                have p2 : Dp K H12 (.ref t2) (prP (leastRow m)) := .tup (SqT.of et2) (.cons (.int _) (.cons (dp_rowN (q12 _ _ eb2)) .nil))
                have p3 := pr_depth r1
                refine ⟨prP r1, prP (leastRow m), p1, p2, d2, (show prP r1 ≠ PyData.none from fun z => PyData.noConfusion z), (by have := Nat.min_le_left (prP r1).depth (prP (leastRow m)).depth; omega), _, rfl, ?_⟩
                rw [d1]
                refine iteF ?_
                exact ⟨_, _, rfl, q12⟩
              · rintro σ' H10 ⟨w8, w9, rfl, s10⟩
                exact ⟨_, _, _, _, _, _, _, rfl, hA9.mono s10, rq9.same s10⟩
      · rintro σ' H4 ⟨w3, w4, w5, w6, w7, w8, w9, rfl, hA4, rp4⟩
        refine ⟨h, rfl, fun p2 H5 s5 rp5 => ?_⟩
        refine ⟨_, rfl, planP leastM, planP leastM, dp_plan rp5, dp_plan (rp4.same s5), least_shaped, least_shaped, ?_⟩
        rw [least_eqv]
        exact k _
end
end Hc

set_option Elab.async false
set_option linter.all false
set_option maxRecDepth 100000
set_option maxHeartbeats 4000000
set_option autoImplicit false
namespace Hc
open PySem L2
/-- an error of the class at S is what «except S» names -/
theorem exm_self {K : PySem.W.Frag} {S : Addr} (h1 : PySem.W.subIn K (.ref S) (.type "BaseException") = some true) (h2 : PySem.W.isClsIn K S = true) (h3 : PySem.W.typeIn K (.ref S) = some (.type "type")) (h4 : PySem.W.subIn K (.ref S) (.ref S) = some true) :
    PySem.W.exmOne K (.ref S) (.ref S) = some true := by
  have e1 : (PySem.W.subIn K (.ref S) (.type "BaseException") == some true) = true := by rw [h1] <;> rfl
  have e2 : ((PySem.W.clsIn K S).isSome && PySem.W.typeIn K (.ref S) == some (.type "type")) = true := by
    have h2' : (PySem.W.clsIn K S).isSome = true := h2
    rw [h2', h3] <;> rfl
  show (if (PySem.W.subIn K (.ref S) (.type "BaseException") == some true) = true then (if ((PySem.W.clsIn K S).isSome && PySem.W.typeIn K (.ref S) == some (.type "type")) = true then PySem.W.subIn K (.ref S) (.ref S) else none) else none) = some true
  rw [if_pos e1, if_pos e2]
  exact h4
/-- an error of one class is not what «except» of another names -/
theorem exm_two {K : PySem.W.Frag} {S R : Addr} (h1 : PySem.W.subIn K (.ref R) (.type "BaseException") = some true) (h2 : PySem.W.isClsIn K R = true) (h3 : PySem.W.typeIn K (.ref R) = some (.type "type")) {b : Bool} (h4 : PySem.W.subIn K (.ref S) (.ref R) = some b) :
    PySem.W.exmOne K (.ref S) (.ref R) = some b := by
  have e1 : (PySem.W.subIn K (.ref R) (.type "BaseException") == some true) = true := by rw [h1] <;> rfl
  have e2 : ((PySem.W.clsIn K R).isSome && PySem.W.typeIn K (.ref R) == some (.type "type")) = true := by
    have h2' : (PySem.W.clsIn K R).isSome = true := h2
    rw [h2', h3] <;> rfl
  show (if (PySem.W.subIn K (.ref R) (.type "BaseException") == some true) = true then (if ((PySem.W.clsIn K R).isSome && PySem.W.typeIn K (.ref R) == some (.type "type")) = true then PySem.W.subIn K (.ref S) (.ref R) else none) else none) = some b
  rw [if_pos e1, if_pos e2]
  exact h4
theorem tx_mk {K : PySem.W.Frag} {h : Heap} {mg : Str → Option Value} (X : K.In h) (G : h.Ns mainGlobals mg)
    {fisqinteger : Addr} {odisqinteger anisqinteger : Option Addr} {slisqinteger : Array (Option Value)} {ocisqinteger kVisqinteger dcisqinteger pmisqinteger cdisqinteger ctisqinteger : Value}
    {fisqtuple : Addr} {odisqtuple anisqtuple : Option Addr} {slisqtuple : Array (Option Value)} {ocisqtuple kVisqtuple dcisqtuple pmisqtuple cdisqtuple ctisqtuple : Value}
    {fareqintegers : Addr} {odareqintegers anareqintegers : Option Addr} {slareqintegers : Array (Option Value)} {ocareqintegers kVareqintegers dcareqintegers pmareqintegers cdareqintegers ctareqintegers : Value}
    {fareqbetween : Addr} {odareqbetween anareqbetween : Option Addr} {slareqbetween : Array (Option Value)} {ocareqbetween kVareqbetween dcareqbetween pmareqbetween cdareqbetween ctareqbetween : Value}
    {fisqplan : Addr} {odisqplan anisqplan : Option Addr} {slisqplan : Array (Option Value)} {ocisqplan kVisqplan dcisqplan pmisqplan cdisqplan ctisqplan : Value}
    {fareqtoldqplaces : Addr} {odareqtoldqplaces anareqtoldqplaces : Option Addr} {slareqtoldqplaces : Array (Option Value)} {ocareqtoldqplaces kVareqtoldqplaces dcareqtoldqplaces pmareqtoldqplaces cdareqtoldqplaces ctareqtoldqplaces : Value}
    {fcheckqplan : Addr} {odcheckqplan ancheckqplan : Option Addr} {slcheckqplan : Array (Option Value)} {occheckqplan kVcheckqplan dccheckqplan pmcheckqplan cdcheckqplan ctcheckqplan : Value}
    {fplanqgaps : Addr} {odplanqgaps anplanqgaps : Option Addr} {slplanqgaps : Array (Option Value)} {ocplanqgaps kVplanqgaps dcplanqgaps pmplanqgaps cdplanqgaps ctplanqgaps : Value}
    {fleastqplan : Addr} {odleastqplan anleastqplan : Option Addr} {slleastqplan : Array (Option Value)} {ocleastqplan kVleastqplan dcleastqplan pmleastqplan cdleastqplan ctleastqplan : Value}
    {fqlawqhand : Addr} {odqlawqhand anqlawqhand : Option Addr} {slqlawqhand : Array (Option Value)} {ocqlawqhand kVqlawqhand dcqlawqhand pmqlawqhand cdqlawqhand ctqlawqhand : Value}
    {fqlawqdraw : Addr} {odqlawqdraw anqlawqdraw : Option Addr} {slqlawqdraw : Array (Option Value)} {ocqlawqdraw kVqlawqdraw dcqlawqdraw pmqlawqdraw cdqlawqdraw ctqlawqdraw : Value}
    {fqlawqflag : Addr} {odqlawqflag anqlawqflag : Option Addr} {slqlawqflag : Array (Option Value)} {ocqlawqflag kVqlawqflag dcqlawqflag pmqlawqflag cdqlawqflag ctqlawqflag : Value}
    {fqlawqplan : Addr} {odqlawqplan anqlawqplan : Option Addr} {slqlawqplan : Array (Option Value)} {ocqlawqplan kVqlawqplan dcqlawqplan pmqlawqplan cdqlawqplan ctqlawqplan : Value}
    {fqlawqgaps : Addr} {odqlawqgaps anqlawqgaps : Option Addr} {slqlawqgaps : Array (Option Value)} {ocqlawqgaps kVqlawqgaps dcqlawqgaps pmqlawqgaps cdqlawqgaps ctqlawqgaps : Value}
    {fqlawqallqplaces : Addr} {odqlawqallqplaces anqlawqallqplaces : Option Addr} {slqlawqallqplaces : Array (Option Value)} {ocqlawqallqplaces kVqlawqallqplaces dcqlawqallqplaces pmqlawqallqplaces cdqlawqallqplaces ctqlawqallqplaces : Value}
    {flaw : Addr} {odlaw anlaw : Option Addr} {sllaw : Array (Option Value)} {oclaw kVlaw dclaw pmlaw cdlaw ctlaw : Value}
    {tLONGESTqWAY : Tok}
    (aisqinteger : PySem.W.nsIn K mainGlobals "is_integer" = some (some (.ref fisqinteger)))
    (lisqinteger : K.lookup fisqinteger = some ⟨ocisqinteger, odisqinteger, .func (PySem.W.fnOf "is_integer" "is_integer" (defArgs s_is_integer) (defBody s_is_integer) (defScope s_is_integer) .none kVisqinteger dcisqinteger pmisqinteger anisqinteger cdisqinteger ctisqinteger), slisqinteger⟩)
    (cisqinteger : PySem.W.codeIn K cdisqinteger "is_integer" = true)
    (kisqinteger : PySem.W.keepIn K (.ref fisqinteger) = true)
    (aisqtuple : PySem.W.nsIn K mainGlobals "is_tuple" = some (some (.ref fisqtuple)))
    (lisqtuple : K.lookup fisqtuple = some ⟨ocisqtuple, odisqtuple, .func (PySem.W.fnOf "is_tuple" "is_tuple" (defArgs s_is_tuple) (defBody s_is_tuple) (defScope s_is_tuple) .none kVisqtuple dcisqtuple pmisqtuple anisqtuple cdisqtuple ctisqtuple), slisqtuple⟩)
    (cisqtuple : PySem.W.codeIn K cdisqtuple "is_tuple" = true)
    (kisqtuple : PySem.W.keepIn K (.ref fisqtuple) = true)
    (aareqintegers : PySem.W.nsIn K mainGlobals "are_integers" = some (some (.ref fareqintegers)))
    (lareqintegers : K.lookup fareqintegers = some ⟨ocareqintegers, odareqintegers, .func (PySem.W.fnOf "are_integers" "are_integers" (defArgs s_are_integers) (defBody s_are_integers) (defScope s_are_integers) .none kVareqintegers dcareqintegers pmareqintegers anareqintegers cdareqintegers ctareqintegers), slareqintegers⟩)
    (careqintegers : PySem.W.codeIn K cdareqintegers "are_integers" = true)
    (kareqintegers : PySem.W.keepIn K (.ref fareqintegers) = true)
    (aareqbetween : PySem.W.nsIn K mainGlobals "are_between" = some (some (.ref fareqbetween)))
    (lareqbetween : K.lookup fareqbetween = some ⟨ocareqbetween, odareqbetween, .func (PySem.W.fnOf "are_between" "are_between" (defArgs s_are_between) (defBody s_are_between) (defScope s_are_between) .none kVareqbetween dcareqbetween pmareqbetween anareqbetween cdareqbetween ctareqbetween), slareqbetween⟩)
    (careqbetween : PySem.W.codeIn K cdareqbetween "are_between" = true)
    (kareqbetween : PySem.W.keepIn K (.ref fareqbetween) = true)
    (aisqplan : PySem.W.nsIn K mainGlobals "is_plan" = some (some (.ref fisqplan)))
    (lisqplan : K.lookup fisqplan = some ⟨ocisqplan, odisqplan, .func (PySem.W.fnOf "is_plan" "is_plan" (defArgs s_is_plan) (defBody s_is_plan) (defScope s_is_plan) .none kVisqplan dcisqplan pmisqplan anisqplan cdisqplan ctisqplan), slisqplan⟩)
    (cisqplan : PySem.W.codeIn K cdisqplan "is_plan" = true)
    (kisqplan : PySem.W.keepIn K (.ref fisqplan) = true)
    (aareqtoldqplaces : PySem.W.nsIn K mainGlobals "are_told_places" = some (some (.ref fareqtoldqplaces)))
    (lareqtoldqplaces : K.lookup fareqtoldqplaces = some ⟨ocareqtoldqplaces, odareqtoldqplaces, .func (PySem.W.fnOf "are_told_places" "are_told_places" (defArgs s_are_told_places) (defBody s_are_told_places) (defScope s_are_told_places) .none kVareqtoldqplaces dcareqtoldqplaces pmareqtoldqplaces anareqtoldqplaces cdareqtoldqplaces ctareqtoldqplaces), slareqtoldqplaces⟩)
    (careqtoldqplaces : PySem.W.codeIn K cdareqtoldqplaces "are_told_places" = true)
    (kareqtoldqplaces : PySem.W.keepIn K (.ref fareqtoldqplaces) = true)
    (acheckqplan : PySem.W.nsIn K mainGlobals "check_plan" = some (some (.ref fcheckqplan)))
    (lcheckqplan : K.lookup fcheckqplan = some ⟨occheckqplan, odcheckqplan, .func (PySem.W.fnOf "check_plan" "check_plan" (defArgs s_check_plan) (defBody s_check_plan) (defScope s_check_plan) .none kVcheckqplan dccheckqplan pmcheckqplan ancheckqplan cdcheckqplan ctcheckqplan), slcheckqplan⟩)
    (ccheckqplan : PySem.W.codeIn K cdcheckqplan "check_plan" = true)
    (kcheckqplan : PySem.W.keepIn K (.ref fcheckqplan) = true)
    (aplanqgaps : PySem.W.nsIn K mainGlobals "plan_gaps" = some (some (.ref fplanqgaps)))
    (lplanqgaps : K.lookup fplanqgaps = some ⟨ocplanqgaps, odplanqgaps, .func (PySem.W.fnOf "plan_gaps" "plan_gaps" (defArgs s_plan_gaps) (defBody s_plan_gaps) (defScope s_plan_gaps) .none kVplanqgaps dcplanqgaps pmplanqgaps anplanqgaps cdplanqgaps ctplanqgaps), slplanqgaps⟩)
    (cplanqgaps : PySem.W.codeIn K cdplanqgaps "plan_gaps" = true)
    (kplanqgaps : PySem.W.keepIn K (.ref fplanqgaps) = true)
    (aleastqplan : PySem.W.nsIn K mainGlobals "least_plan" = some (some (.ref fleastqplan)))
    (lleastqplan : K.lookup fleastqplan = some ⟨ocleastqplan, odleastqplan, .func (PySem.W.fnOf "least_plan" "least_plan" (defArgs s_least_plan) (defBody s_least_plan) (defScope s_least_plan) .none kVleastqplan dcleastqplan pmleastqplan anleastqplan cdleastqplan ctleastqplan), slleastqplan⟩)
    (cleastqplan : PySem.W.codeIn K cdleastqplan "least_plan" = true)
    (kleastqplan : PySem.W.keepIn K (.ref fleastqplan) = true)
    (aqlawqhand : PySem.W.nsIn K mainGlobals "_law_hand" = some (some (.ref fqlawqhand)))
    (lqlawqhand : K.lookup fqlawqhand = some ⟨ocqlawqhand, odqlawqhand, .func (PySem.W.fnOf "_law_hand" "_law_hand" (defArgs s_law_hand) (defBody s_law_hand) (defScope s_law_hand) .none kVqlawqhand dcqlawqhand pmqlawqhand anqlawqhand cdqlawqhand ctqlawqhand), slqlawqhand⟩)
    (cqlawqhand : PySem.W.codeIn K cdqlawqhand "_law_hand" = true)
    (kqlawqhand : PySem.W.keepIn K (.ref fqlawqhand) = true)
    (aqlawqdraw : PySem.W.nsIn K mainGlobals "_law_draw" = some (some (.ref fqlawqdraw)))
    (lqlawqdraw : K.lookup fqlawqdraw = some ⟨ocqlawqdraw, odqlawqdraw, .func (PySem.W.fnOf "_law_draw" "_law_draw" (defArgs s_law_draw) (defBody s_law_draw) (defScope s_law_draw) .none kVqlawqdraw dcqlawqdraw pmqlawqdraw anqlawqdraw cdqlawqdraw ctqlawqdraw), slqlawqdraw⟩)
    (cqlawqdraw : PySem.W.codeIn K cdqlawqdraw "_law_draw" = true)
    (kqlawqdraw : PySem.W.keepIn K (.ref fqlawqdraw) = true)
    (aqlawqflag : PySem.W.nsIn K mainGlobals "_law_flag" = some (some (.ref fqlawqflag)))
    (lqlawqflag : K.lookup fqlawqflag = some ⟨ocqlawqflag, odqlawqflag, .func (PySem.W.fnOf "_law_flag" "_law_flag" (defArgs s_law_flag) (defBody s_law_flag) (defScope s_law_flag) .none kVqlawqflag dcqlawqflag pmqlawqflag anqlawqflag cdqlawqflag ctqlawqflag), slqlawqflag⟩)
    (cqlawqflag : PySem.W.codeIn K cdqlawqflag "_law_flag" = true)
    (kqlawqflag : PySem.W.keepIn K (.ref fqlawqflag) = true)
    (aqlawqplan : PySem.W.nsIn K mainGlobals "_law_plan" = some (some (.ref fqlawqplan)))
    (lqlawqplan : K.lookup fqlawqplan = some ⟨ocqlawqplan, odqlawqplan, .func (PySem.W.fnOf "_law_plan" "_law_plan" (defArgs s_law_plan) (defBody s_law_plan) (defScope s_law_plan) .none kVqlawqplan dcqlawqplan pmqlawqplan anqlawqplan cdqlawqplan ctqlawqplan), slqlawqplan⟩)
    (cqlawqplan : PySem.W.codeIn K cdqlawqplan "_law_plan" = true)
    (kqlawqplan : PySem.W.keepIn K (.ref fqlawqplan) = true)
    (aqlawqgaps : PySem.W.nsIn K mainGlobals "_law_gaps" = some (some (.ref fqlawqgaps)))
    (lqlawqgaps : K.lookup fqlawqgaps = some ⟨ocqlawqgaps, odqlawqgaps, .func (PySem.W.fnOf "_law_gaps" "_law_gaps" (defArgs s_law_gaps) (defBody s_law_gaps) (defScope s_law_gaps) .none kVqlawqgaps dcqlawqgaps pmqlawqgaps anqlawqgaps cdqlawqgaps ctqlawqgaps), slqlawqgaps⟩)
    (cqlawqgaps : PySem.W.codeIn K cdqlawqgaps "_law_gaps" = true)
    (kqlawqgaps : PySem.W.keepIn K (.ref fqlawqgaps) = true)
    (aqlawqallqplaces : PySem.W.nsIn K mainGlobals "_law_all_places" = some (some (.ref fqlawqallqplaces)))
    (lqlawqallqplaces : K.lookup fqlawqallqplaces = some ⟨ocqlawqallqplaces, odqlawqallqplaces, .func (PySem.W.fnOf "_law_all_places" "_law_all_places" (defArgs s_law_all_places) (defBody s_law_all_places) (defScope s_law_all_places) .none kVqlawqallqplaces dcqlawqallqplaces pmqlawqallqplaces anqlawqallqplaces cdqlawqallqplaces ctqlawqallqplaces), slqlawqallqplaces⟩)
    (cqlawqallqplaces : PySem.W.codeIn K cdqlawqallqplaces "_law_all_places" = true)
    (kqlawqallqplaces : PySem.W.keepIn K (.ref fqlawqallqplaces) = true)
    (alaw : PySem.W.nsIn K mainGlobals "law" = some (some (.ref flaw)))
    (llaw : K.lookup flaw = some ⟨oclaw, odlaw, .func (PySem.W.fnOf "law" "law" (defArgs s_law) (defBody s_law) (defScope s_law) .none kVlaw dclaw pmlaw anlaw cdlaw ctlaw), sllaw⟩)
    (claw : PySem.W.codeIn K cdlaw "law" = true)
    (klaw : PySem.W.keepIn K (.ref flaw) = true)
    (aLONGESTqWAY : PySem.W.nsIn K mainGlobals "LONGEST_WAY" = some (some (.int 8 tLONGESTqWAY)))
    (anqisinstance : PySem.W.nsIn K mainGlobals "isinstance" = some none)
    (anqint : PySem.W.nsIn K mainGlobals "int" = some none)
    (anqbool : PySem.W.nsIn K mainGlobals "bool" = some none)
    (anqtuple : PySem.W.nsIn K mainGlobals "tuple" = some none)
    (anqlen : PySem.W.nsIn K mainGlobals "len" = some none)
    (anqall : PySem.W.nsIn K mainGlobals "all" = some none)
    (anqabs : PySem.W.nsIn K mainGlobals "abs" = some none)
    (anqrange : PySem.W.nsIn K mainGlobals "range" = some none)
    (anqzip : PySem.W.nsIn K mainGlobals "zip" = some none)
    (anqenumerate : PySem.W.nsIn K mainGlobals "enumerate" = some none)
    (anqmin : PySem.W.nsIn K mainGlobals "min" = some none)
    (anqsorted : PySem.W.nsIn K mainGlobals "sorted" = some none) :
    ∃ T : Tx K mg, ∀ (s : Shared) (v : Value), BindsTo s T.law.fd ⟨[v], []⟩ [("_law_script", v)] := by
  refine ⟨{
    is_integer := ⟨fisqinteger, _, fun_mk (st := s_is_integer) lisqinteger cisqinteger kisqinteger, PySem.W.mg_of X G aisqinteger, (fun_mk (st := s_is_integer) lisqinteger cisqinteger kisqinteger).binds (fun _ _ _ _ _ _ us hl => match us, hl with | [_], _ => rfl)⟩
    is_tuple := ⟨fisqtuple, _, fun_mk (st := s_is_tuple) lisqtuple cisqtuple kisqtuple, PySem.W.mg_of X G aisqtuple, (fun_mk (st := s_is_tuple) lisqtuple cisqtuple kisqtuple).binds (fun _ _ _ _ _ _ us hl => match us, hl with | [_, _], _ => rfl)⟩
    are_integers := ⟨fareqintegers, _, fun_mk (st := s_are_integers) lareqintegers careqintegers kareqintegers, PySem.W.mg_of X G aareqintegers, (fun_mk (st := s_are_integers) lareqintegers careqintegers kareqintegers).binds (fun _ _ _ _ _ _ us hl => match us, hl with | [_, _], _ => rfl)⟩
    are_between := ⟨fareqbetween, _, fun_mk (st := s_are_between) lareqbetween careqbetween kareqbetween, PySem.W.mg_of X G aareqbetween, (fun_mk (st := s_are_between) lareqbetween careqbetween kareqbetween).binds (fun _ _ _ _ _ _ us hl => match us, hl with | [_, _, _, _], _ => rfl)⟩
    is_plan := ⟨fisqplan, _, fun_mk (st := s_is_plan) lisqplan cisqplan kisqplan, PySem.W.mg_of X G aisqplan, (fun_mk (st := s_is_plan) lisqplan cisqplan kisqplan).binds (fun _ _ _ _ _ _ us hl => match us, hl with | [_], _ => rfl)⟩
    are_told_places := ⟨fareqtoldqplaces, _, fun_mk (st := s_are_told_places) lareqtoldqplaces careqtoldqplaces kareqtoldqplaces, PySem.W.mg_of X G aareqtoldqplaces, (fun_mk (st := s_are_told_places) lareqtoldqplaces careqtoldqplaces kareqtoldqplaces).binds (fun _ _ _ _ _ _ us hl => match us, hl with | [_, _], _ => rfl)⟩
    check_plan := ⟨fcheckqplan, _, fun_mk (st := s_check_plan) lcheckqplan ccheckqplan kcheckqplan, PySem.W.mg_of X G acheckqplan, (fun_mk (st := s_check_plan) lcheckqplan ccheckqplan kcheckqplan).binds (fun _ _ _ _ _ _ us hl => match us, hl with | [_], _ => rfl)⟩
    plan_gaps := ⟨fplanqgaps, _, fun_mk (st := s_plan_gaps) lplanqgaps cplanqgaps kplanqgaps, PySem.W.mg_of X G aplanqgaps, (fun_mk (st := s_plan_gaps) lplanqgaps cplanqgaps kplanqgaps).binds (fun _ _ _ _ _ _ us hl => match us, hl with | [_], _ => rfl)⟩
    least_plan := ⟨fleastqplan, _, fun_mk (st := s_least_plan) lleastqplan cleastqplan kleastqplan, PySem.W.mg_of X G aleastqplan, (fun_mk (st := s_least_plan) lleastqplan cleastqplan kleastqplan).binds (fun _ _ _ _ _ _ us hl => match us, hl with | [], _ => rfl)⟩
    _law_hand := ⟨fqlawqhand, _, fun_mk (st := s_law_hand) lqlawqhand cqlawqhand kqlawqhand, PySem.W.mg_of X G aqlawqhand, (fun_mk (st := s_law_hand) lqlawqhand cqlawqhand kqlawqhand).binds (fun _ _ _ _ _ _ us hl => match us, hl with | [_], _ => rfl)⟩
    _law_draw := ⟨fqlawqdraw, _, fun_mk (st := s_law_draw) lqlawqdraw cqlawqdraw kqlawqdraw, PySem.W.mg_of X G aqlawqdraw, (fun_mk (st := s_law_draw) lqlawqdraw cqlawqdraw kqlawqdraw).binds (fun _ _ _ _ _ _ us hl => match us, hl with | [_, _], _ => rfl)⟩
    _law_flag := ⟨fqlawqflag, _, fun_mk (st := s_law_flag) lqlawqflag cqlawqflag kqlawqflag, PySem.W.mg_of X G aqlawqflag, (fun_mk (st := s_law_flag) lqlawqflag cqlawqflag kqlawqflag).binds (fun _ _ _ _ _ _ us hl => match us, hl with | [_, _], _ => rfl)⟩
    _law_plan := ⟨fqlawqplan, _, fun_mk (st := s_law_plan) lqlawqplan cqlawqplan kqlawqplan, PySem.W.mg_of X G aqlawqplan, (fun_mk (st := s_law_plan) lqlawqplan cqlawqplan kqlawqplan).binds (fun _ _ _ _ _ _ us hl => match us, hl with | [_, _], _ => rfl)⟩
    _law_gaps := ⟨fqlawqgaps, _, fun_mk (st := s_law_gaps) lqlawqgaps cqlawqgaps kqlawqgaps, PySem.W.mg_of X G aqlawqgaps, (fun_mk (st := s_law_gaps) lqlawqgaps cqlawqgaps kqlawqgaps).binds (fun _ _ _ _ _ _ us hl => match us, hl with | [_], _ => rfl)⟩
    _law_all_places := ⟨fqlawqallqplaces, _, fun_mk (st := s_law_all_places) lqlawqallqplaces cqlawqallqplaces kqlawqallqplaces, PySem.W.mg_of X G aqlawqallqplaces, (fun_mk (st := s_law_all_places) lqlawqallqplaces cqlawqallqplaces kqlawqallqplaces).binds (fun _ _ _ _ _ _ us hl => match us, hl with | [_], _ => rfl)⟩
    law := ⟨flaw, _, fun_mk (st := s_law) llaw claw klaw, PySem.W.mg_of X G alaw, (fun_mk (st := s_law) llaw claw klaw).binds (fun _ _ _ _ _ _ us hl => match us, hl with | [_], _ => rfl)⟩
    c_LONGEST_WAY := ⟨_, PySem.W.mg_of X G aLONGESTqWAY⟩
    n_isinstance := PySem.W.mg_none_of X G anqisinstance
    n_int := PySem.W.mg_none_of X G anqint
    n_bool := PySem.W.mg_none_of X G anqbool
    n_tuple := PySem.W.mg_none_of X G anqtuple
    n_len := PySem.W.mg_none_of X G anqlen
    n_all := PySem.W.mg_none_of X G anqall
    n_abs := PySem.W.mg_none_of X G anqabs
    n_range := PySem.W.mg_none_of X G anqrange
    n_zip := PySem.W.mg_none_of X G anqzip
    n_enumerate := PySem.W.mg_none_of X G anqenumerate
    n_min := PySem.W.mg_none_of X G anqmin
    n_sorted := PySem.W.mg_none_of X G anqsorted
  }, fun s v => .of_eq rfl⟩

theorem fin {l : PySem.W.OpenLaw} {w : World} {K : PySem.W.Frag} {mg : Str → Option Value} {fa : Addr} (hfa : mg "law" = some (.ref fa)) (h : ∃ T : Tx K mg, ∀ (s : Shared) (v : Value), BindsTo s T.law.fd ⟨[v], []⟩ [("_law_script", v)]) :
    ∃ fd : FuncData, (∀ (s : Shared) (v : Value), BindsTo s fd ⟨[v], []⟩ [("_law_script", v)]) ∧ ∀ base : Heap, K.In base → base.Ns mainGlobals mg → FnOk l.prog w K mg base CX0 9 fa fd ["_law_script"] (spLaw K) := by
  obtain ⟨T, b⟩ := h
  have e := hfa.symm.trans T.law.g
  cases e
  exact ⟨T.law.fd, b, fun base _ _ => ok_law T⟩
theorem walk {l : PySem.W.OpenLaw} {q : Program} {loose : List Str} {XP : (Str → Option Value) → Heap → Prop} {YP : World → Heap → Prop} {d : DefRec} {K : Params → PySem.W.Frag} (hn : l.most = some 63) (hdf : d.params.defaults = [])
    (hY : ∀ (w : World) (h : Heap), YP w h → (K w.params).In h)
    (F : ∀ (w : World) (mg : Str → Option Value) (fa : Addr) (h : Heap), (K w.params).In h → h.Ns mainGlobals mg → mg d.name = some (.ref fa) →
      ∃ fd : FuncData, (∀ (s : Shared) (u : Value), BindsTo s fd ⟨[u], []⟩ [("_law_script", u)]) ∧ ∀ base : Heap, (K w.params).In base → base.Ns mainGlobals mg → FnOk l.prog w (K w.params) mg base CX0 9 fa fd ["_law_script"] (spLaw (K w.params))) :
    PySem.W.WalkO q loose XP YP l.row.toRowW d [] (fun f vs => PySem.call f vs) :=
  L2.walk_of (n := 63) (k := 9) (x := "_law_script") (CX := fun _ => CX0) (sp := fun w => spLaw (K w.params)) hn (by decide) hdf ⟨rfl, by decide, by decide⟩ hY F (fun _ _ a ns hl _ hS => ⟨a, ns, rfl, hS, hl, fun _ => rfl⟩) fun _ _ _ _ _ z => z
end Hc

set_option Elab.async false
set_option linter.all false
open PySem PySem.W PyProof.Rows
set_option maxRecDepth 100000 in
set_option maxHeartbeats 0 in
theorem PySem.Challenge.cw_hourcards_k77_whole_least_plan_holds : PySem.Challenge.rw_hourcards_k77_whole_least_plan.Holds := by
  w_on; o_law; k_head; (case hw => w_witness2)
  k_fill
  refine Hc.walk (l := PySem.Challenge.rw_hourcards_k77_whole_least_plan) rfl rfl (fun w h Y => PySem.W.kIn_of Y) ?F
  case F =>
    intro w mg fa h KX G hmg
    refine Hc.fin hmg ?T
    refine' Hc.tx_mk KX G ?aisqinteger ?lisqinteger ?cisqinteger ?kisqinteger ?aisqtuple ?lisqtuple ?cisqtuple ?kisqtuple ?aareqintegers ?lareqintegers ?careqintegers ?kareqintegers ?aareqbetween ?lareqbetween ?careqbetween ?kareqbetween ?aisqplan ?lisqplan ?cisqplan ?kisqplan ?aareqtoldqplaces ?lareqtoldqplaces ?careqtoldqplaces ?kareqtoldqplaces ?acheckqplan ?lcheckqplan ?ccheckqplan ?kcheckqplan ?aplanqgaps ?lplanqgaps ?cplanqgaps ?kplanqgaps ?aleastqplan ?lleastqplan ?cleastqplan ?kleastqplan ?aqlawqhand ?lqlawqhand ?cqlawqhand ?kqlawqhand ?aqlawqdraw ?lqlawqdraw ?cqlawqdraw ?kqlawqdraw ?aqlawqflag ?lqlawqflag ?cqlawqflag ?kqlawqflag ?aqlawqplan ?lqlawqplan ?cqlawqplan ?kqlawqplan ?aqlawqgaps ?lqlawqgaps ?cqlawqgaps ?kqlawqgaps ?aqlawqallqplaces ?lqlawqallqplaces ?cqlawqallqplaces ?kqlawqallqplaces ?alaw ?llaw ?claw ?klaw ?aLONGESTqWAY ?anqisinstance ?anqint ?anqbool ?anqtuple ?anqlen ?anqall ?anqabs ?anqrange ?anqzip ?anqenumerate ?anqmin ?anqsorted
    (case aisqinteger => k_is)
    (case lisqinteger => k_is)
    (case cisqinteger => k_is)
    (case kisqinteger => k_is)
    (case aisqtuple => k_is)
    (case lisqtuple => k_is)
    (case cisqtuple => k_is)
    (case kisqtuple => k_is)
    (case aareqintegers => k_is)
    (case lareqintegers => k_is)
    (case careqintegers => k_is)
    (case kareqintegers => k_is)
    (case aareqbetween => k_is)
    (case lareqbetween => k_is)
    (case careqbetween => k_is)
    (case kareqbetween => k_is)
    (case aisqplan => k_is)
    (case lisqplan => k_is)
    (case cisqplan => k_is)
    (case kisqplan => k_is)
    (case aareqtoldqplaces => k_is)
    (case lareqtoldqplaces => k_is)
    (case careqtoldqplaces => k_is)
    (case kareqtoldqplaces => k_is)
    (case acheckqplan => k_is)
    (case lcheckqplan => k_is)
    (case ccheckqplan => k_is)
    (case kcheckqplan => k_is)
    (case aplanqgaps => k_is)
    (case lplanqgaps => k_is)
    (case cplanqgaps => k_is)
    (case kplanqgaps => k_is)
    (case aleastqplan => k_is)
    (case lleastqplan => k_is)
    (case cleastqplan => k_is)
    (case kleastqplan => k_is)
    (case aqlawqhand => k_is)
    (case lqlawqhand => k_is)
    (case cqlawqhand => k_is)
    (case kqlawqhand => k_is)
    (case aqlawqdraw => k_is)
    (case lqlawqdraw => k_is)
    (case cqlawqdraw => k_is)
    (case kqlawqdraw => k_is)
    (case aqlawqflag => k_is)
    (case lqlawqflag => k_is)
    (case cqlawqflag => k_is)
    (case kqlawqflag => k_is)
    (case aqlawqplan => k_is)
    (case lqlawqplan => k_is)
    (case cqlawqplan => k_is)
    (case kqlawqplan => k_is)
    (case aqlawqgaps => k_is)
    (case lqlawqgaps => k_is)
    (case cqlawqgaps => k_is)
    (case kqlawqgaps => k_is)
    (case aqlawqallqplaces => k_is)
    (case lqlawqallqplaces => k_is)
    (case cqlawqallqplaces => k_is)
    (case kqlawqallqplaces => k_is)
    (case alaw => k_is)
    (case llaw => k_is)
    (case claw => k_is)
    (case klaw => k_is)
    (case aLONGESTqWAY => k_is)
    (case anqisinstance => k_is)
    (case anqint => k_is)
    (case anqbool => k_is)
    (case anqtuple => k_is)
    (case anqlen => k_is)
    (case anqall => k_is)
    (case anqabs => k_is)
    (case anqrange => k_is)
    (case anqzip => k_is)
    (case anqenumerate => k_is)
    (case anqmin => k_is)
    (case anqsorted => k_is)

