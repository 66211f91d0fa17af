import PyProof.Rows.All
import Wide.All
import OpenK.AllK
import Wide.FinOn
import HandS.ForMost
import HandS.IsInst
import HandS.TupMul
import HandS.TupAny
import HandS.Exc
import HandS.ExcOwn
import HandS.ExcInit
import HandS.ExcField
import HandS.TryOnly
import HandS.WordsExc
import HandS.EndBits
import HandS.CallSlots
import PyProof.Rows.IntBool
import HandS.Codes
import PySem.Challenge.RW_hourcards_k00_webs_judged
set_option Elab.async false
set_option linter.all false
set_option maxRecDepth 100000
set_option maxHeartbeats 4000000
namespace Hc
open PySem L2
/-- things, as far as they are looked into -/
inductive D where
  | non | bl (b : Bool) | int (i : Int) | str (s : Str) | tup (xs : List D) | lst | dct
def tyOf : D → String
  | .non => "NoneType" | .bl _ => "bool" | .int _ => "int" | .str _ => "str" | .tup _ => "tuple" | .lst => "list" | .dct => "dict"
section
variable (H : Hp) (h : Addr)
mutual
/-- v is the thing d, in the heap H, apart from the list at h -/
inductive Rp : V → D → Prop
  | non : Rp .non .non
  | bl (b : Bool) : Rp (.bl b) (.bl b)
  | int (i : Int) : Rp (.int i) (.int i)
  | str (x : Str) : Rp (.str x) (.str x)
  | tup {a : Addr} {xs : List V} {ds : List D} : H a = some (.tup xs) → xs.length ≤ 100000 → RpA xs ds → Rp (.ref a) (.tup ds)
  | lst {a : Addr} {xs : List V} : H a = some (.lst xs) → a ≠ h → Rp (.ref a) .lst
  | dct {a : Addr} {kvs : List (Key × V)} : H a = some (.dK kvs) → Rp (.ref a) .dct
inductive RpA : List V → List D → Prop
  | nil : RpA [] []
  | cons {v : V} {vs : List V} {d : D} {ds : List D} : Rp v d → RpA vs ds → RpA (v :: vs) (d :: ds)
end
end
/-- all but what stands at h is as it was -/
def But (h : Addr) (H H' : Hp) : Prop := ∀ b o, H b = some o → b ≠ h → H' b = some o
theorem But.refl (h : Addr) (H : Hp) : But h H H := fun _ _ e _ => e
theorem But.trans {h : Addr} {H H1 H2 : Hp} (a : But h H H1) (b : But h H1 H2) : But h H H2 := fun c o e n => b c o (a c o e n) n
theorem But.of {h : Addr} {H H' : Hp} (s : Same H H') : But h H H' := fun b o e _ => s b o e
theorem But.free {h : Addr} {H H' : Hp} (k : But h H H') {l : Addr} (hl : l ≠ h) (e : H' l = none) : H l = none := by
  cases q : H l with
  | none => rfl
  | some o => rw [k l o q hl] at e; cases e
theorem same_upd {H : Hp} {p : Addr} {o : HO} (hp : H p = none) : Same H (upd H p o) := fun b u e => by
  rw [upd_ne (ne_of_none e hp)]; exact e
theorem but_upd {H : Hp} {h : Addr} {o : HO} : But h H (upd H h o) := fun b u e n => by
  rw [upd_ne n]; exact e
def IsLst (H : Hp) (h : Addr) : Prop := ∃ xs, H h = some (.lst xs)
section
variable {H H' : Hp} {h : Addr}
mutual
theorem Rp.mono (l : IsLst H h) (k : But h H H') : ∀ {v : V} {d : D}, Rp H h v d → Rp H' h v d
  | _, _, .non => .non
  | _, _, .bl b => .bl b
  | _, _, .int i => .int i
  | _, _, .str x => .str x
  | _, _, .tup e z r => .tup (k _ _ e (by obtain ⟨zs, q⟩ := l; exact ne_of e q (by intro z; cases z))) z (RpA.mono l k r)
  | _, _, .lst e n => .lst (k _ _ e n) n
  | _, _, .dct e => .dct (k _ _ e (by obtain ⟨zs, q⟩ := l; exact ne_of e q (by intro z; cases z)))
theorem RpA.mono (l : IsLst H h) (k : But h H H') : ∀ {vs : List V} {ds : List D}, RpA H h vs ds → RpA H' h vs ds
  | _, _, .nil => .nil
  | _, _, .cons a r => .cons (Rp.mono l k a) (RpA.mono l k r)
end
mutual
theorem Rp.same (k : Same H H') : ∀ {v : V} {d : D}, Rp H h v d → Rp H' h v d
  | _, _, .non => .non
  | _, _, .bl b => .bl b
  | _, _, .int i => .int i
  | _, _, .str x => .str x
  | _, _, .tup e z r => .tup (k _ _ e) z (RpA.same k r)
  | _, _, .lst e n => .lst (k _ _ e) n
  | _, _, .dct e => .dct (k _ _ e)
theorem RpA.same (k : Same H H') : ∀ {vs : List V} {ds : List D}, RpA H h vs ds → RpA H' h vs ds
  | _, _, .nil => .nil
  | _, _, .cons a r => .cons (Rp.same k a) (RpA.same k r)
end
theorem RpA.len : ∀ {vs : List V} {ds : List D}, RpA H h vs ds → vs.length = ds.length
  | _, _, .nil => rfl
  | _, _, .cons a r => by rw [List.length_cons, List.length_cons, RpA.len r]
theorem RpA.get : ∀ {vs : List V} {ds : List D} {i : Nat} {v : V}, RpA H h vs ds → vs[i]? = some v → ∃ d, ds[i]? = some d ∧ Rp H h v d
  | _, _, i, _, .nil, e => by simp at e
  | _, _, 0, _, .cons a r, e => by simp at e; subst e; exact ⟨_, rfl, a⟩
  | _, _, i + 1, v, .cons a r, e => by
    obtain ⟨d, h1, h2⟩ := RpA.get (i := i) (v := v) r (by simpa using e)
    exact ⟨d, by simpa using h1, h2⟩
theorem RpA.app : ∀ {vs ws : List V} {ds es : List D}, RpA H h vs ds → RpA H h ws es → RpA H h (vs ++ ws) (ds ++ es)
  | _, _, _, _, .nil, s => s
  | _, _, _, _, .cons a r, s => .cons a (RpA.app r s)
theorem RpA.take : ∀ {vs : List V} {ds : List D} (n : Nat), RpA H h vs ds → RpA H h (vs.take n) (ds.take n)
  | _, _, 0, _ => .nil
  | _, _, _ + 1, .nil => .nil
  | _, _, n + 1, .cons a r => .cons a (RpA.take n r)
theorem RpA.drop : ∀ {vs : List V} {ds : List D} (n : Nat), RpA H h vs ds → RpA H h (vs.drop n) (ds.drop n)
  | _, _, 0, r => r
  | _, _, _ + 1, .nil => .nil
  | _, _, n + 1, .cons _ r => RpA.drop n r
/-- its type -/
theorem Rp.ty {K : PySem.W.Frag} {v : V} {d : D} (r : Rp H h v d) : TyX K H v (.type (tyOf d)) := by
  cases r with
  | non => exact .base .non
  | bl b => exact .base (.bl b)
  | int i => exact .base (.int i)
  | str x => exact .base (.str x)
  | tup e _ _ => exact .base (.tup e)
  | lst e _ => exact .base (.lst e)
  | dct e => exact .base (.dK e)
end
def isIB : D → Bool | .int _ => true | .bl _ => true | _ => false
def isB : D → Bool | .bl _ => true | _ => false
def isT : D → Bool | .tup _ => true | _ => false
theorem kitI (d : D) : kitB (tyOf d) "int" = some (isIB d) := by cases d <;> (simp only [tyOf, isIB]; decide +kernel)
theorem kitBo (d : D) : kitB (tyOf d) "bool" = some (isB d) := by cases d <;> (simp only [tyOf, isB]; decide +kernel)
theorem kitT (d : D) : kitB (tyOf d) "tuple" = some (isT d) := by cases d <;> (simp only [tyOf, isT]; decide +kernel)
def isInt : D → Bool | .int _ => true | _ => false
def isBtw (lo hi : Int) : D → Bool | .int i => decide (lo ≤ i) && decide (i ≤ hi) | _ => false
def areInts (n : Int) : D → Bool | .tup ds => decide ((ds.length : Int) = n) && ds.all isInt | _ => false
def areBtw (n lo hi : Int) : D → Bool | .tup ds => decide ((ds.length : Int) = n) && ds.all (isBtw lo hi) | _ => false
def neq2 : D → Bool | .tup (.int a :: .int b :: _) => !decide (a = b) | _ => false
def isBE (n : Int) (d : D) : Bool := areBtw 2 0 (n - 1) d && neq2 d
def areRoads (n : Int) : D → Bool | .tup ds => decide (1 ≤ ds.length) && decide (ds.length ≤ 24) && ds.all (isBE n) | _ => false
end Hc

set_option Elab.async false
set_option linter.all false
set_option maxRecDepth 100000
set_option maxHeartbeats 4000000
namespace L2
open PySem PySem.Spec PyProof.Rows
/-- x - j, x an int or a bool -/
def rSubA : R2 := fun x y H Q => (∃ i j, x = .int i ∧ y = .int j ∧ Q (.int (i - j)) H) ∨ ∃ b j, x = .bl b ∧ y = .int j ∧ Q (.int ((if b = true then (1 : Int) else 0) - j)) H
theorem op_subA {X : Cx} : OpR X (binaryOp .Sub) rSubA := by
  intro pins s σ H x y v u Q I rx ry h
  rcases h with ⟨i, j, rfl, rfl, q⟩ | ⟨b, j, rfl, rfl, q⟩
  · exact op_sub pins s σ H _ _ v u Q I rx ry ⟨i, j, rfl, rfl, q⟩
  · cases rx
    obtain ⟨t, rfl⟩ := ry
    exact PySem.IntBool.sub_bool_int ⟨.int _, H, I.tok _, ⟨_, rfl⟩, q⟩
/-- t * 1 is t -/
theorem tuple_mul1 (l : Addr) (items : Array Value) (n : Nat) (dd : Option Addr) (sl : Array (Option Value)) (u : Tok) :
    Meets (Builtin.«tuple.__mul__» ⟨[.ref l, .int 1 u], []⟩) (fun _ R s => s.heap.get? l = some { cls := .type "tuple", dict := dd, data := .seq items n, slots := sl } ∧
      R (.ok (.ret (Value.ref l))) s) :=
  .of_wp fun prog w A R s h => by
    obtain ⟨hp, g, d, tk, os⟩ := s
    obtain ⟨hl, h⟩ := h
    have f1 := AutoSeq1.idx_int
    have c0 : (decide ((1 : Int) < -(2 ^ 63)) || decide ((1 : Int) ≥ 2 ^ 63)) = false := by decide
    have c1 : (items.isEmpty || ((1 : Int) == 1)) = true := by rw [Bool.or_eq_true]; exact .inr rfl
    wp_walk using wpAny_loadPart' hl
    repeat (first
      | (refine wpAny_ite_false (decide_eq_false (by rw [c0]; exact Bool.false_ne_true)) ?_; wp_walk using wpAny_loadPart' hl)
      | (refine wpAny_ite_true (decide_eq_true c1) ?_; wp_walk using wpAny_loadPart' hl))
    exact ⟨_, rfl, h⟩
def rRepA (K : PySem.W.Frag) : R2 := fun x y H Q => ∃ l k xs, x = .ref l ∧ y = .int k ∧ SqT K H l xs ∧ xs ≠ [] ∧ 1 ≤ k ∧ k ≤ 1000 ∧ xs.length ≤ 1000 ∧
  (k = 1 → Q (.ref l) H) ∧ (2 ≤ k → ∀ p, H p = none → Q (.ref p) (upd H p (.tup (List.replicate k.toNat xs).flatten)))
theorem op_repA {X : Cx} : OpR X (binaryOp .Mult) (rRepA X.K) := by
  intro pins s σ H x y v u Q I rx ry h
  obtain ⟨l, k, xs, rfl, rfl, hT, hne, h1, h2, hz, q1, q2⟩ := h
  by_cases h3 : 2 ≤ k
  · exact op_repT pins s σ H _ _ v u Q I rx ry ⟨l, k, xs, rfl, rfl, hT, hne, h3, h2, hz, q2 h3⟩
  · obtain rfl : k = 1 := by omega
    cases rx
    obtain ⟨t, rfl⟩ := ry
    obtain ⟨its, r, ⟨⟨cls, dd, data, sl⟩, ho, hc, n, hd⟩, hs⟩ := I.tuple hT
    simp only at hc hd
    subst hc hd
    exact wpAny_binaryOp_repeat_ref (T := "tuple") (U := "int") (by decide) ⟨_, ho, rfl⟩ (fun s' => typeIs_int s' 1 t) noFill_tuple_mul F.fills_int_mul F.slot_int_rmul repeat_tuple F.slot_int_index.lookup
      (call_meets F.slot_int_rmul (typeIs_int s 1 t) F.entry_int_rmul (F.args_int_rmul_2 _ _) (int_rmul_tuple 1 t l its.toArray n dd sl)
        ⟨ho, rfl, ⟨_, ho, rfl⟩, call_meets F.slot_tuple_mul ⟨_, ho, rfl⟩ F.entry_tuple_mul (F.args_tuple_mul_2 _ _) (tuple_mul1 l its.toArray n dd sl t) ⟨ho, ⟨.ref l, H, I, rfl, q1 rfl⟩⟩⟩)
/-- C(e, ..) where what is raised is wished for at the caller's slots -/
def tMakeS (C : Addr) (sp : Sp) (dvs : List V) (E : St → XK) (t : TA) : TE := fun σ H Q => t σ H fun vs H1 => ∀ x dx, H1 x = none → H1 dx = none → dx ≠ x →
  sp (.ref x :: (vs ++ dvs)) (upd (upd H1 dx (.own x)) x (.ins C dx [])) (fun v H2 => v = .non ∧ Q (.ref x) H2) (E σ)
section
variable {X : Cx} {CX : CXT} {k : Nat} {f C : Addr} {fd : FuncData} {ps : List Str} {sp : Sp} {dvs : List V} {ds : List Value} {E : St → XK} {x m : Str} {p pos apos : Pos} {e o : Expr} {es : List Expr} {ta : TE} {t : TA}
theorem pe_makeS (M : Mk X.K C f) (F : FnOk X.prog X.w X.K X.mg X.base CX k f fd ps sp) (hr : Room (k + 1) X.A) (hg : Gl X x) (hm : X.mg x = some (.ref C)) (hb : Binds X.K fd ps ds) (hd : Vals dvs ds) (hx : ∀ σ, PassesAt CX X σ (E σ))
    (ha : PA X (e :: es) t) (hdb : (x == ("__debug__" : Str)) = false := by decide) (he : starEach (e :: es) X.env = (false, eval e X.env) :: starEach es X.env := by rfl) (hpl : (backTo pos (starEach es X.env)).any (·.1) = false := by rfl) :
    PE X (.Call (.Name x p) (e :: es) [] pos) (tMakeS C sp dvs E t) := by
  refine ⟨fun pins s0 σ H0 Q I0 h0 => ?_⟩
  refine wpAny_Call_Name_kw (ld_glob I0 hg hm ?_ hdb)
  refine PySem.W.callWith_K (h₀ := X.base) I0.ok.mod.kin M.kp (thn (ha.run pos pins s0 σ H0 _ I0 h0) fun us s ⟨vs, H, I, r, h⟩ => ⟨I.kIn, ?_⟩) he hpl
  have hq := h (s.heap.objs.size + 1) s.heap.objs.size (I.hok.fresh (Nat.le_succ _)) (I.hok.fresh (Nat.le_refl _)) (Nat.ne_of_lt (Nat.lt_succ_self _))
  have I2 := Inv.made (C := C) I
  have r2 : Vals (V.ref (s.heap.objs.size + 1) :: (vs ++ dvs)) (Value.ref (s.heap.objs.size + 1) :: (us ++ ds)) := .cons rfl (r.append hd)
  have hl : (Value.ref (s.heap.objs.size + 1) :: us ++ ds).length = ps.length := by
    have e := r2.length
    rw [F.len _ _ _ _ hq] at e
    exact e.symm
  refine wpAny_call (make_map (f := f) I.kIn M.makes M.init (beq_iff_eq.mp M.fn) (codeAny_mono (F.run _ X.stack _ _ ⟨Value.ref (s.heap.objs.size + 1) :: us, []⟩ (Value.ref (s.heap.objs.size + 1) :: (us ++ ds)) _ _ (E σ) (hr.make C us [])
    (I2.env0.make C us []) (hb _ (Value.ref (s.heap.objs.size + 1) :: us) I2.kIn hl) r2 hq) fun r s' hq' => ?_))
  cases r with
  | error e => exact hx σ pins _ _ e s' I2 hq'
  | ok fl =>
    cases fl with
    | ret u =>
      obtain ⟨v, H', I3, rv, ev, q3⟩ := I2.after hq'
      subst ev
      exact ⟨rv, ⟨V.ref (s.heap.objs.size + 1), H', I3, rfl, q3⟩⟩
    | next => exact False.elim hq'
    | brk => exact False.elim hq'
    | cont => exact False.elim hq'
end
end L2
/-! ### Hc -/
namespace Hc
open PySem L2
theorem line_lt {n : Nat} (h : n ≤ 100000) : n < sizeLine := by rw [sizeLine_eq]; omega
theorem line_le {n : Nat} (h : n ≤ 100000) : n ≤ sizeLine := by rw [sizeLine_eq]; omega
theorem take_more {α : Type} : ∀ {l : List α} {i : Nat} {x : α}, l[i]? = some x → l.take (i + 1) = l.take i ++ [x]
  | [], i, x, h => by simp at h
  | a :: l, 0, x, h => by
    have e : a = x := Option.some.inj h
    subst e
    rfl
  | a :: l, i + 1, x, h => by
    have ih := take_more (l := l) (i := i) (x := x) h
    show a :: l.take (i + 1) = a :: l.take i ++ [x]
    rw [ih]
    rfl
/-- [p(x) for x in t]: the list of the answers -/
theorem all_tup {K : PySem.W.Frag} {H : Hp} {h a A : Addr} {xs : List V} {ds : List D} {j : Nat} {te : TE} {σ : St} {vs : List Nat} {Qd : Hp → Prop}
    (e : H a = some (.tup xs)) (z : xs.length ≤ 100000) (ra : RpA H h xs ds) (p : D → Bool) (hA : H A = none)
    (hw : ∀ x, wipe ((wipe σ vs).set j (some x)) vs = wipe σ vs)
    (hs : ∀ x d H' (Q : VK), d ∈ ds → Same H H' → Rp H' h x d → (∀ H4, Same H' H4 → Q (.bl (p d)) H4) → te ((wipe σ vs).set j (some x)) H' Q)
    (hd : ∀ H', Same H H' → SqL K H' A ((ds.map p).map V.bl) → Qd H') :
    ∃ W : Nat → Nat → Hp → Prop, (∃ m, W 0 m (upd H A (.lst []))) ∧ ∀ i m H, W i m H →
      ((Itt K a).stop i H ∧ Qd H) ∨ ((Itt K a).go i H ∧ ∃ Nx : Hp → Prop, (∀ H', Nx H' → ∃ m', m' < m ∧ W (i + 1) m' H') ∧ ∀ x H', (Itt K a).yld i H x H' → (gName j) x (wipe σ vs) H' fun σ2 H2 => wipe σ2 vs = wipe σ vs ∧ tYes σ2 H2 fun b H3 =>
        if b = true then te σ2 H3 fun y H4 => ∃ acc, H4 A = some (.lst acc) ∧ acc.length < sizeLine ∧ Nx (upd H4 A (.lst (acc ++ [y]))) else Nx H3) := by
  have hl := ra.len
  refine lc_tup (K := K) (xs := xs) (fun i H' => Same H (fun b => if b = A then none else H' b) ∧ H' A = some (.lst (((ds.take i).map p).map V.bl)))
    ⟨fun b o q => ?_, upd_same⟩ (fun i H' hi ⟨s, _⟩ => ?_) ?_ ?_
  · have n := ne_of_none q hA
    show (if b = A then none else upd H A _ b) = _
    rw [if_neg n, upd_ne n]; exact q
  · have q := s _ _ e
    have n := ne_of_none e hA
    simp only [if_neg n] at q
    exact SqT.of q
  · intro i x H' hx ⟨s, hH⟩
    have sm : Same H H' := fun b o q => by
      have r := s b o q
      simp only [if_neg (ne_of_none q hA)] at r
      exact r
    obtain ⟨d, hd1, rp⟩ := ra.get hx
    have hi : i < xs.length := (List.getElem?_eq_some_iff.mp hx).1
    refine ⟨hw x, ?_⟩
    unfold tYes
    show (if true = true then te _ _ _ else _)
    rw [if_pos rfl]
    refine hs x d H' _ (List.mem_of_getElem? hd1) sm (rp.same sm) fun H4 s4 => ⟨_, s4 _ _ hH, ?_, ?_, ?_⟩
    · rw [List.length_map, List.length_map, List.length_take]
      exact line_lt (by omega)
    · intro b o q
      have n := ne_of_none q hA
      show (if b = A then none else upd H4 A _ b) = _
      rw [if_neg n, upd_ne n]
      exact s4 _ _ (sm _ _ q)
    · rw [upd_same, take_more hd1, List.map_append, List.map_append]; rfl
  · intro H' ⟨s, hH⟩
    have sm : Same H H' := fun b o q => by
      have r := s b o q
      simp only [if_neg (ne_of_none q hA)] at r
      exact r
    rw [hl, List.take_length] at hH
    exact hd H' sm (SqL.of hH)
/-- [x for x in t if not p(x)]: as many as are none -/
theorem none_tup {K : PySem.W.Frag} {H : Hp} {h a A : Addr} {xs : List V} {ds : List D} {j : Nat} {te : TE} {tt : TT} {σ : St} {vs : List Nat} {Qd : Hp → Prop}
    (e : H a = some (.tup xs)) (z : xs.length ≤ 100000) (ra : RpA H h xs ds) (p : D → Bool) (hA : H A = none)
    (hw : ∀ x, wipe ((wipe σ vs).set j (some x)) vs = wipe σ vs)
    (hs : ∀ x d H' (Q : Bool → Hp → Prop), d ∈ ds → Same H H' → Rp H' h x d → (∀ H4, Same H' H4 → Q (!p d) H4) → tt ((wipe σ vs).set j (some x)) H' Q)
    (ht : ∀ x H' (Q : VK), Same H H' → (∀ y, Q y H') → te ((wipe σ vs).set j (some x)) H' Q)
    (hd : ∀ H' acc, Same H H' → SqL K H' A acc → acc.length ≤ 100000 → (acc.length = 0 ↔ ds.all p = true) → Qd H') :
    ∃ W : Nat → Nat → Hp → Prop, (∃ m, W 0 m (upd H A (.lst []))) ∧ ∀ i m H, W i m H →
      ((Itt K a).stop i H ∧ Qd H) ∨ ((Itt K a).go i H ∧ ∃ Nx : Hp → Prop, (∀ H', Nx H' → ∃ m', m' < m ∧ W (i + 1) m' H') ∧ ∀ x H', (Itt K a).yld i H x H' → (gName j) x (wipe σ vs) H' fun σ2 H2 => wipe σ2 vs = wipe σ vs ∧ tt σ2 H2 fun b H3 =>
        if b = true then te σ2 H3 fun y H4 => ∃ acc, H4 A = some (.lst acc) ∧ acc.length < sizeLine ∧ Nx (upd H4 A (.lst (acc ++ [y]))) else Nx H3) := by
  have hl := ra.len
  refine lc_tup (K := K) (xs := xs) (fun i H' => Same H (fun b => if b = A then none else H' b) ∧ ∃ acc, H' A = some (.lst acc) ∧ acc.length ≤ i ∧ (acc.length = 0 ↔ (ds.take i).all p = true))
    ⟨fun b o q => ?_, [], upd_same, Nat.le_refl _, by simp⟩ (fun i H' hi ⟨s, _⟩ => ?_) ?_ ?_
  · have n := ne_of_none q hA
    show (if b = A then none else upd H A _ b) = _
    rw [if_neg n, upd_ne n]; exact q
  · have q := s _ _ e
    have n := ne_of_none e hA
    simp only [if_neg n] at q
    exact SqT.of q
  · intro i x H' hx ⟨s, acc, hH, h1, h2⟩
    have sm : Same H H' := fun b o q => by
      have r := s b o q
      simp only [if_neg (ne_of_none q hA)] at r
      exact r
    obtain ⟨d, hd1, rp⟩ := ra.get hx
    have hi : i < xs.length := (List.getElem?_eq_some_iff.mp hx).1
    refine ⟨hw x, hs x d H' _ (List.mem_of_getElem? hd1) sm (rp.same sm) fun H4 s4 => ?_⟩
    cases hp : p d with
    | false =>
      rw [if_pos (by decide)]
      refine ht x H4 _ (fun b o q => s4 _ _ (sm _ _ q)) fun y => ⟨_, s4 _ _ hH, line_lt (by omega), fun b o q => ?_, _, upd_same, ?_, ?_⟩
      · have n := ne_of_none q hA
        show (if b = A then none else upd H4 A _ b) = _
        rw [if_neg n, upd_ne n]
        exact s4 _ _ (sm _ _ q)
      · rw [List.length_append, List.length_singleton]; omega
      · rw [List.length_append, List.length_singleton, take_more hd1, List.all_append]
        simp [hp]
    | true =>
      rw [if_neg (by decide)]
      refine ⟨fun b o q => ?_, acc, s4 _ _ hH, by omega, ?_⟩
      · have n := ne_of_none q hA
        show (if b = A then none else H4 b) = _
        rw [if_neg n]
        exact s4 _ _ (sm _ _ q)
      · rw [take_more hd1, List.all_append, h2]
        simp [hp]
  · intro H' ⟨s, acc, hH, h1, h2⟩
    have sm : Same H H' := fun b o q => by
      have r := s b o q
      simp only [if_neg (ne_of_none q hA)] at r
      exact r
    rw [hl, List.take_length] at h2
    exact hd H' acc sm (SqL.of hH) (by omega) h2
end Hc

set_option Elab.async false
set_option linter.all false
set_option maxRecDepth 100000
set_option maxHeartbeats 4000000
set_option autoImplicit false
namespace Hc
open PySem L2
def top (i : Nat) : Stmt := PySem.Challenge.pw_hourcards_k00_webs_judged.main.body.getD i (.Pass ⟨0, 0, 0, 0⟩)
structure Df (K : PySem.W.Frag) (mg : Str → Option Value) (x : Str) (st : Stmt) (ps : List Str) : Type where
  f : Addr
  fd : FuncData
  F : Fun K x x st f fd
  g : mg x = some (.ref f)
  b : Binds K fd ps []
/-- an own class -/
structure Wf (K : PySem.W.Frag) (mg : Str → Option Value) (x q : Str) (st : Stmt) (ps fs : List Str) : Type where
  C : Addr
  f : Addr
  fd : FuncData
  F : Fun K "__init__" q st f fd
  g : mg x = some (.ref C)
  b : Binds K fd ps []
  mk1 : Mk K C f
  cl : Cls K C
  no : ∀ x ∈ fs, PySem.W.findIn K (.ref C) x = some none
/-- an own error -/
structure Xf (K : PySem.W.Frag) (mg : Str → Option Value) (x q : Str) (st : Stmt) (ps fs : List Str) : Type where
  C : Addr
  f : Addr
  fd : FuncData
  F : Fun K "__init__" q st f fd
  g : mg x = some (.ref C)
  b : Binds K fd ps []
  T : OexC K C
  iC : PySem.W.findIn K (.ref C) "__init__" = some (some (.ref f))
  tI : PySem.W.typeIn K (.ref f) = some (.type "function")
  xf : XfC K C
  te : PySem.W.exmOne K (.ref C) (.ref C) = some true
  no : ∀ x ∈ fs, PySem.W.findIn K (.ref C) x = some none
abbrev s_is_integer : Stmt := (top 1)
theorem sc_is_integer : FnScope ["thing"] ["thing"] (defScope s_is_integer) := ⟨rfl, rfl, rfl, by decide +kernel, rfl, by decide +kernel, by decide +kernel⟩
abbrev s_is_between : Stmt := (top 2)
theorem sc_is_between : FnScope ["low", "high", "thing"] ["low", "high", "thing"] (defScope s_is_between) := ⟨rfl, rfl, rfl, by decide +kernel, rfl, by decide +kernel, by decide +kernel⟩
abbrev s_is_tuple : Stmt := (top 3)
theorem sc_is_tuple : FnScope ["many", "thing"] ["many", "thing"] (defScope s_is_tuple) := ⟨rfl, rfl, rfl, by decide +kernel, rfl, by decide +kernel, by decide +kernel⟩
abbrev s_are_integers : Stmt := (top 4)
theorem sc_are_integers : FnScope ["many", "thing", "one"] ["many", "thing"] (defScope s_are_integers) := ⟨rfl, rfl, rfl, by decide +kernel, rfl, by decide +kernel, by decide +kernel⟩
abbrev s_are_between : Stmt := (top 5)
theorem sc_are_between : FnScope ["many", "low", "high", "thing", "one"] ["many", "low", "high", "thing"] (defScope s_are_between) := ⟨rfl, rfl, rfl, by decide +kernel, rfl, by decide +kernel, by decide +kernel⟩
abbrev s_are_roads : Stmt := (top 15)
theorem sc_are_roads : FnScope ["houses", "thing", "road"] ["houses", "thing"] (defScope s_are_roads) := ⟨rfl, rfl, rfl, by decide +kernel, rfl, by decide +kernel, by decide +kernel⟩
abbrev s_is_begin_and_end : Stmt := (top 16)
theorem sc_is_begin_and_end : FnScope ["houses", "thing"] ["houses", "thing"] (defScope s_is_begin_and_end) := ⟨rfl, rfl, rfl, by decide +kernel, rfl, by decide +kernel, by decide +kernel⟩
abbrev s_law_hand : Stmt := (top 18)
theorem sc_law_hand : FnScope ["_law_script", "_law_cells", "_law_cell"] ["_law_script"] (defScope s_law_hand) := ⟨rfl, rfl, rfl, by decide +kernel, rfl, by decide +kernel, by decide +kernel⟩
abbrev s_law_draw : Stmt := (top 19)
theorem sc_law_draw : FnScope ["_law_hand_here", "_law_many", "_law_cell", "_law_digit", "_law_number"] ["_law_hand_here", "_law_many"] (defScope s_law_draw) := ⟨rfl, rfl, rfl, by decide +kernel, rfl, by decide +kernel, by decide +kernel⟩
abbrev s_law_counts : Stmt := (top 20)
theorem sc_law_counts : FnScope ["_law_hand_here", "_law_many", "_law_road"] ["_law_hand_here", "_law_many"] (defScope s_law_counts) := ⟨rfl, rfl, rfl, by decide +kernel, rfl, by decide +kernel, by decide +kernel⟩
abbrev s_law_web : Stmt := (top 21)
theorem sc_law_web : FnScope ["_law_hand_here", "_law_towns", "_law_most", "_law_houses", "_law_many", "_law_chained", "_law_roads", "_law_road", "_law_begin"] ["_law_hand_here", "_law_towns", "_law_most"] (defScope s_law_web) := ⟨rfl, rfl, rfl, by decide +kernel, rfl, by decide +kernel, by decide +kernel⟩
abbrev s_law_odd : Stmt := (top 25)
theorem sc_law_odd : FnScope ["_law_hand_here", "_law_deep", "_law_turn", "_law_odd_here"] ["_law_hand_here"] (defScope s_law_odd) := ⟨rfl, rfl, rfl, by decide +kernel, rfl, by decide +kernel, by decide +kernel⟩
abbrev s_law_is_number : Stmt := (top 26)
theorem sc_law_is_number : FnScope ["_law_thing", "_law_least", "_law_most"] ["_law_thing", "_law_least", "_law_most"] (defScope s_law_is_number) := ⟨rfl, rfl, rfl, by decide +kernel, rfl, by decide +kernel, by decide +kernel⟩
abbrev s_law_are_roads : Stmt := (top 27)
theorem sc_law_are_roads : FnScope ["_law_thing", "_law_houses", "_law_pair", "_law_house"] ["_law_thing", "_law_houses"] (defScope s_law_are_roads) := ⟨rfl, rfl, rfl, by decide +kernel, rfl, by decide +kernel, by decide +kernel⟩
abbrev s_law_are_counts : Stmt := (top 28)
theorem sc_law_are_counts : FnScope ["_law_thing", "_law_many", "_law_count"] ["_law_thing", "_law_many"] (defScope s_law_are_counts) := ⟨rfl, rfl, rfl, by decide +kernel, rfl, by decide +kernel, by decide +kernel⟩
abbrev s_law_due : Stmt := (top 29)
theorem sc_law_due : FnScope ["_law_houses", "_law_roads", "_law_rooms", "_law_times"] ["_law_houses", "_law_roads", "_law_rooms", "_law_times"] (defScope s_law_due) := ⟨rfl, rfl, rfl, by decide +kernel, rfl, by decide +kernel, by decide +kernel⟩
abbrev s_law_spoiled_roads : Stmt := (top 30)
theorem sc_law_spoiled_roads : FnScope ["_law_hand_here", "_law_houses", "_law_roads", "_law_at", "_law_pairs", "_law_made"] ["_law_hand_here", "_law_houses", "_law_roads"] (defScope s_law_spoiled_roads) := ⟨rfl, rfl, rfl, by decide +kernel, rfl, by decide +kernel, by decide +kernel⟩
abbrev s_law_spoiled_counts : Stmt := (top 31)
theorem sc_law_spoiled_counts : FnScope ["_law_hand_here", "_law_counts_here", "_law_at", "_law_made"] ["_law_hand_here", "_law_counts_here"] (defScope s_law_spoiled_counts) := ⟨rfl, rfl, rfl, by decide +kernel, rfl, by decide +kernel, by decide +kernel⟩
abbrev s_law : Stmt := (top 32)
theorem sc_law : FnScope ["_law_script", "_law_hand_here", "_law_turn", "_law_houses", "_law_roads", "_law_rooms", "_law_times", "_law_which", "_law_due_here", "_law_told", "_law_web_here", "e"] ["_law_script"] (defScope s_law) := ⟨rfl, rfl, rfl, by decide +kernel, rfl, by decide +kernel, by decide +kernel⟩
abbrev s_Web___init : Stmt := inClass (top 14) 0
theorem sc_Web___init : FnScope ["self", "houses", "roads", "rooms", "times"] ["self", "houses", "roads", "rooms", "times"] (defScope s_Web___init) := ⟨rfl, rfl, rfl, by decide +kernel, rfl, by decide +kernel, by decide +kernel⟩
abbrev s_BadWeb___init : Stmt := inClass (top 8) 0
theorem sc_BadWeb___init : FnScope ["self", "part"] ["self", "part"] (defScope s_BadWeb___init) := ⟨rfl, rfl, rfl, by decide +kernel, rfl, by decide +kernel, by decide +kernel⟩
structure Tx (K : PySem.W.Frag) (mg : Str → Option Value) : Type where
  is_integer : Df K mg "is_integer" s_is_integer ["thing"]
  is_between : Df K mg "is_between" s_is_between ["low", "high", "thing"]
  is_tuple : Df K mg "is_tuple" s_is_tuple ["many", "thing"]
  are_integers : Df K mg "are_integers" s_are_integers ["many", "thing"]
  are_between : Df K mg "are_between" s_are_between ["many", "low", "high", "thing"]
  are_roads : Df K mg "are_roads" s_are_roads ["houses", "thing"]
  is_begin_and_end : Df K mg "is_begin_and_end" s_is_begin_and_end ["houses", "thing"]
  _law_hand : Df K mg "_law_hand" s_law_hand ["_law_script"]
  _law_draw : Df K mg "_law_draw" s_law_draw ["_law_hand_here", "_law_many"]
  _law_counts : Df K mg "_law_counts" s_law_counts ["_law_hand_here", "_law_many"]
  _law_web : Df K mg "_law_web" s_law_web ["_law_hand_here", "_law_towns", "_law_most"]
  _law_odd : Df K mg "_law_odd" s_law_odd ["_law_hand_here"]
  _law_is_number : Df K mg "_law_is_number" s_law_is_number ["_law_thing", "_law_least", "_law_most"]
  _law_are_roads : Df K mg "_law_are_roads" s_law_are_roads ["_law_thing", "_law_houses"]
  _law_are_counts : Df K mg "_law_are_counts" s_law_are_counts ["_law_thing", "_law_many"]
  _law_due : Df K mg "_law_due" s_law_due ["_law_houses", "_law_roads", "_law_rooms", "_law_times"]
  _law_spoiled_roads : Df K mg "_law_spoiled_roads" s_law_spoiled_roads ["_law_hand_here", "_law_houses", "_law_roads"]
  _law_spoiled_counts : Df K mg "_law_spoiled_counts" s_law_spoiled_counts ["_law_hand_here", "_law_counts_here"]
  law : Df K mg "law" s_law ["_law_script"]
  c_MOST_HOUSES : ∃ t, mg "MOST_HOUSES" = some (.int 12 t)
  c_MOST_ROADS : ∃ t, mg "MOST_ROADS" = some (.int 24 t)
  c_MOST_ROOMS : ∃ t, mg "MOST_ROOMS" = some (.int 3 t)
  c_LONGEST_TIME : ∃ t, mg "LONGEST_TIME" = some (.int 3 t)
  Web : Wf K mg "Web" "Web.__init__" s_Web___init ["self", "houses", "roads", "rooms", "times"] ["houses", "roads", "rooms", "times"]
  x_BadWeb : Xf K mg "BadWeb" "BadWeb.__init__" s_BadWeb___init ["self", "part"] ["part"]
  n_isinstance : mg "isinstance" = none
  n_int : mg "int" = none
  n_bool : mg "bool" = none
  n_tuple : mg "tuple" = none
  n_len : mg "len" = none
  n_all : mg "all" = none
  n_abs : mg "abs" = none
  n_range : mg "range" = none
  n_list : mg "list" = none

section
variable {P : Program} {w : World} {K : PySem.W.Frag} {mg : Str → Option Value} {base : Heap}
def spThing (g : D → Bool) : Sp := fun vs H Q _ => ∃ (h : Addr) (v : V) (d : D), vs = [v] ∧ Rp H h v d ∧ Q (.bl (g d)) H
theorem ok_is_integer (T : Tx K mg) : FnOk P w K mg base CX0 1 T.is_integer.f T.is_integer.fd ["thing"] (spThing isInt) := by
  refine T.is_integer.F.ok sc_is_integer (fun vs H Q E h => ?_) (fun cdv A outer s H vs Q E hr h => ?_)
  · obtain ⟨_, v, d, rfl, _⟩ := h
    rfl
  · obtain ⟨_, v, d, rfl, r, k⟩ := h
    refine ⟨_, (pss_one (ps_ret (pe_and (pe_callB call_isi (by rfl) T.n_isinstance (by decide +kernel) (pa_cons (pv 0) (pa_cons (pe_bltn (v := .ty "int") (by rfl) T.n_int (by decide +kernel) rfl) pa_nil))) (pe_one (pe_not (pe_callB call_isi (by rfl) T.n_isinstance (by decide +kernel) (pa_cons (pv 0) (pa_cons (pe_bltn (v := .ty "bool") (by rfl) T.n_bool (by decide +kernel) rfl) pa_nil)))))))), ?_⟩
    refine ⟨_, rfl, _, _, _, _, _, rfl, .ty "int", r.ty, kit_ty (kitI d), _, rfl, ?_⟩
    cases e : isIB d with
    | false =>
      refine iteF ?_
      have : isInt d = false := by cases d <;> first | rfl | exact Bool.noConfusion e
      rw [this] at k
      exact k
    | true =>
      refine iteT ?_
      refine ⟨_, rfl, _, _, _, _, _, rfl, .ty "bool", r.ty, kit_ty (kitBo d), _, rfl, ?_⟩
      have : (!isB d) = isInt d := by cases d <;> first | rfl | exact Bool.noConfusion e
      rw [this]
      exact k
def spBtw : Sp := fun vs H Q _ => ∃ (h : Addr) (lo hi : Int) (v : V) (d : D), vs = [.int lo, .int hi, v] ∧ Rp H h v d ∧ Q (.bl (isBtw lo hi d)) H
theorem ok_is_between (T : Tx K mg) : FnOk P w K mg base CX0 2 T.is_between.f T.is_between.fd ["low", "high", "thing"] spBtw := by
  refine T.is_between.F.ok sc_is_between (fun vs H Q E h => ?_) (fun cdv A outer s H vs Q E hr h => ?_)
  · obtain ⟨_, lo, hi, v, d, rfl, _⟩ := h
    rfl
  · obtain ⟨_, lo, hi, v, d, rfl, r, k⟩ := h
    refine ⟨_, (pss_one (ps_ret (pe_and (pe_call (ok_is_integer T) (hr.mono (by decide)) rfl T.is_integer.g T.is_integer.F.kp T.is_integer.b .nil pass0 (pa_cons (pv 2) pa_nil)) (pe_one (pe_chain op_le op_le (pv 0) (pv 2) (pv 1)))))), ?_⟩
    refine ⟨_, rfl, _, v, d, rfl, r, _, rfl, ?_⟩
    cases r with
    | int i =>
      refine iteT ?_
      refine ⟨_, rfl, _, rfl, _, _, rfl, rfl, _, rfl, ?_⟩
      by_cases h1 : lo ≤ i
      · rw [decide_eq_true h1]
        refine iteT ?_
        refine ⟨_, rfl, _, _, rfl, rfl, ?_⟩
        have : isBtw lo hi (.int i) = decide (i ≤ hi) := by show (decide (lo ≤ i) && decide (i ≤ hi)) = _; rw [decide_eq_true h1]; rfl
        rw [this] at k
        exact k
      · rw [decide_eq_false h1]
        refine iteF ?_
        have : isBtw lo hi (.int i) = false := by show (decide (lo ≤ i) && decide (i ≤ hi)) = _; rw [decide_eq_false h1]; rfl
        rw [this] at k
        exact k
    | _ => exact iteF k
def isTupN (n : Int) : D → Bool | .tup ds => decide ((ds.length : Int) = n) | _ => false
def spTupN : Sp := fun vs H Q _ => ∃ (h : Addr) (n : Int) (v : V) (d : D), vs = [.int n, v] ∧ Rp H h v d ∧ Q (.bl (isTupN n d)) H
theorem int_eqd (a b : Int) : decide (V.int a = V.int b) = decide (a = b) := by
  by_cases e : a = b
  · subst e; simp
  · rw [decide_eq_false e, decide_eq_false fun z => e (V.int.inj z)]
theorem ok_is_tuple (T : Tx K mg) : FnOk P w K mg base CX0 1 T.is_tuple.f T.is_tuple.fd ["many", "thing"] spTupN := by
  refine T.is_tuple.F.ok sc_is_tuple (fun vs H Q E h => ?_) (fun cdv A outer s H vs Q E hr h => ?_)
  · obtain ⟨_, n, v, d, rfl, _⟩ := h
    rfl
  · obtain ⟨ha, n, v, d, rfl, r, k⟩ := h
    refine ⟨_, (pss_one (ps_ret (pe_and (pe_callB call_isi (by rfl) T.n_isinstance (by decide +kernel) (pa_cons (pv 1) (pa_cons (pe_bltn (v := .ty "tuple") (by rfl) T.n_tuple (by decide +kernel) rfl) pa_nil))) (pe_one (pe_cmpR op_eq (pe_callB call_len_seq (by rfl) T.n_len (by decide +kernel) (pa_cons (pv 1) pa_nil)) (pv 0) (nomark _)))))), ?_⟩
    refine ⟨_, rfl, _, _, _, _, _, rfl, .ty "tuple", r.ty, kit_ty (kitT d), _, rfl, ?_⟩
    cases r with
    | @tup _ xs ds e z ra =>
      refine iteT ?_
      refine ⟨_, rfl, _, _, rfl, .inr (SqT.of e), _, rfl, rfl, ?_⟩
      rw [int_eqd, ra.len]
      exact k
    | _ => exact iteF k
def spInts : Sp := fun vs H Q _ => ∃ (h : Addr) (n : Int) (v : V) (d : D), vs = [.int n, v] ∧ Rp H h v d ∧ ∀ H', Same H H' → Q (.bl (areInts n d)) H'
theorem areInts_tup (n : Int) (ds : List D) : areInts n (.tup ds) = (decide ((ds.length : Int) = n) && ds.all isInt) := rfl
theorem areBtw_tup (n lo hi : Int) (ds : List D) : areBtw n lo hi (.tup ds) = (decide ((ds.length : Int) = n) && ds.all (isBtw lo hi)) := rfl
theorem areRoads_tup (n : Int) (ds : List D) : areRoads n (.tup ds) = (decide (1 ≤ ds.length) && decide (ds.length ≤ 24) && ds.all (isBE n)) := rfl
theorem map_all (ds : List D) (p : D → Bool) : (ds.map p).all id = ds.all p := by rw [List.all_map]; rfl
theorem ok_are_integers (T : Tx K mg) : FnOk P w K mg base CX0 2 T.are_integers.f T.are_integers.fd ["many", "thing"] spInts := by
  refine T.are_integers.F.ok sc_are_integers (fun vs H Q E h => ?_) (fun cdv A outer s H vs Q E hr h => ?_)
  · obtain ⟨_, n, v, d, rfl, _⟩ := h
    rfl
  · obtain ⟨ha, n, v, d, rfl, r, k⟩ := h
    refine ⟨_, (pss_one (ps_ret (pe_and (pe_call (ok_is_tuple T) (hr.mono (by decide)) rfl T.is_tuple.g T.is_tuple.F.kp T.is_tuple.b .nil pass0 (pa_cons (pv 0) (pa_cons (pv 1) pa_nil))) (pe_one (pe_callB (cr_all rfl) (by rfl) T.n_all (by decide +kernel) (pa_cons (pe_lc (own := [("one", 2)]) (g := (gName 2)) (tt := tYes) rfl sc_are_integers.nd (pi_tup (pv 1)) (blkOk_by (own := [("one", 2)]) (N := ["many", "thing", "one"]) (sc := defScope s_are_integers) (by decide +kernel)) (fun _ _ _ _ _ => (pg_name (i := 2) sc_are_integers.nd rfl (Or.inl rfl))) (fun _ _ _ _ _ => pts_nil) (fun _ _ _ _ _ => (by exact (pe_call (ok_is_integer T) (hr.mono (by decide)) rfl T.is_integer.g T.is_integer.F.kp T.is_integer.b .nil pass0 (pa_cons (pv 2) pa_nil))))) pa_nil)))))), ?_⟩
    refine ⟨_, rfl, _, rfl, ha, n, v, d, rfl, r, _, rfl, ?_⟩
    cases r with
    | @tup _ xs ds e z ra =>
      show if decide ((ds.length : Int) = n) = true then _ else _
      by_cases hn : (ds.length : Int) = n
      · rw [decide_eq_true hn]
        refine iteT ?_
        refine ⟨_, rfl, _, rfl, ⟨_, SqT.of e⟩, fun A hA => all_tup e z ra isInt hA (fun x => rfl) (fun x d H' Q' _ _ rp q => ?_) (fun H' sm sl => ?_)⟩
        · exact ⟨_, rfl, ha, _, _, rfl, rp, q _ (Same.refl _)⟩
        · refine ⟨_, _, rfl, sl, ?_⟩
          rw [map_all]
          have := k H' sm
          rw [areInts_tup, decide_eq_true hn] at this
          exact this
      · rw [decide_eq_false hn]
        refine iteF ?_
        have := k H (Same.refl _)
        rw [areInts_tup, decide_eq_false hn] at this
        exact this
    | _ => exact iteF (k H (Same.refl _))
def spBtws : Sp := fun vs H Q _ => ∃ (h : Addr) (n lo hi : Int) (v : V) (d : D), vs = [.int n, .int lo, .int hi, v] ∧ Rp H h v d ∧ ∀ H', Same H H' → Q (.bl (areBtw n lo hi d)) H'
theorem btw_int (lo hi : Int) (ds : List D) : (ds.all isInt && ds.all (isBtw lo hi)) = ds.all (isBtw lo hi) := by
  cases e : ds.all (isBtw lo hi) with
  | false => rw [Bool.and_false]
  | true =>
    rw [Bool.and_true, List.all_eq_true]
    rw [List.all_eq_true] at e
    intro d hd
    have := e d hd
    cases d <;> first | rfl | exact Bool.noConfusion this
theorem ok_are_between (T : Tx K mg) : FnOk P w K mg base CX0 3 T.are_between.f T.are_between.fd ["many", "low", "high", "thing"] spBtws := by
  refine T.are_between.F.ok sc_are_between (fun vs H Q E h => ?_) (fun cdv A outer s H vs Q E hr h => ?_)
  · obtain ⟨_, n, lo, hi, v, d, rfl, _⟩ := h
    rfl
  · obtain ⟨ha, n, lo, hi, v, d, rfl, r, k⟩ := h
    refine ⟨_, (pss_one (ps_ret (pe_and (pe_call (ok_are_integers T) (hr.mono (by decide)) rfl T.are_integers.g T.are_integers.F.kp T.are_integers.b .nil pass0 (pa_cons (pv 0) (pa_cons (pv 3) pa_nil))) (pe_one (pe_callB (cr_all rfl) (by rfl) T.n_all (by decide +kernel) (pa_cons (pe_lc (own := [("one", 4)]) (g := (gName 4)) (tt := tYes) rfl sc_are_between.nd (pi_tup (pv 3)) (blkOk_by (own := [("one", 4)]) (N := ["many", "low", "high", "thing", "one"]) (sc := defScope s_are_between) (by decide +kernel)) (fun _ _ _ _ _ => (pg_name (i := 4) sc_are_between.nd rfl (Or.inl rfl))) (fun _ _ _ _ _ => pts_nil) (fun _ _ _ _ _ => (by exact (pe_chain op_le op_le (pv 1) (pv 4) (pv 2))))) pa_nil)))))), ?_⟩
    refine ⟨_, rfl, _, rfl, ha, _, _, _, rfl, r, fun H1 s1 => ⟨_, rfl, ?_⟩⟩
    cases e1 : areInts n d with
    | false =>
      refine iteF ?_
      have : areBtw n lo hi d = false := by
        cases d with
        | tup ds =>
          show (decide _ && ds.all (isBtw lo hi)) = false
          rw [← btw_int, ← Bool.and_assoc]
          have e2 : (decide ((ds.length : Int) = n) && ds.all isInt) = false := e1
          rw [e2]; rfl
        | _ => rfl
      have q := k H1 s1
      rw [this] at q
      exact q
    | true =>
      refine iteT ?_
      cases r.same s1 with
      | tup e z ra =>
        refine ⟨_, rfl, _, rfl, ⟨_, SqT.of e⟩, fun A hA => all_tup e z ra (isBtw lo hi) hA (fun x => rfl) (fun x d H' Q' hd _ rp q => ?_) (fun H' sm sl => ?_)⟩
        · have e2 := (Bool.and_eq_true_iff.mp e1).2
          rw [List.all_eq_true] at e2
          have e3 := e2 d hd
          cases rp with
          | int i =>
            refine ⟨_, rfl, _, rfl, _, _, rfl, rfl, _, rfl, ?_⟩
            by_cases h1 : lo ≤ i
            · rw [decide_eq_true h1]
              refine iteT ?_
              refine ⟨_, rfl, _, _, rfl, rfl, ?_⟩
              have : isBtw lo hi (.int i) = decide (i ≤ hi) := by show (decide (lo ≤ i) && decide (i ≤ hi)) = _; rw [decide_eq_true h1]; rfl
              have q2 := q _ (Same.refl _)
              rw [this] at q2
              exact q2
            · rw [decide_eq_false h1]
              refine iteF ?_
              have : isBtw lo hi (.int i) = false := by show (decide (lo ≤ i) && decide (i ≤ hi)) = _; rw [decide_eq_false h1]; rfl
              have q2 := q _ (Same.refl _)
              rw [this] at q2
              exact q2
          | _ => exact Bool.noConfusion e3
        · refine ⟨_, _, rfl, sl, ?_⟩
          rw [map_all]
          have := k H' (s1.trans sm)
          have e4 := (Bool.and_eq_true_iff.mp e1).1
          rw [areBtw_tup, e4] at this
          exact this
      | _ => exact Bool.noConfusion e1
def spBE : Sp := fun vs H Q _ => ∃ (h : Addr) (n : Int) (v : V) (d : D), vs = [.int n, v] ∧ Rp H h v d ∧ ∀ H', Same H H' → Q (.bl (isBE n d)) H'
theorem be_false {n : Int} {d : D} (e : areBtw 2 0 (n - 1) d = false) : isBE n d = false := by
  unfold isBE
  rw [e]; rfl
theorem be_true {n : Int} {d : D} (e : areBtw 2 0 (n - 1) d = true) : ∃ a b, d = .tup [.int a, .int b] ∧ isBE n d = !decide (a = b) := by
  have e0 := e
  cases d with
  | tup ds =>
    rw [areBtw_tup] at e
    obtain ⟨h1, h2⟩ := Bool.and_eq_true_iff.mp e
    have h3 := of_decide_eq_true h1
    match ds, h3 with
    | [x, y], _ =>
      rw [List.all_cons, List.all_cons, List.all_nil, Bool.and_true] at h2
      obtain ⟨h4, h5⟩ := Bool.and_eq_true_iff.mp h2
      cases x with
      | int a =>
        cases y with
        | int b =>
          refine ⟨a, b, rfl, ?_⟩
          unfold isBE
          rw [e0]; rfl
        | _ => exact Bool.noConfusion h5
      | _ => exact Bool.noConfusion h4
    | [], h => simp at h
    | [_], h => simp at h
    | _ :: _ :: _ :: _, h => simp at h; omega
  | _ => exact Bool.noConfusion e
theorem ok_is_begin_and_end (T : Tx K mg) : FnOk P w K mg base CX0 4 T.is_begin_and_end.f T.is_begin_and_end.fd ["houses", "thing"] spBE := by
  refine T.is_begin_and_end.F.ok sc_is_begin_and_end (fun vs H Q E h => ?_) (fun cdv A outer s H vs Q E hr h => ?_)
  · obtain ⟨_, n, v, d, rfl, _⟩ := h
    rfl
  · obtain ⟨ha, n, v, d, rfl, r, k⟩ := h
    refine ⟨_, (pss_one (ps_ret (pe_and (pe_call (ok_are_between T) (hr.mono (by decide)) rfl T.are_between.g T.are_between.F.kp T.are_between.b .nil pass0 (pa_cons pe_int (pa_cons pe_int (pa_cons (pe_op op_sub (pv 0) pe_int) (pa_cons (pv 1) pa_nil))))) (pe_one (pe_cmpR op_ne (pe_ix ix_tup (pv 1) pe_int (fun _ _ => rfl)) (pe_ix ix_tup (pv 1) pe_int (fun _ _ => rfl)) (nomark _)))))), ?_⟩
    refine ⟨_, rfl, _, _, rfl, rfl, _, rfl, ha, _, _, _, _, _, rfl, r, fun H1 s1 => ⟨_, rfl, ?_⟩⟩
    cases e1 : areBtw 2 0 (n - 1) d with
    | false =>
      refine iteF ?_
      have q := k H1 s1
      rw [be_false e1] at q
      exact q
    | true =>
      refine iteT ?_
      obtain ⟨a, b, rfl, e2⟩ := be_true e1
      have q := k H1 s1
      rw [e2] at q
      cases r.same s1 with
      | tup e z ra =>
        cases ra with
        | cons r1 ra =>
          cases ra with
          | cons r2 ra =>
            cases ra
            cases r1
            cases r2
            refine ⟨_, rfl, _, _, _, _, rfl, rfl, SqT.of e, atI_nat (j := 0) rfl, _, rfl, _, _, _, _, rfl, rfl, SqT.of e, atI_nat (j := 1) rfl, rfl, ?_⟩
            rw [int_eqd]
            exact q
def spRoads : Sp := fun vs H Q _ => ∃ (h : Addr) (n : Int) (v : V) (d : D), vs = [.int n, v] ∧ Rp H h v d ∧ ∀ H', Same H H' → Q (.bl (areRoads n d)) H'
theorem ok_are_roads (T : Tx K mg) : FnOk P w K mg base CX0 5 T.are_roads.f T.are_roads.fd ["houses", "thing"] spRoads := by
  refine T.are_roads.F.ok sc_are_roads (fun vs H Q E h => ?_) (fun cdv A outer s H vs Q E hr h => ?_)
  · obtain ⟨_, n, v, d, rfl, _⟩ := h
    rfl
  · obtain ⟨ha, n, v, d, rfl, r, k⟩ := h
    refine ⟨_, (pss_one (ps_ret (pe_and (pe_callB call_isi (by rfl) T.n_isinstance (by decide +kernel) (pa_cons (pv 1) (pa_cons (pe_bltn (v := .ty "tuple") (by rfl) T.n_tuple (by decide +kernel) rfl) pa_nil))) (pe_and (pe_chain op_le op_le pe_int (pe_callB call_len_seq (by rfl) T.n_len (by decide +kernel) (pa_cons (pv 1) pa_nil)) (pe_glob (v := .int 24) rfl T.c_MOST_ROADS.choose_spec ⟨_, rfl⟩)) (pe_one (pe_callB (cr_all rfl) (by rfl) T.n_all (by decide +kernel) (pa_cons (pe_lc (own := [("road", 2)]) (g := (gName 2)) (tt := tYes) rfl sc_are_roads.nd (pi_tup (pv 1)) (blkOk_by (own := [("road", 2)]) (N := ["houses", "thing", "road"]) (sc := defScope s_are_roads) (by decide +kernel)) (fun _ _ _ _ _ => (pg_name (i := 2) sc_are_roads.nd rfl (Or.inl rfl))) (fun _ _ _ _ _ => pts_nil) (fun _ _ _ _ _ => (by exact (pe_call (ok_is_begin_and_end T) (hr.mono (by decide)) rfl T.is_begin_and_end.g T.is_begin_and_end.F.kp T.is_begin_and_end.b .nil pass0 (pa_cons (pv 0) (pa_cons (pv 2) pa_nil)))))) pa_nil))))))), ?_⟩
    refine ⟨_, rfl, _, _, _, _, _, rfl, .ty "tuple", r.ty, kit_ty (kitT d), _, rfl, ?_⟩
    cases r with
    | @tup _ xs ds e z ra =>
      refine iteT ?_
      refine ⟨_, rfl, _, _, rfl, .inr (SqT.of e), _, _, rfl, rfl, _, rfl, ?_⟩
      rw [ra.len]
      by_cases h1 : 1 ≤ ds.length
      · rw [decide_eq_true (show (1 : Int) ≤ (ds.length : Int) by omega)]
        refine iteT ?_
        refine ⟨_, _, rfl, rfl, _, rfl, ?_⟩
        by_cases h2 : ds.length ≤ 24
        · rw [decide_eq_true (show (ds.length : Int) ≤ 24 by omega)]
          refine iteT ?_
          refine ⟨_, rfl, _, rfl, ⟨_, SqT.of e⟩, fun A hA => all_tup e z ra (isBE n) hA (fun x => rfl) (fun x d H' Q' _ _ rp q => ?_) (fun H' sm sl => ?_)⟩
          · exact ⟨_, rfl, _, rfl, ha, _, _, _, rfl, rp, q⟩
          · refine ⟨_, _, rfl, sl, ?_⟩
            rw [map_all]
            have := k H' sm
            rw [areRoads_tup, decide_eq_true h1, decide_eq_true h2] at this
            exact this
        · rw [decide_eq_false (show ¬ (ds.length : Int) ≤ 24 by omega)]
          refine iteF ?_
          have := k H (Same.refl _)
          rw [areRoads_tup, decide_eq_true h1, decide_eq_false h2] at this
          exact this
      · rw [decide_eq_false (show ¬ (1 : Int) ≤ (ds.length : Int) by omega)]
        refine iteF ?_
        have := k H (Same.refl _)
        rw [areRoads_tup, decide_eq_false h1] at this
        exact ⟨_, rfl, iteF this⟩
    | _ => exact iteF (k H (Same.refl _))
theorem btw_shape {lo hi : Int} {d : D} (e : isBtw lo hi d = true) : ∃ n, d = .int n := by
  cases d with
  | int n => exact ⟨n, rfl⟩
  | _ => exact Bool.noConfusion e
theorem roads_shape {n : Int} {d : D} (e : areRoads n d = true) : ∃ ds, d = .tup ds := by
  cases d with
  | tup ds => exact ⟨ds, rfl⟩
  | _ => exact Bool.noConfusion e
theorem tup_inv {H : Hp} {h : Addr} {v : V} {ds : List D} (r : Rp H h v (.tup ds)) : ∃ a xs, v = .ref a ∧ H a = some (.tup xs) ∧ xs.length ≤ 100000 ∧ RpA H h xs ds := by
  cases r with
  | tup e z ra => exact ⟨_, _, rfl, e, z, ra⟩
theorem int_inv {H : Hp} {h : Addr} {v : V} {i : Int} (r : Rp H h v (.int i)) : v = .int i := by
  cases r; rfl
theorem putF_lt {f : Str} {v : V} : ∀ {fs : List (Str × V)} {n : Nat}, fs.length < n → (putF f v fs).length < n + 1
  | [], n, h => by show 1 < n + 1; have : 0 < n := h; omega
  | (g, w) :: fs, n, h => by
    have h' : fs.length + 1 < n := h
    show (if g = f then (g, v) :: fs else (g, w) :: putF f v fs).length < n + 1
    by_cases e : g = f
    · rw [if_pos e]; show fs.length + 1 < n + 1; omega
    · rw [if_neg e]
      have := putF_lt (f := f) (v := v) (fs := fs) (n := n - 1) (by omega)
      show (putF f v fs).length + 1 < n + 1
      omega
/-- the error's own dict behind it -/
def spInitE (C : Addr) (f : Str) : Sp := fun vs H Q _ => ∃ (a : Addr) (y : V), vs = [.ref a, y] ∧ H a = some (exo a C none) ∧
  ∀ dx, H dx = none → dx ≠ a → Q .non (upd (upd H dx (exd dx [(f, y)])) a (exo a C (some dx)))
theorem ok_BadWeb___init (T : Tx K mg) : FnOk P w K mg base (L2.CX P w) 1 T.x_BadWeb.f T.x_BadWeb.fd ["self", "part"] (spInitE T.x_BadWeb.C "part") := by
  refine T.x_BadWeb.F.okX sc_BadWeb___init (fun vs H Q E h => ?_) (fun cdv A outer s H vs Q E hr h => ?_)
  · obtain ⟨a, y, rfl, _⟩ := h
    rfl
  · obtain ⟨a, y, rfl, ha, k⟩ := h
    refine ⟨_, pss_one (ps_ost (pv 0) (pv 1)), ?_⟩
    exact ⟨_, rfl, _, rfl, a, T.x_BadWeb.C, rfl, T.x_BadWeb.T, T.x_BadWeb.no _ (by simp), .inl ⟨ha, fun dx n ne => k dx n ne⟩⟩
def dlen : D → Nat | .tup ds => ds.length | _ => 0
def num : D → Int | .int i => i | _ => 0
/-- the first part that is not as told -/
def due (d1 d2 d3 d4 : D) : Option Str :=
  if isBtw 2 12 d1 = false then some "houses" else if areRoads (num d1) d2 = false then some "roads"
  else if areBtw (dlen d2) 1 3 d3 = false then some "rooms" else if areBtw (dlen d2) 1 3 d4 = false then some "times" else none
def webF (v1 v2 v3 v4 : V) : List (Str × V) := putF "times" v4 (putF "rooms" v3 (putF "roads" v2 (putF "houses" v1 [])))
def spWeb (C CB : Addr) : Sp := fun vs H Q E => ∃ (h p dx : Addr) (v1 v2 v3 v4 : V) (d1 d2 d3 d4 : D), vs = [.ref p, v1, v2, v3, v4] ∧ H p = some (.ins C dx []) ∧
  Rp H h v1 d1 ∧ Rp H h v2 d2 ∧ Rp H h v3 d3 ∧ Rp H h v4 d4 ∧
  (due d1 d2 d3 d4 = none → ∀ H', But p H H' → H' p = some (.ins C dx (webF v1 v2 v3 v4)) → Q .non H') ∧
  (∀ part, due d1 d2 d3 d4 = some part → ∀ H' d, Same H H' → H' d = some (.xd [("part", .str part)]) → E (.ref CB) (some d) H')
theorem err_same {H H1 : Hp} {a d C : Addr} {f : Str} {y : V} (s : Same H H1) (ha : H1 a = none) (hd : (upd H1 a (exo a C none)) d = none) (ne : d ≠ a) :
    Same H (upd (del (upd (upd (upd H1 a (exo a C none)) d (exd d [(f, y)])) a (exo a C (some d))) a) d (.xd [(f, y)])) := fun b o q => by
  have q1 := s b o q
  have n1 : b ≠ a := ne_of_none q1 ha
  have n2 : b ≠ d := fun z => by subst z; rw [upd_ne n1, q1] at hd; cases hd
  rw [upd_ne n2, del_ne n1, upd_ne n1, upd_ne n2, upd_ne n1]
  exact q1
theorem ok_Web___init (T : Tx K mg) : FnOk P w K mg base (L2.CX P w) 7 T.Web.f T.Web.fd ["self", "houses", "roads", "rooms", "times"] (spWeb T.Web.C T.x_BadWeb.C) := by
  refine T.Web.F.okX sc_Web___init (fun vs H Q E h => ?_) (fun cdv A outer s H vs Q E hr h => ?_)
  · obtain ⟨ha, p, dx, v1, v2, v3, v4, d1, d2, d3, d4, rfl, _⟩ := h
    rfl
  · obtain ⟨ha, p, dx, v1, v2, v3, v4, d1, d2, d3, d4, rfl, hp, r1, r2, r3, r4, kq, ke⟩ := h
    refine ⟨_, (pss_cons (ps_if (pt_not (pt_val (pe_call (ok_is_between T) (hr.mono (by decide)) rfl T.is_between.g T.is_between.F.kp T.is_between.b .nil pass0 (pa_cons pe_int (pa_cons (pe_glob (v := .int 12) rfl T.c_MOST_HOUSES.choose_spec ⟨_, rfl⟩) (pa_cons (pv 1) pa_nil))))))
      (pss_one (ps_raise rfl (takes_of rfl rfl rfl rfl) (pmk_oex T.x_BadWeb.T T.x_BadWeb.iC T.x_BadWeb.tI (ok_BadWeb___init T) (hr.mono (by decide)) T.x_BadWeb.b .nil passL rfl T.x_BadWeb.g (pa_cons pe_str pa_nil))))
      pss_nil)
      (pss_cons (ps_if (pt_not (pt_val (pe_call (ok_are_roads T) (hr.mono (by decide)) rfl T.are_roads.g T.are_roads.F.kp T.are_roads.b .nil pass0 (pa_cons (pv 1) (pa_cons (pv 2) pa_nil)))))
      (pss_one (ps_raise rfl (takes_of rfl rfl rfl rfl) (pmk_oex T.x_BadWeb.T T.x_BadWeb.iC T.x_BadWeb.tI (ok_BadWeb___init T) (hr.mono (by decide)) T.x_BadWeb.b .nil passL rfl T.x_BadWeb.g (pa_cons pe_str pa_nil))))
      pss_nil)
      (pss_cons (ps_if (pt_not (pt_val (pe_call (ok_are_between T) (hr.mono (by decide)) rfl T.are_between.g T.are_between.F.kp T.are_between.b .nil pass0 (pa_cons (pe_callB call_len_seq (by rfl) T.n_len (by decide +kernel) (pa_cons (pv 2) pa_nil)) (pa_cons pe_int (pa_cons (pe_glob (v := .int 3) rfl T.c_MOST_ROOMS.choose_spec ⟨_, rfl⟩) (pa_cons (pv 3) pa_nil)))))))
      (pss_one (ps_raise rfl (takes_of rfl rfl rfl rfl) (pmk_oex T.x_BadWeb.T T.x_BadWeb.iC T.x_BadWeb.tI (ok_BadWeb___init T) (hr.mono (by decide)) T.x_BadWeb.b .nil passL rfl T.x_BadWeb.g (pa_cons pe_str pa_nil))))
      pss_nil)
      (pss_cons (ps_if (pt_not (pt_val (pe_call (ok_are_between T) (hr.mono (by decide)) rfl T.are_between.g T.are_between.F.kp T.are_between.b .nil pass0 (pa_cons (pe_callB call_len_seq (by rfl) T.n_len (by decide +kernel) (pa_cons (pv 2) pa_nil)) (pa_cons pe_int (pa_cons (pe_glob (v := .int 3) rfl T.c_LONGEST_TIME.choose_spec ⟨_, rfl⟩) (pa_cons (pv 4) pa_nil)))))))
      (pss_one (ps_raise rfl (takes_of rfl rfl rfl rfl) (pmk_oex T.x_BadWeb.T T.x_BadWeb.iC T.x_BadWeb.tI (ok_BadWeb___init T) (hr.mono (by decide)) T.x_BadWeb.b .nil passL rfl T.x_BadWeb.g (pa_cons pe_str pa_nil))))
      pss_nil)
      (pss_cons (ps_fld (pv 0) (pv 1) rfl)
      (pss_cons (ps_fld (pv 0) (pv 2) rfl)
      (pss_cons (ps_fld (pv 0) (pv 3) rfl)
      (pss_one (ps_fld (pv 0) (pv 4) rfl))))))))), ?_⟩
    have raise : ∀ (part : Str) (H1 : Hp), Same H H1 → due d1 d2 d3 d4 = some part → ∀ a, H1 a = none →
        spInitE T.x_BadWeb.C "part" [.ref a, .str part] (upd H1 a (exo a T.x_BadWeb.C none)) (fun v H2 => v = .non ∧ ∃ (d : Addr) (fs : List (Str × V)), H2 a = some (exo a T.x_BadWeb.C (some d)) ∧ H2 d = some (exd d fs) ∧ H1 d = none ∧
          E (.ref T.x_BadWeb.C) (some d) (upd (del H2 a) d (.xd fs))) (fun _ _ _ => False) := by
      intro part H1 s1 hdue a hA
      refine ⟨a, _, rfl, upd_same, fun d hd nd => ⟨rfl, d, [("part", .str part)], upd_same, ?_, ?_, ?_⟩⟩
      · rw [upd_ne nd, upd_same]
      · rw [upd_ne nd] at hd; exact hd
      · exact ke part hdue _ d (err_same s1 hA hd nd) upd_same
    refine ⟨_, rfl, ha, _, _, _, _, rfl, r1, _, rfl, ?_⟩
    cases e1 : isBtw 2 12 d1 with
    | false =>
      refine iteT ⟨by show 1 ≤ 1000; decide, fun a hA => raise _ H (Same.refl _) (if_pos e1) a hA⟩
    | true =>
    refine iteF ?_
    have x1 : ¬ isBtw 2 12 d1 = false := by rw [e1]; decide
    obtain ⟨n, rfl⟩ := btw_shape e1
    cases r1
    refine ⟨_, rfl, _, rfl, ha, _, _, _, rfl, r2, fun H1 s1 => ⟨_, rfl, ?_⟩⟩
    cases e2 : areRoads n d2 with
    | false =>
      refine iteT ⟨by show 1 ≤ 1000; decide, fun a hA => raise _ H1 s1 ((if_neg x1).trans (if_pos e2)) a hA⟩
    | true =>
    refine iteF ?_
    have x2 : ¬ areRoads (num (.int n)) d2 = false := by show ¬ areRoads n d2 = false; rw [e2]; decide
    obtain ⟨ds, rfl⟩ := roads_shape e2
    obtain ⟨pa, xs, rfl, ea, za, ra⟩ := tup_inv r2
    refine ⟨_, rfl, _, _, rfl, .inr (SqT.of (s1 _ _ ea)), _, rfl, ha, _, _, _, _, _, rfl, r3.same s1, fun H2 s2 => ⟨_, rfl, ?_⟩⟩
    rw [ra.len]
    cases e3 : areBtw (ds.length : Int) 1 3 d3 with
    | false =>
      refine iteT ⟨by show 1 ≤ 1000; decide, fun a hA => raise _ H2 (s1.trans s2) ((if_neg x1).trans ((if_neg x2).trans (if_pos e3))) a hA⟩
    | true =>
    refine iteF ?_
    have x3 : ¬ areBtw (dlen (.tup ds)) 1 3 d3 = false := by show ¬ areBtw (ds.length : Int) 1 3 d3 = false; rw [e3]; decide
    refine ⟨_, rfl, _, _, rfl, .inr (SqT.of (s2 _ _ (s1 _ _ ea))), _, rfl, ha, _, _, _, _, _, rfl, (r4.same s1).same s2, fun H3 s3 => ⟨_, rfl, ?_⟩⟩
    rw [ra.len]
    cases e4 : areBtw (ds.length : Int) 1 3 d4 with
    | false =>
      refine iteT ⟨by show 1 ≤ 1000; decide, fun a hA => raise _ H3 ((s1.trans s2).trans s3) ((if_neg x1).trans ((if_neg x2).trans ((if_neg x3).trans (if_pos e4)))) a hA⟩
    | true =>
    refine iteF ?_
    have x4 : ¬ areBtw (dlen (.tup ds)) 1 3 d4 = false := by show ¬ areBtw (ds.length : Int) 1 3 d4 = false; rw [e4]; decide
    have sm := (s1.trans s2).trans s3
    have no : ∀ f ∈ (["houses", "roads", "rooms", "times"] : List Str), NoAttr K T.Web.C f := T.Web.no
    refine ⟨_, rfl, _, rfl, p, T.Web.C, dx, _, rfl, sm _ _ hp, T.Web.cl, no _ (by simp), (by decide), ?_⟩
    refine ⟨_, rfl, _, rfl, p, T.Web.C, dx, _, rfl, upd_same, T.Web.cl, no _ (by simp), (putF_lt (n := 999) (by decide)), ?_⟩
    refine ⟨_, rfl, _, rfl, p, T.Web.C, dx, _, rfl, upd_same, T.Web.cl, no _ (by simp), (putF_lt (n := 999) (putF_lt (n := 998) (by decide))), ?_⟩
    refine ⟨_, rfl, _, rfl, p, T.Web.C, dx, _, rfl, upd_same, T.Web.cl, no _ (by simp), (putF_lt (n := 999) (putF_lt (n := 998) (putF_lt (n := 997) (by decide)))), ?_⟩
    refine kq ((if_neg x1).trans ((if_neg x2).trans ((if_neg x3).trans (if_neg x4)))) _ (fun b o q n => ?_) upd_same
    rw [upd_ne n, upd_ne n, upd_ne n, upd_ne n]
    exact sm _ _ q
end
end Hc

set_option Elab.async false
set_option linter.all false
set_option maxRecDepth 100000
set_option maxHeartbeats 4000000
set_option autoImplicit false
namespace Hc
open PySem L2
/-- the hand: the script's cells at c, and four numbers -/
def HandAt (H : Hp) (h c : Addr) : Prop := ∃ (ns : List Int) (i d s t : Int), H h = some (.lst [.ref c, .int i, .int d, .int s, .int t]) ∧ H c = some (.lst (ns.map V.int)) ∧ 0 ≤ i ∧ c ≠ h
theorem HandAt.lst {H : Hp} {h c : Addr} (a : HandAt H h c) : IsLst H h := by
  obtain ⟨ns, i, d, s, t, e, _⟩ := a
  exact ⟨_, e⟩
theorem HandAt.ne {H : Hp} {h c : Addr} (a : HandAt H h c) {D : Addr} (hD : H D = none) : D ≠ h ∧ D ≠ c := by
  obtain ⟨ns, i, d, s, t, e, hc, _⟩ := a
  exact ⟨fun z => ne_of_none e hD z.symm, fun z => ne_of_none hc hD z.symm⟩
theorem HandAt.upd {H : Hp} {h c : Addr} (a : HandAt H h c) {D : Addr} {o : HO} (h1 : D ≠ h) (h2 : D ≠ c) : HandAt (upd H D o) h c := by
  obtain ⟨ns, i, d, s, t, e, hc, hi, hn⟩ := a
  exact ⟨ns, i, d, s, t, by rw [upd_ne (Ne.symm h1)]; exact e, by rw [upd_ne (Ne.symm h2)]; exact hc, hi, hn⟩
theorem HandAt.mono {H H' : Hp} {h c : Addr} (a : HandAt H h c) (k : Same H H') : HandAt H' h c := by
  obtain ⟨ns, i, d, s, t, e, hc, hi, hn⟩ := a
  exact ⟨ns, i, d, s, t, k _ _ e, k _ _ hc, hi, hn⟩
theorem But.upd {h D : Addr} {H H' : Hp} {o : HO} (k : But h H H') (hD : H D = none) : But h H (upd H' D o) := fun b u e n => by
  rw [upd_ne (ne_of_none e hD)]
  exact k _ _ e n
section
variable {P : Program} {w : World} {K : PySem.W.Frag} {mg : Str → Option Value} {base : Heap}
def spDraw : Sp := fun vs H Q _ => ∃ (h c : Addr) (m : Int), vs = [.ref h, .int m] ∧ HandAt H h c ∧ 0 < m ∧ m < 1000000 ∧
  ∀ n H', 0 ≤ n → n < m → HandAt H' h c → But h H H' → Q (.int n) H'
theorem mod_range (x : Int) {m : Int} (h : 0 < m) : 0 ≤ x.fmod m ∧ x.fmod m < m := by
  rw [Int.fmod_eq_emod_of_nonneg x (by omega)]
  exact ⟨Int.emod_nonneg x (by omega), Int.emod_lt_of_pos x h⟩
theorem ok__law_draw (T : Tx K mg) : FnOk P w K mg base CX0 1 T._law_draw.f T._law_draw.fd ["_law_hand_here", "_law_many"] spDraw := by
  refine T._law_draw.F.ok sc_law_draw (fun vs H Q E h => ?_) (fun cdv A outer s H vs Q E hr h => ?_)
  · obtain ⟨h, c, m, rfl, _⟩ := h
    rfl
  · obtain ⟨h, c, m, rfl, hA, m0, m1, k⟩ := h
    refine ⟨_, (C8.pss_cut (ps_if (PW.pt (pw_and (pt_cmpR op_eq (pe_ix ix_list (pv 0) pe_int (fun _ _ => rfl)) pe_int (nomark _)) (pw_and1 (pt_cmpR op_lt (pe_ix ix_list (pv 0) pe_int (fun _ _ => rfl)) (pe_callB call_len_seq (by rfl) T.n_len (by decide +kernel) (pa_cons (pe_ix ix_list (pv 0) pe_int (fun _ _ => rfl)) pa_nil)) (nomark _)))))
      (pss_cons (ps_set (i := 2) sc_law_draw.nd rfl (Or.inl rfl) (pe_ix ix_list (pe_ix ix_list (pv 0) pe_int (fun _ _ => rfl)) (pe_ix ix_list (pv 0) pe_int (fun _ _ => rfl)) (fun _ _ => rfl)))
      (pss_cons (ps_asg (pe_op op_add (pe_ix ix_list (pv 0) pe_int (fun _ _ => rfl)) pe_int) (pg_sub (pv 0) pe_int set_list))
      (pss_cons (ps_asg (pe_op op_modN (pe_callTy call_int1 (by rfl) T.n_int (by decide +kernel) (pa_cons (pe_op op_add (pe_op op_add (pe_op op_mul (pe_ix ix_list (pv 0) pe_int (fun _ _ => rfl)) pe_int) (pv 2)) pe_int) pa_nil)) pe_int) (pg_sub (pv 0) pe_int set_list))
      (pss_one (ps_if (pt_cmpR op_ge (pv 2) (pe_op op_pow pe_int pe_int) (nomark _))
      (pss_one (ps_asg (pv 2) (pg_sub (pv 0) pe_int set_list)))
      pss_nil)))))
      pss_nil)
      (pss_cons (ps_if (pt_cmpR op_gt (pe_ix ix_list (pv 0) pe_int (fun _ _ => rfl)) pe_int (nomark _))
      (pss_cons (ps_set (i := 3) sc_law_draw.nd rfl (Or.inl rfl) (pe_op op_modN (pe_callTy call_int1 (by rfl) T.n_int (by decide +kernel) (pa_cons (pe_ix ix_list (pv 0) pe_int (fun _ _ => rfl)) pa_nil)) (pv 1)))
      (pss_cons (ps_asg (pe_op op_fdivN (pe_ix ix_list (pv 0) pe_int (fun _ _ => rfl)) (pv 1)) (pg_sub (pv 0) pe_int set_list))
      (pss_one (ps_ret (pv 3)))))
      pss_nil)
      (pss_cons (ps_asg (pe_op op_add (pe_ix ix_list (pv 0) pe_int (fun _ _ => rfl)) pe_int) (pg_sub (pv 0) pe_int set_list))
      (pss_cons (ps_set (i := 4) sc_law_draw.nd rfl (Or.inl rfl) (pe_op op_modN (pe_callTy call_int1 (by rfl) T.n_int (by decide +kernel) (pa_cons (pe_op op_mul (pe_callTy call_int1 (by rfl) T.n_int (by decide +kernel) (pa_cons (pe_op op_add (pe_ix ix_list (pv 0) pe_int (fun _ _ => rfl)) (pe_op op_mul pe_int (pe_ix ix_list (pv 0) pe_int (fun _ _ => rfl)))) pa_nil)) pe_int) pa_nil)) pe_int))
      (pss_cons (ps_set (i := 4) sc_law_draw.nd rfl (Or.inl rfl) (pe_op op_modN (pe_callTy call_int1 (by rfl) T.n_int (by decide +kernel) (pa_cons (pe_op op_mul (pv 4) (pe_op op_add (pe_op op_fdivN (pv 4) pe_int) pe_int)) pa_nil)) pe_int))
      (pss_cons (ps_set (i := 4) sc_law_draw.nd rfl (Or.inl rfl) (pe_op op_modN (pe_callTy call_int1 (by rfl) T.n_int (by decide +kernel) (pa_cons (pe_op op_mul (pv 4) (pe_op op_add (pe_op op_fdivN (pv 4) pe_int) pe_int)) pa_nil)) pe_int))
      (pss_one (ps_ret (pe_op op_modN (pe_callTy call_int1 (by rfl) T.n_int (by decide +kernel) (pa_cons (pe_op op_fdivN (pv 4) pe_int) pa_nil)) (pv 1)))))))))), ?_⟩
    refine ⟨fun σ' H' => ∃ cv : Option V, σ' = [some (.ref h), some (.int m), cv, none, none] ∧ HandAt H' h c ∧ But h H H', ?_, ?_⟩
    · obtain ⟨ns, i, d, s, t, hh, hc, hi, hn⟩ := id hA
      refine ⟨_, rfl, h, _, _, _, rfl, rfl, SqL.of hh, atI_nat (j := 2) rfl, rfl, _, rfl, ?_⟩
      rw [int_eqd]
      by_cases h0 : d = 0
      · rw [decide_eq_true h0]
        refine iteT ?_
        refine ⟨_, rfl, h, _, _, _, rfl, rfl, SqL.of hh, atI_nat (j := 1) rfl, _, rfl, h, _, _, _, rfl, rfl, SqL.of hh, atI_nat (j := 0) rfl, c, _, rfl, .inl (SqL.of hc), _, _, rfl, rfl, _, rfl, ?_⟩
        rw [List.length_map]
        by_cases h1 : i < ns.length
        · rw [decide_eq_true h1]
          refine iteT ?_
          obtain ⟨j, rfl⟩ := Int.eq_ofNat_of_zero_le hi
          have hj : j < ns.length := by omega
          have hx : (ns.map V.int)[j]? = some (.int ns[j]) := by rw [List.getElem?_map, List.getElem?_eq_getElem hj]; rfl
          refine ⟨_, rfl, h, _, _, _, rfl, rfl, SqL.of hh, atI_nat (j := 0) rfl, _, rfl, h, _, _, _, rfl, rfl, SqL.of hh, atI_nat (j := 1) rfl, c, _, _, _, rfl, rfl, SqL.of hc, atI_nat hx, ?_⟩
          -- hand[1] = hand[1] + 1
          refine ⟨_, rfl, h, _, _, _, rfl, rfl, SqL.of hh, atI_nat (j := 1) rfl, _, _, rfl, rfl, _, rfl, h, _, 1, 1, rfl, rfl, hh, rfl, ?_⟩
          -- hand[3] = ..
          refine ⟨_, rfl, h, _, _, _, rfl, rfl, SqL.of upd_same, atI_nat (j := 3) rfl, _, _, rfl, rfl, .inr ⟨by decide, by decide⟩, _, rfl, _, _, rfl, rfl, _, _, rfl, rfl, .inl ⟨_, rfl, _, _, rfl, rfl, (show (2147483629 : Int) ≠ 0 by decide), _, rfl, h, _, 3, 3, rfl, rfl, upd_same, rfl, ?_⟩⟩
          refine ⟨_, rfl, _, _, rfl, rfl, ⟨by decide, by decide, by decide⟩, _, _, rfl, rfl, _, rfl, ?_⟩
          have bt : ∀ {H1 : Hp} {xs}, But h H H1 → But h H (upd H1 h xs) := fun b => b.trans but_upd
          refine ite2 (fun _ => ?_) (fun _ => ?_)
          · refine ⟨_, rfl, _, rfl, h, _, 2, 2, rfl, rfl, upd_same, rfl, ?_⟩
            exact ⟨_, rfl, ⟨ns, _, _, _, _, upd_same, (bt (bt (bt (But.refl h H)))) _ _ hc hn, by omega, hn⟩, bt (bt (bt (But.refl h H)))⟩
          · exact ⟨_, rfl, ⟨ns, _, _, _, _, upd_same, (bt (bt (But.refl h H))) _ _ hc hn, by omega, hn⟩, bt (bt (But.refl h H))⟩
        · rw [decide_eq_false h1]
          exact iteF ⟨_, rfl, hA, But.refl h H⟩
      · rw [decide_eq_false h0]
        exact iteF (iteF ⟨_, rfl, hA, But.refl h H⟩)
    · rintro σ' H1 ⟨cv, rfl, hA1, b1⟩
      obtain ⟨ns, i, d, s, t, hh, hc, hi, hn⟩ := id hA1
      have bt : ∀ {H2 : Hp} {xs}, But h H H2 → But h H (upd H2 h xs) := fun b => b.trans but_upd
      have bu : ∀ {H2 : Hp} {xs}, But h H1 H2 → But h H1 (upd H2 h xs) := fun b => b.trans but_upd
      refine ⟨_, rfl, h, _, _, _, rfl, rfl, SqL.of hh, atI_nat (j := 2) rfl, _, _, rfl, rfl, _, rfl, ?_⟩
      refine ite2 (fun _ => ?_) (fun _ => ?_)
      · refine ⟨_, rfl, h, _, _, _, rfl, rfl, SqL.of hh, atI_nat (j := 2) rfl, .inl ⟨_, rfl, _, rfl, _, _, rfl, rfl, by omega, ?_⟩⟩
        refine ⟨_, rfl, h, _, _, _, rfl, rfl, SqL.of hh, atI_nat (j := 2) rfl, _, rfl, _, _, rfl, rfl, ⟨by omega, by omega⟩, _, rfl, h, _, 2, 2, rfl, rfl, hh, rfl, ?_⟩
        obtain ⟨q1, q2⟩ := mod_range d m0
        exact ⟨_, rfl, k _ _ q1 q2 ⟨ns, _, _, _, _, upd_same, (bu (But.refl h H1)) _ _ hc hn, hi, hn⟩ (bt b1)⟩
      · refine ⟨_, rfl, h, _, _, _, rfl, rfl, SqL.of hh, atI_nat (j := 4) rfl, _, _, rfl, rfl, _, rfl, h, _, 4, 4, rfl, rfl, hh, rfl, ?_⟩
        refine ⟨_, rfl, h, _, _, _, rfl, rfl, SqL.of upd_same, atI_nat (j := 3) rfl, _, rfl, h, _, _, _, rfl, rfl, SqL.of upd_same, atI_nat (j := 4) rfl, _, _, rfl, rfl, .inl ⟨by decide, by decide⟩, _, _, rfl, rfl, .inl ⟨_, rfl, _, _, rfl, rfl, .inr ⟨by decide, by decide⟩, .inl ⟨_, rfl, _, _, rfl, rfl, (show (2147483647 : Int) ≠ 0 by decide), ?_⟩⟩⟩
        obtain ⟨u1, u2⟩ := mod_range ((s + 7919 * (t + 1)) * 48271) (m := 2147483647) (by decide)
        obtain ⟨x, hx⟩ : ∃ x, x = ((s + 7919 * (t + 1)) * 48271).fmod 2147483647 := ⟨_, rfl⟩
        rw [← hx] at u1 u2
        refine ⟨_, rfl, _, rfl, _, _, rfl, rfl, ⟨by decide, by decide⟩, _, _, rfl, rfl, _, _, rfl, rfl, .inl ⟨by rw [← hx]; omega, by rw [← hx]; omega⟩, .inl ⟨_, rfl, _, _, rfl, rfl, (show (2147483647 : Int) ≠ 0 by decide), ?_⟩⟩
        rw [← hx]
        obtain ⟨u1, u2⟩ := mod_range (x * (x.fdiv 1009 + 69621)) (m := 2147483647) (by decide)
        obtain ⟨y, hy⟩ : ∃ y, y = (x * (x.fdiv 1009 + 69621)).fmod 2147483647 := ⟨_, rfl⟩
        rw [← hy] at u1 u2
        refine ⟨_, rfl, _, rfl, _, _, rfl, rfl, ⟨by decide, by decide⟩, _, _, rfl, rfl, _, _, rfl, rfl, .inl ⟨by rw [← hy]; omega, by rw [← hy]; omega⟩, .inl ⟨_, rfl, _, _, rfl, rfl, (show (2147483399 : Int) ≠ 0 by decide), ?_⟩⟩
        rw [← hy]
        refine ⟨_, rfl, _, _, rfl, rfl, ⟨by decide, by decide⟩, .inl ⟨_, rfl, _, rfl, _, _, rfl, rfl, by omega, ?_⟩⟩
        obtain ⟨q1, q2⟩ := mod_range (((y * (y.fdiv 2003 + 40692)).fmod 2147483399).fdiv 16) m0
        exact k _ _ q1 q2 ⟨ns, _, _, _, _, upd_same, (bu (But.refl h H1)) _ _ hc hn, hi, hn⟩ (bt b1)
end
end Hc

set_option Elab.async false
set_option linter.all false
set_option maxRecDepth 100000
set_option maxHeartbeats 4000000
set_option autoImplicit false
namespace Hc
open PySem L2
theorem But.del {h p : Addr} {H H' : Hp} (k : But h H H') : But h (del H p) (del H' p) := fun b o e n => by
  by_cases z : b = p
  · subst z; rw [del_same] at e; cases e
  · rw [del_ne z] at e ⊢; exact k _ _ e n
theorem del_upd {H : Hp} {p : Addr} {o : HO} : del (upd H p o) p = del H p := by
  funext b
  by_cases z : b = p
  · subst z; rw [del_same, del_same]
  · rw [del_ne z, del_ne z, upd_ne z]
theorem del_sub {H : Hp} {p : Addr} : Same (del H p) H := fun b o e => by
  by_cases z : b = p
  · subst z; rw [del_same] at e; cases e
  · rw [del_ne z] at e; exact e
theorem del_new {H : Hp} {p q : Addr} {o : HO} (hq : H q = none) : Same (del H p) (del (upd H q o) p) := fun b u e => by
  by_cases z : b = p
  · subst z; rw [del_same] at e; cases e
  · rw [del_ne z] at e ⊢
    rw [upd_ne (ne_of_none e hq)]; exact e
theorem btw_of {lo hi i : Int} (a : lo ≤ i) (b : i ≤ hi) : isBtw lo hi (.int i) = true := by
  show (decide (lo ≤ i) && decide (i ≤ hi)) = true
  rw [decide_eq_true a, decide_eq_true b]; rfl
theorem RpA.ints {H : Hp} {h : Addr} : ∀ ns : List Int, RpA H h (ns.map V.int) (ns.map D.int)
  | [] => .nil
  | n :: r => .cons (.int n) (RpA.ints r)
theorem RpA.rep {H : Hp} {h : Addr} {v : V} {d : D} (r : Rp H h v d) : ∀ n : Nat, RpA H h (List.replicate n [v]).flatten (List.replicate n d)
  | 0 => .nil
  | n + 1 => by
    rw [List.replicate_succ, List.replicate_succ, List.flatten_cons]
    exact .cons r (RpA.rep r n)
theorem tyes {σ : St} {H : Hp} {A B : Hp → Prop} (h : A H) : tYes σ H (fun b H3 => if b = true then A H3 else B H3) := by
  unfold tYes
  show if true = true then A H else B H
  rw [if_pos rfl]
  exact h
theorem RpA.snoc_inv {H : Hp} {h : Addr} {d : D} : ∀ {ds : List D} {vs : List V}, RpA H h vs (ds ++ [d]) → ∃ vs' v, vs = vs' ++ [v] ∧ Rp H h v d
  | [], _, .cons r .nil => ⟨[], _, rfl, r⟩
  | e :: ds, _, .cons r q => by
    obtain ⟨vs', v, rfl, k⟩ := RpA.snoc_inv (ds := ds) q
    exact ⟨_ :: vs', v, rfl, k⟩
section
variable {P : Program} {w : World} {K : PySem.W.Frag} {mg : Str → Option Value} {base : Heap}
def spCounts : Sp := fun vs H Q _ => ∃ (h c : Addr) (m : Int), vs = [.ref h, .int m] ∧ HandAt H h c ∧ 0 < m ∧ m ≤ 1000 ∧
  ∀ v d H', HandAt H' h c → But h H H' → Rp H' h v d → areBtw m 1 3 d = true → Q v H'
theorem ok__law_counts (T : Tx K mg) : FnOk P w K mg base CX0 2 T._law_counts.f T._law_counts.fd ["_law_hand_here", "_law_many"] spCounts := by
  refine T._law_counts.F.ok sc_law_counts (fun vs H Q E h => ?_) (fun cdv A outer s H vs Q E hr h => ?_)
  · obtain ⟨h, c, m, rfl, _⟩ := h
    rfl
  · obtain ⟨h, c, m, rfl, hA, m0, m1, k⟩ := h
    refine ⟨_, (pss_cons (ps_if (pt_cmpR op_gt (pe_call (ok__law_draw T) (hr.mono (by decide)) rfl T._law_draw.g T._law_draw.F.kp T._law_draw.b .nil pass0 (pa_cons (pv 0) (pa_cons pe_int pa_nil))) pe_int (nomark _))
      (pss_one (ps_ret (pe_op op_repA (pe_tup (pa_cons pe_int pa_nil)) (pv 1))))
      pss_nil)
      (pss_one (ps_ret (pe_callTy call_tuple_of (by rfl) T.n_tuple (by decide +kernel) (pa_cons (pe_lc (own := [("_law_road", 2)]) (g := (gName 2)) (tt := tYes) rfl sc_law_counts.nd (pi_range1 (by rfl) T.n_range (pa_cons (pv 1) pa_nil)) (blkOk_by (own := [("_law_road", 2)]) (N := ["_law_hand_here", "_law_many", "_law_road"]) (sc := defScope s_law_counts) (by decide +kernel)) (fun _ _ _ _ _ => (pg_name (i := 2) sc_law_counts.nd rfl (Or.inl rfl))) (fun _ _ _ _ _ => pts_nil) (fun _ _ _ _ _ => (by exact (pe_op op_add pe_int (pe_call (ok__law_draw T) (hr.mono (by decide)) rfl T._law_draw.g T._law_draw.F.kp T._law_draw.b .nil pass0 (pa_cons (pv 0) (pa_cons pe_int pa_nil))))))) pa_nil))))), ?_⟩
    refine ⟨_, rfl, h, c, 3, rfl, hA, by decide, by decide, fun x H1 x0 x1 hA1 b1 => ⟨_, _, rfl, rfl, _, rfl, ite2 (fun _ => ?_) (fun _ => ?_)⟩⟩
    · refine ⟨by show 1 ≤ sizeLine; decide, fun p hp => ⟨_, rfl, p, m, _, rfl, rfl, SqT.of upd_same, by simp, by omega, m1, by simp, fun e => ?_, fun e q hq => ?_⟩⟩
      · subst e
        obtain ⟨n1, n2⟩ := hA1.ne hp
        refine k _ (.tup [.int 1]) _ (hA1.upd n1 n2) (b1.upd (b1.free n1 hp)) (.tup upd_same (by simp) (.cons (.int 1) .nil)) (by decide)
      · obtain ⟨n1, n2⟩ := hA1.ne hp
        have hA2 : HandAt (upd H1 p (.tup [V.int 1])) h c := hA1.upd n1 n2
        obtain ⟨n3, n4⟩ := hA2.ne hq
        have b2 : But h H (upd H1 p (.tup [V.int 1])) := b1.upd (b1.free n1 hp)
        refine k _ (.tup (List.replicate m.toNat (.int 1))) _ (hA2.upd n3 n4) (b2.upd (b2.free n3 hq)) (.tup upd_same ?_ (RpA.rep (.int 1) _)) ?_
        · simp; omega
        · rw [areBtw_tup, List.length_replicate, decide_eq_true (by omega), Bool.true_and, List.all_eq_true]
          intro d hd
          rw [List.eq_of_mem_replicate hd]
          decide
    · refine ⟨_, rfl, m, rfl, by omega, by omega, fun D hD => ?_⟩
      obtain ⟨n1, n2⟩ := hA1.ne hD
      have hD0 := b1.free n1 hD
      refine lc_range (lo := 0) (n := m.toNat) (fun i H' => ∃ ns : List Int, ns.length = i ∧ (∀ x ∈ ns, 1 ≤ x ∧ x ≤ 3) ∧ H' D = some (.lst (ns.map V.int)) ∧ HandAt H' h c ∧ But h H H')
        ⟨[], rfl, fun _ z => (nomatch z), upd_same, hA1.upd n1 n2, b1.upd hD0⟩ ?_ ?_
      · rintro i H2 hi ⟨ns, hl, hn, hd, hA2, b2⟩
        refine ⟨rfl, tyes ⟨_, rfl, h, c, 3, rfl, hA2, by decide, by decide, fun y H3 y0 y1 hA3 b3 => ⟨_, _, rfl, rfl, _, b3 _ _ hd n1, ?_, ns ++ [1 + y], ?_, ?_, ?_, hA3.upd n1 n2, (b2.trans b3).upd hD0⟩⟩⟩
        · rw [List.length_map]; exact line_lt (by omega)
        · rw [List.length_append, hl]; rfl
        · intro z hz
          rcases List.mem_append.mp hz with q | q
          · exact hn z q
          · rw [List.mem_singleton] at q; subst q; omega
        · rw [upd_same, List.map_append]; rfl
      · rintro H2 ⟨ns, hl, hn, hd, hA2, b2⟩
        refine ⟨_, _, rfl, .inl ⟨SqL.of hd, fun q hq => ?_⟩⟩
        obtain ⟨n3, n4⟩ := hA2.ne hq
        refine k _ (.tup (ns.map Hc.D.int)) _ (hA2.upd n3 n4) (b2.upd (b2.free n3 hq)) (.tup upd_same (by rw [List.length_map]; omega) (RpA.ints ns)) ?_
        rw [areBtw_tup, List.length_map, decide_eq_true (by omega), Bool.true_and, List.all_eq_true]
        intro d hd
        obtain ⟨x, hx, rfl⟩ := List.mem_map.mp hd
        exact btw_of (hn x hx).1 (hn x hx).2
/-- a drawn web -/
structure WebD (towns most : Int) (d : D) : Prop where
  ex : ∃ (n : Int) (ds : List D) (rm tm : D), d = .tup [.int n, .tup ds, rm, tm] ∧ 2 ≤ n ∧ n ≤ towns ∧ 1 ≤ ds.length ∧ (ds.length : Int) ≤ most ∧ ds.all (isBE n) = true ∧ areBtw ds.length 1 3 rm = true ∧ areBtw ds.length 1 3 tm = true
def spWebL : Sp := fun vs H Q _ => ∃ (h c : Addr) (towns most : Int), vs = [.ref h, .int towns, .int most] ∧ HandAt H h c ∧ 2 ≤ towns ∧ towns ≤ 1000 ∧ 1 ≤ most ∧ most ≤ 1000 ∧
  ∀ v d H', HandAt H' h c → But h H H' → Rp H' h v d → WebD towns most d → Q v H'
theorem be_of {n a b : Int} (a0 : 0 ≤ a) (a1 : a < n) (b0 : 0 ≤ b) (b1 : b < n) (ne : a ≠ b) : isBE n (.tup [.int a, .int b]) = true := by
  unfold isBE
  rw [areBtw_tup, List.all_cons, List.all_cons, List.all_nil, btw_of a0 (by omega), btw_of b0 (by omega)]
  show (decide (((2 : Nat) : Int) = 2) && (true && (true && true)) && !decide (a = b)) = true
  rw [decide_eq_false ne]; decide
theorem be_full {n : Int} {d : D} (e : isBE n d = true) : ∃ a b, d = .tup [.int a, .int b] ∧ 0 ≤ a ∧ a < n ∧ 0 ≤ b ∧ b < n ∧ a ≠ b := by
  have e1 := (Bool.and_eq_true_iff.mp e).1
  obtain ⟨a, b, rfl, e2⟩ := be_true e1
  rw [e] at e2
  have ne : a ≠ b := fun z => by rw [decide_eq_true z] at e2; cases e2
  rw [areBtw_tup, List.all_cons, List.all_cons, List.all_nil, Bool.and_true] at e1
  obtain ⟨_, e3⟩ := Bool.and_eq_true_iff.mp e1
  obtain ⟨h4, h5⟩ := Bool.and_eq_true_iff.mp e3
  obtain ⟨p1, p2⟩ := Bool.and_eq_true_iff.mp (show (decide (0 ≤ a) && decide (a ≤ n - 1)) = true from h4)
  obtain ⟨p3, p4⟩ := Bool.and_eq_true_iff.mp (show (decide (0 ≤ b) && decide (b ≤ n - 1)) = true from h5)
  have q1 := of_decide_eq_true p1
  have q2 := of_decide_eq_true p2
  have q3 := of_decide_eq_true p3
  have q4 := of_decide_eq_true p4
  exact ⟨a, b, rfl, q1, by omega, q3, by omega, ne⟩
theorem ring_ne {b x n : Int} (b0 : 0 ≤ b) (b1 : b < n) (x0 : 0 ≤ x) (x1 : x < n - 1) : b ≠ (b + 1 + x).fmod n := by
  rw [Int.fmod_eq_emod_of_nonneg _ (by omega)]
  by_cases h : b + 1 + x < n
  · rw [Int.emod_eq_of_lt (by omega) h]; omega
  · have e : (b + 1 + x) % n = b + 1 + x - n := by
      rw [← Int.sub_emod_right, Int.emod_eq_of_lt (by omega) (by omega)]
    rw [e]; omega
theorem ok__law_web (T : Tx K mg) : FnOk P w K mg base CX0 3 T._law_web.f T._law_web.fd ["_law_hand_here", "_law_towns", "_law_most"] spWebL := by
  refine T._law_web.F.ok sc_law_web (fun vs H Q E h => ?_) (fun cdv A outer s H vs Q E hr h => ?_)
  · obtain ⟨h, c, m, n, rfl, _⟩ := h
    rfl
  · obtain ⟨h, c, to, mo, rfl, hA, t0, t1, m0, m1, k⟩ := h
    refine ⟨_, (pss_cons (ps_set (i := 3) sc_law_web.nd rfl (Or.inl rfl) (pe_op op_add pe_int (pe_call (ok__law_draw T) (hr.mono (by decide)) rfl T._law_draw.g T._law_draw.F.kp T._law_draw.b .nil pass0 (pa_cons (pv 0) (pa_cons (pe_op op_sub (pv 1) pe_int) pa_nil)))))
      (pss_cons (ps_set (i := 4) sc_law_web.nd rfl (Or.inl rfl) (pe_op op_add pe_int (pe_call (ok__law_draw T) (hr.mono (by decide)) rfl T._law_draw.g T._law_draw.F.kp T._law_draw.b .nil pass0 (pa_cons (pv 0) (pa_cons (pv 2) pa_nil)))))
      (pss_cons (ps_set (i := 5) sc_law_web.nd rfl (Or.inl rfl) (pe_call (ok__law_draw T) (hr.mono (by decide)) rfl T._law_draw.g T._law_draw.F.kp T._law_draw.b .nil pass0 (pa_cons (pv 0) (pa_cons pe_int pa_nil))))
      (pss_cons (ps_set (i := 6) sc_law_web.nd rfl (Or.inl rfl) (pe_lst pa_nil))
      (pss_cons (ps_for PassesOwn.never rfl (pi_range1 (by rfl) T.n_range (pa_cons (pv 4) pa_nil)) (pg_name (i := 7) sc_law_web.nd rfl (Or.inl rfl))
      (pss_cons (ps_set (i := 8) sc_law_web.nd rfl (Or.inl rfl) (pe_call (ok__law_draw T) (hr.mono (by decide)) rfl T._law_draw.g T._law_draw.F.kp T._law_draw.b .nil pass0 (pa_cons (pv 0) (pa_cons (pv 3) pa_nil))))
      (C8.pss_cut (ps_if (PW.pt (pw_and (pt_cmpR op_eq (pv 5) pe_int (nomark _)) (pw_and (pt_cmpR op_gt (pv 7) pe_int (nomark _)) (pw_and1 (pt_cmpR op_gt (pe_call (ok__law_draw T) (hr.mono (by decide)) rfl T._law_draw.g T._law_draw.F.kp T._law_draw.b .nil pass0 (pa_cons (pv 0) (pa_cons pe_int pa_nil))) pe_int (nomark _))))))
      (pss_one (ps_set (i := 8) sc_law_web.nd rfl (Or.inl rfl) (pe_ix ix_tup (pe_ix ix_list (pv 6) (pe_un un_neg pe_int) (fun _ _ => rfl)) pe_int (fun _ _ => rfl))))
      pss_nil)
      (pss_one (ps_expr (pe_bm PySem.F.plainAttrs_list PySem.F.slot_list_append PySem.F.type_list_append mt_append (pv 6) (pa_cons (pe_tup (pa_cons (pv 8) (pa_cons (pe_op op_modN (pe_callTy call_int1 (by rfl) T.n_int (by decide +kernel) (pa_cons (pe_op op_add (pe_op op_add (pv 8) pe_int) (pe_call (ok__law_draw T) (hr.mono (by decide)) rfl T._law_draw.g T._law_draw.F.kp T._law_draw.b .nil pass0 (pa_cons (pv 0) (pa_cons (pe_op op_sub (pv 3) pe_int) pa_nil)))) pa_nil)) (pv 3)) pa_nil))) pa_nil)))))))
      (pss_one (ps_ret (pe_tup (pa_cons (pv 3) (pa_cons (pe_callTy call_tuple_of (by rfl) T.n_tuple (by decide +kernel) (pa_cons (pv 6) pa_nil)) (pa_cons (pe_call (ok__law_counts T) (hr.mono (by decide)) rfl T._law_counts.g T._law_counts.F.kp T._law_counts.b .nil pass0 (pa_cons (pv 0) (pa_cons (pv 4) pa_nil))) (pa_cons (pe_call (ok__law_counts T) (hr.mono (by decide)) rfl T._law_counts.g T._law_counts.F.kp T._law_counts.b .nil pass0 (pa_cons (pv 0) (pa_cons (pv 4) pa_nil))) pa_nil)))))))))))), ?_⟩
    refine ⟨_, rfl, _, rfl, _, _, rfl, rfl, h, c, to - 1, rfl, hA, by omega, by omega, fun x H1 x0 x1 hA1 b1 => ⟨_, _, rfl, rfl, ?_⟩⟩
    refine ⟨_, rfl, _, rfl, h, c, mo, rfl, hA1, by omega, by omega, fun y H2 y0 y1 hA2 b2 => ⟨_, _, rfl, rfl, ?_⟩⟩
    refine ⟨_, rfl, h, c, 2, rfl, hA2, by decide, by decide, fun z H3 z0 z1 hA3 b3 => ?_⟩
    refine ⟨by show 0 ≤ sizeLine; decide, fun p hp => ?_⟩
    obtain ⟨n1, n2⟩ := hA3.ne hp
    have bH3 := (b1.trans b2).trans b3
    have p0 := bH3.free n1 hp
    refine ⟨_, rfl, 1 + y, rfl, by omega, by omega, for_range (lo := 0) (n := (1 + y).toNat) (fun i σ' H' => ∃ (rv bv : Option V) (vs : List V) (ds : List D),
      σ' = [some (.ref h), some (.int to), some (.int mo), some (.int (2 + x)), some (.int (1 + y)), some (.int z), some (.ref p), rv, bv] ∧ HandAt H' h c ∧ But h H H' ∧
      H' p = some (.lst vs) ∧ RpA (del H' p) h vs ds ∧ ds.length = i ∧ ds.all (isBE (2 + x)) = true)
      ⟨none, none, [], [], rfl, hA3.upd n1 n2, bH3.upd p0, upd_same, .nil, rfl, rfl⟩ ?_ ?_⟩
    · rintro i σ' H4 hi ⟨rv, bv, vs, ds, rfl, hA4, b4, hp4, ra, hl, hall⟩
      refine ⟨_, rfl, _, rfl, h, c, 2 + x, rfl, hA4, by omega, by omega, fun b H5 c0 c1 hA5 b5 => ?_⟩
      have ra5 : RpA (del H5 p) h vs ds := ra.mono (by obtain ⟨zs, e⟩ := hA4.lst; exact ⟨zs, by rw [del_ne n1.symm]; exact e⟩) b5.del
      refine ⟨fun σ'' H' => ∃ (b' : Int), σ'' = [some (.ref h), some (.int to), some (.int mo), some (.int (2 + x)), some (.int (1 + y)), some (.int z), some (.ref p), some (.int (0 + i)), some (.int b')] ∧
        0 ≤ b' ∧ b' < 2 + x ∧ HandAt H' h c ∧ But h H H' ∧ H' p = some (.lst vs) ∧ RpA (del H' p) h vs ds, ?_, ?_⟩
      · have stay : ∀ H', HandAt H' h c → But h H5 H' → ∃ (b' : Int), ([some (.ref h), some (.int to), some (.int mo), some (.int (2 + x)), some (.int (1 + y)), some (.int z), some (.ref p), some (.int (0 + i)), some (.int b)] : St) = [some (.ref h), some (.int to), some (.int mo), some (.int (2 + x)), some (.int (1 + y)), some (.int z), some (.ref p), some (.int (0 + i)), some (.int b')] ∧
            0 ≤ b' ∧ b' < 2 + x ∧ HandAt H' h c ∧ But h H H' ∧ H' p = some (.lst vs) ∧ RpA (del H' p) h vs ds := fun H' hA' b' =>
          ⟨b, rfl, c0, c1, hA', (b4.trans b5).trans b', b' _ _ (b5 _ _ hp4 n1) n1, ra5.mono (by obtain ⟨zs, e⟩ := hA5.lst; exact ⟨zs, by rw [del_ne n1.symm]; exact e⟩) b'.del⟩
        refine ⟨_, rfl, rfl, _, rfl, ?_⟩
        rw [int_eqd]
        by_cases h0 : z = 1
        · rw [decide_eq_true h0]
          refine iteT ⟨_, rfl, _, _, rfl, rfl, _, rfl, ?_⟩
          by_cases h1 : (0 : Int) < 0 + (i : Int)
          · rw [decide_eq_true h1]
            refine iteT ⟨_, rfl, h, c, 4, rfl, hA5, by decide, by decide, fun u H6 u0 u1 hA6 b6 => ⟨_, _, rfl, rfl, _, rfl, ite2 (fun _ => ?_) (fun _ => stay H6 hA6 b6)⟩⟩
            obtain ⟨c', h3, c2, c3, c4, c5, c6, c7⟩ := stay H6 hA6 b6
            rcases List.eq_nil_or_concat ds with e | ⟨ds', d, e⟩
            · subst e; simp at hl; omega
            · rw [List.concat_eq_append] at e
              subst e
              obtain ⟨vs', v, rfl, rl⟩ := RpA.snoc_inv c7
              rw [List.all_append, Bool.and_eq_true, List.all_cons, List.all_nil, Bool.and_true] at hall
              obtain ⟨aa, bb, rfl, q1, q2, q3, q4, q5⟩ := be_full hall.2
              obtain ⟨qa, xs, rfl, ea, za, rA⟩ := tup_inv rl
              cases rA with
              | cons r1 rA =>
                cases rA with
                | cons r2 rA =>
                  cases rA
                  cases r1
                  cases r2
                  refine ⟨_, rfl, _, rfl, p, _, _, _, rfl, rfl, SqL.of c6, atI_last _ _, qa, _, _, _, rfl, rfl, SqT.of (del_sub _ _ ea), atI_nat (j := 1) rfl, ?_⟩
                  exact ⟨bb, rfl, q3, q4, c4, c5, c6, c7⟩
          · rw [decide_eq_false h1]
            exact iteF (iteF (stay H5 hA5 (But.refl h H5)))
        · rw [decide_eq_false h0]
          exact iteF (iteF (stay H5 hA5 (But.refl h H5)))
      · rintro σ'' H6 ⟨b', rfl, c0', c1', hA6, b6, hp6, ra6⟩
        refine ⟨_, rfl, .inl ⟨rfl, _, SqL.of hp6⟩, _, rfl, _, rfl, _, _, rfl, rfl, _, rfl, _, rfl, _, _, rfl, rfl, h, c, 2 + x - 1, rfl, hA6, by omega, by omega, fun u H7 u0 u1 hA7 b7 => ?_⟩
        refine ⟨_, _, rfl, rfl, .inl ⟨_, rfl, _, rfl, _, _, rfl, rfl, by omega, by show 2 ≤ sizeLine; decide, fun q hq => ?_⟩⟩
        obtain ⟨n3, n4⟩ := hA7.ne hq
        have hp7 := b7 _ _ hp6 n1
        have nqp : q ≠ p := (ne_of_none hp7 hq).symm
        have b8 := b6.trans b7
        have ra7 : RpA (del H7 p) h vs ds := ra6.mono (by obtain ⟨zs, e⟩ := hA6.lst; exact ⟨zs, by rw [del_ne n1.symm]; exact e⟩) b7.del
        have hvl := ra7.len
        refine ⟨p, vs, _, rfl, rfl, by rw [upd_ne nqp.symm]; exact hp7, line_lt (by omega), ?_⟩
        obtain ⟨f0, f1⟩ := mod_range (b' + 1 + u) (m := 2 + x) (by omega)
        refine ⟨_, _, _, ds ++ [.tup [.int b', .int ((b' + 1 + u).fmod (2 + x))]], rfl, (hA7.upd n3 n4).upd n1 n2, (b8.upd (b8.free n3 hq)).upd p0, upd_same, ?_, by rw [List.length_append, hl]; rfl, ?_⟩
        · rw [del_upd]
          exact (ra7.same (del_new hq)).app (.cons (.tup (by rw [del_ne nqp]; exact upd_same) (by show 2 ≤ 100000; decide) (.cons (.int _) (.cons (.int _) .nil))) .nil)
        · rw [List.all_append, hall, Bool.true_and, List.all_cons, List.all_nil, Bool.and_true]
          exact be_of c0' c1' f0 f1 (ring_ne c0' c1' u0 (by omega))
    · rintro σ' H4 ⟨rv, bv, vs, ds, rfl, hA4, b4, hp4, ra, hl, hall⟩
      have hvl := ra.len
      have ra4 := ra.same (del_sub (p := p))
      refine ⟨_, rfl, _, rfl, p, vs, rfl, .inl ⟨SqL.of hp4, fun q hq => ?_⟩⟩
      obtain ⟨n3, n4⟩ := hA4.ne hq
      have hA5 : HandAt (upd H4 q (.tup vs)) h c := hA4.upd n3 n4
      have b5 : But h H (upd H4 q (.tup vs)) := b4.upd (b4.free n3 hq)
      have r5 : Rp (upd H4 q (.tup vs)) h (.ref q) (.tup ds) := .tup upd_same (by omega) (ra4.same (same_upd hq))
      refine ⟨_, rfl, _, rfl, h, c, 1 + y, rfl, hA5, by omega, by omega, fun rmv rm H6 hA6 b6 r6 e6 => ?_⟩
      refine ⟨_, rfl, _, rfl, h, c, 1 + y, rfl, hA6, by omega, by omega, fun tmv tm H7 hA7 b7 r7 e7 => ?_⟩
      refine ⟨by show 4 ≤ sizeLine; decide, fun t ht => ?_⟩
      obtain ⟨n5, n6⟩ := hA7.ne ht
      have b8 := (b5.trans b6).trans b7
      have el : 1 + y = (ds.length : Int) := by omega
      refine k _ (.tup [.int (2 + x), .tup ds, rm, tm]) _ (hA7.upd n5 n6) (b8.upd (b8.free n5 ht)) (.tup upd_same (by show 4 ≤ 100000; decide) (.cons (.int _) (.cons ((r5.mono hA5.lst (b6.trans b7)).same (same_upd ht)) (.cons ((r6.mono hA6.lst b7).same (same_upd ht)) (.cons (r7.same (same_upd ht)) .nil)))))
        ⟨2 + x, ds, rm, tm, rfl, by omega, by omega, by omega, by omega, hall, by rw [← el]; exact e6, by rw [← el]; exact e7⟩
end
end Hc

set_option Elab.async false
set_option linter.all false
set_option maxRecDepth 100000
set_option maxHeartbeats 4000000
set_option autoImplicit false
namespace Hc
open PySem L2
section
variable {P : Program} {w : World} {K : PySem.W.Frag} {mg : Str → Option Value} {base : Heap}
def spNumber : Sp := fun vs H Q _ => ∃ (h : Addr) (lo hi : Int) (v : V) (d : D), vs = [v, .int lo, .int hi] ∧ Rp H h v d ∧ Q (.bl (isBtw lo hi d)) H
theorem ok__law_is_number (T : Tx K mg) : FnOk P w K mg base CX0 1 T._law_is_number.f T._law_is_number.fd ["_law_thing", "_law_least", "_law_most"] spNumber := by
  refine T._law_is_number.F.ok sc_law_is_number (fun vs H Q E h => ?_) (fun cdv A outer s H vs Q E hr h => ?_)
  · obtain ⟨_, lo, hi, v, d, rfl, _⟩ := h
    rfl
  · obtain ⟨_, lo, hi, v, d, rfl, r, k⟩ := h
    refine ⟨_, (pss_one (ps_ret (pe_and (pe_callB call_isi (by rfl) T.n_isinstance (by decide +kernel) (pa_cons (pv 0) (pa_cons (pe_bltn (v := .ty "int") (by rfl) T.n_int (by decide +kernel) rfl) pa_nil))) (pe_and (pe_not (pe_callB call_isi (by rfl) T.n_isinstance (by decide +kernel) (pa_cons (pv 0) (pa_cons (pe_bltn (v := .ty "bool") (by rfl) T.n_bool (by decide +kernel) rfl) pa_nil)))) (pe_one (pe_chain op_le op_le (pv 1) (pv 0) (pv 2))))))), ?_⟩
    refine ⟨_, rfl, _, _, _, _, _, rfl, .ty "int", r.ty, kit_ty (kitI d), _, rfl, ?_⟩
    cases r with
    | int i =>
      refine iteT ?_
      refine ⟨_, rfl, _, _, _, _, _, rfl, .ty "bool", Rp.ty (h := 0) (H := H) (.int i), kit_ty (kitBo (.int i)), _, rfl, _, rfl, iteT ?_⟩
      refine ⟨_, rfl, _, rfl, _, _, rfl, rfl, _, rfl, ?_⟩
      by_cases h1 : lo ≤ i
      · rw [decide_eq_true h1]
        refine iteT ?_
        refine ⟨_, rfl, _, _, rfl, rfl, ?_⟩
        have : isBtw lo hi (.int i) = decide (i ≤ hi) := by show (decide (lo ≤ i) && decide (i ≤ hi)) = _; rw [decide_eq_true h1]; rfl
        rw [this] at k
        exact k
      · rw [decide_eq_false h1]
        refine iteF ?_
        have : isBtw lo hi (.int i) = false := by show (decide (lo ≤ i) && decide (i ≤ hi)) = _; rw [decide_eq_false h1]; rfl
        rw [this] at k
        exact k
    | bl b =>
      refine iteT ?_
      exact ⟨_, rfl, _, _, _, _, _, rfl, .ty "bool", Rp.ty (h := 0) (H := H) (.bl b), kit_ty (kitBo (.bl b)), _, rfl, _, rfl, iteF k⟩
    | _ => exact iteF k
def spCountsL : Sp := fun vs H Q _ => ∃ (h : Addr) (n : Int) (v : V) (d : D), vs = [v, .int n] ∧ Rp H h v d ∧ ∀ H', Same H H' → Q (.bl (areBtw n 1 3 d)) H'
theorem ok__law_are_counts (T : Tx K mg) : FnOk P w K mg base CX0 2 T._law_are_counts.f T._law_are_counts.fd ["_law_thing", "_law_many"] spCountsL := by
  refine T._law_are_counts.F.ok sc_law_are_counts (fun vs H Q E h => ?_) (fun cdv A outer s H vs Q E hr h => ?_)
  · obtain ⟨_, n, v, d, rfl, _⟩ := h
    rfl
  · obtain ⟨ha, n, v, d, rfl, r, k⟩ := h
    refine ⟨_, (pss_cons (ps_if (PW.pt (pw_or (pt_not (pt_val (pe_callB call_isi (by rfl) T.n_isinstance (by decide +kernel) (pa_cons (pv 0) (pa_cons (pe_bltn (v := .ty "tuple") (by rfl) T.n_tuple (by decide +kernel) rfl) pa_nil))))) (pw_or1 (pt_cmpR op_ne (pe_callB call_len_seq (by rfl) T.n_len (by decide +kernel) (pa_cons (pv 0) pa_nil)) (pv 1) (nomark _)))))
      (pss_one (ps_ret pe_bl))
      pss_nil)
      (pss_one (ps_ret (pe_cmpR op_eq (pe_callB call_len_seq (by rfl) T.n_len (by decide +kernel) (pa_cons (pe_lc (own := [("_law_count", 2)]) (g := (gName 2))  rfl sc_law_are_counts.nd (pi_tup (pv 0)) (blkOk_by (own := [("_law_count", 2)]) (N := ["_law_thing", "_law_many", "_law_count"]) (sc := defScope s_law_are_counts) (by decide +kernel)) (fun _ _ _ _ _ => (pg_name (i := 2) sc_law_are_counts.nd rfl (Or.inl rfl))) (fun _ _ _ _ _ => (pts_one (by exact (pt_not (pt_val (pe_call (ok__law_is_number T) (hr.mono (by decide)) rfl T._law_is_number.g T._law_is_number.F.kp T._law_is_number.b .nil pass0 (pa_cons (pv 2) (pa_cons pe_int (pa_cons pe_int pa_nil))))))))) (fun _ _ _ _ _ => (by exact (pv 2)))) pa_nil)) pe_int (nomark _))))), ?_⟩
    refine ⟨_, rfl, _, _, _, _, _, rfl, .ty "tuple", r.ty, kit_ty (kitT d), _, rfl, ?_⟩
    cases r with
    | @tup _ xs ds e z ra =>
      refine iteF ?_
      refine ⟨_, rfl, _, _, rfl, .inr (SqT.of e), _, rfl, rfl, _, rfl, ?_⟩
      rw [int_eqd, ra.len]
      by_cases hn : (ds.length : Int) = n
      · rw [decide_eq_true hn]
        refine iteF ?_
        refine ⟨_, rfl, _, rfl, ⟨_, SqT.of e⟩, fun A hA => none_tup e z ra (isBtw 1 3) hA (fun x => rfl) (fun x d H' Q' _ _ rp q => ?_) (fun x H' Q' sm q => ?_) (fun H' acc sm sl hl hi => ?_)⟩
        · exact ⟨_, rfl, ha, 1, 3, _, _, rfl, rp, _, rfl, q _ (Same.refl _)⟩
        · exact ⟨_, rfl, q _⟩
        · refine ⟨_, _, rfl, .inl sl, rfl, ?_⟩
          rw [int_eqd]
          have := k H' sm
          rw [areBtw_tup, decide_eq_true hn, Bool.true_and] at this
          by_cases h0 : acc.length = 0
          · rw [decide_eq_true (by omega)]
            rw [hi.mp h0] at this
            exact this
          · rw [decide_eq_false (by omega)]
            cases e2 : ds.all (isBtw 1 3) with
            | true => exact absurd (hi.mpr e2) h0
            | false =>
              rw [e2] at this
              exact this
      · rw [decide_eq_false hn]
        refine iteT ?_
        have := k H (Same.refl _)
        rw [areBtw_tup, decide_eq_false hn] at this
        exact this
    | _ => exact iteT (iteT (k H (Same.refl _)))
def spRoadsL : Sp := fun vs H Q _ => ∃ (h : Addr) (n : Int) (v : V) (d : D), vs = [v, .int n] ∧ Rp H h v d ∧ ∀ H', Same H H' → Q (.bl (areRoads n d)) H'
theorem ok__law_are_roads (T : Tx K mg) : FnOk P w K mg base CX0 2 T._law_are_roads.f T._law_are_roads.fd ["_law_thing", "_law_houses"] spRoadsL := by
  refine T._law_are_roads.F.ok sc_law_are_roads (fun vs H Q E h => ?_) (fun cdv A outer s H vs Q E hr h => ?_)
  · obtain ⟨_, n, v, d, rfl, _⟩ := h
    rfl
  · obtain ⟨ha, n, v, d, rfl, r, k⟩ := h
    refine ⟨_, (pss_cons (ps_if (PW.pt (pw_or (pt_not (pt_val (pe_callB call_isi (by rfl) T.n_isinstance (by decide +kernel) (pa_cons (pv 0) (pa_cons (pe_bltn (v := .ty "tuple") (by rfl) T.n_tuple (by decide +kernel) rfl) pa_nil))))) (pw_or1 (pt_not (pt_chain op_le op_le pe_int (pe_callB call_len_seq (by rfl) T.n_len (by decide +kernel) (pa_cons (pv 0) pa_nil)) pe_int)))))
      (pss_one (ps_ret pe_bl))
      pss_nil)
      (pss_cons (ps_for PassesOwn.never rfl (pi_tup (pv 0)) (pg_name (i := 2) sc_law_are_roads.nd rfl (Or.inl rfl))
      (pss_cons (ps_if (PW.pt (pw_or (pt_not (pt_val (pe_callB call_isi (by rfl) T.n_isinstance (by decide +kernel) (pa_cons (pv 2) (pa_cons (pe_bltn (v := .ty "tuple") (by rfl) T.n_tuple (by decide +kernel) rfl) pa_nil))))) (pw_or1 (pt_cmpR op_ne (pe_callB call_len_seq (by rfl) T.n_len (by decide +kernel) (pa_cons (pv 2) pa_nil)) pe_int (nomark _)))))
      (pss_one (ps_ret pe_bl))
      pss_nil)
      (pss_one (ps_if (PW.pt (pw_or (pt_cmpR op_gt (pe_callB call_len_seq (by rfl) T.n_len (by decide +kernel) (pa_cons (pe_lc (own := [("_law_house", 3)]) (g := (gName 3))  rfl sc_law_are_roads.nd (pi_tup (pv 2)) (blkOk_by (own := [("_law_house", 3)]) (N := ["_law_thing", "_law_houses", "_law_pair", "_law_house"]) (sc := defScope s_law_are_roads) (by decide +kernel)) (fun _ _ _ _ _ => (pg_name (i := 3) sc_law_are_roads.nd rfl (Or.inl rfl))) (fun _ _ _ _ _ => (pts_one (by exact (pt_not (pt_val (pe_call (ok__law_is_number T) (hr.mono (by decide)) rfl T._law_is_number.g T._law_is_number.F.kp T._law_is_number.b .nil pass0 (pa_cons (pv 3) (pa_cons pe_int (pa_cons (pe_op op_sub (pv 1) pe_int) pa_nil))))))))) (fun _ _ _ _ _ => (by exact (pv 3)))) pa_nil)) pe_int (nomark _)) (pw_or1 (pt_cmpR op_eq (pe_ix ix_tup (pv 2) pe_int (fun _ _ => rfl)) (pe_ix ix_tup (pv 2) pe_int (fun _ _ => rfl)) (nomark _)))))
      (pss_one (ps_ret pe_bl))
      pss_nil))))
      (pss_one (ps_ret pe_bl)))), ?_⟩
    refine ⟨_, rfl, _, _, _, _, _, rfl, .ty "tuple", r.ty, kit_ty (kitT d), _, rfl, ?_⟩
    cases r with
    | @tup pa xs ds e z ra =>
      refine iteF ?_
      refine ⟨_, rfl, _, _, rfl, .inr (SqT.of e), _, _, rfl, rfl, _, rfl, ?_⟩
      rw [ra.len]
      by_cases h1 : 1 ≤ ds.length
      · rw [decide_eq_true (show (1 : Int) ≤ (ds.length : Int) by omega)]
        refine iteT ?_
        refine ⟨_, _, rfl, rfl, _, rfl, ?_⟩
        by_cases h2 : ds.length ≤ 24
        · rw [decide_eq_true (show (ds.length : Int) ≤ 24 by omega)]
          refine iteF ?_
          refine ⟨_, rfl, _, rfl, ⟨_, SqT.of e⟩, for_tup (K := K) (xs := xs) (fun i σ' H' => ∃ p c : Option V, σ' = [some (.ref pa), some (.int n), p, c] ∧ Same H H' ∧ (ds.take i).all (isBE n) = true)
            ⟨none, none, rfl, Same.refl _, rfl⟩ (fun i σ' H' _ ⟨_, _, _, sm, _⟩ => SqT.of (sm _ _ e)) ?_ ?_⟩
          · rintro i x σ' H' hx ⟨p, c, rfl, sm, hall⟩
            obtain ⟨d, hd, rp⟩ := ra.get hx
            have rp' := rp.same sm
            have no : isBE n d = false → ∀ H2, Same H' H2 → Q (.bl false) H2 := fun hb H2 s2 => by
              have := k H2 (sm.trans s2)
              rw [areRoads_tup] at this
              have e2 : ds.all (isBE n) = false := by
                cases e3 : ds.all (isBE n) with
                | false => rfl
                | true =>
                  rw [List.all_eq_true] at e3
                  rw [e3 d (List.mem_of_getElem? hd)] at hb
                  cases hb
              rw [e2, Bool.and_false] at this
              exact this
            have yes : isBE n d = true → ∀ H2, Same H' H2 → ∃ p' c' : Option V, ([some (.ref pa), some (.int n), some x, c] : St) = [some (.ref pa), some (.int n), p', c'] ∧ Same H H2 ∧ (ds.take (i + 1)).all (isBE n) = true := fun hb H2 s2 =>
              ⟨_, _, rfl, sm.trans s2, by rw [take_more hd, List.all_append, hall, Bool.true_and, List.all_cons, List.all_nil, hb]; rfl⟩
            refine ⟨_, rfl, _, _, _, _, _, rfl, .ty "tuple", rp'.ty, kit_ty (kitT d), _, rfl, ?_⟩
            cases d with
            | tup es =>
              obtain ⟨qa, ys, rfl, e2, z2, ra2⟩ := tup_inv rp'
              refine iteF ?_
              refine ⟨_, rfl, _, _, rfl, .inr (SqT.of e2), rfl, _, rfl, ?_⟩
              rw [int_eqd, ra2.len]
              by_cases h3 : (es.length : Int) = 2
              · rw [decide_eq_true h3]
                refine iteF ?_
                refine ⟨_, rfl, _, rfl, ⟨_, SqT.of e2⟩, fun A hA => none_tup e2 z2 ra2 (isBtw 0 (n - 1)) hA (fun x => rfl) (fun x d H' Q' _ _ rp q => ?_) (fun x H' Q' sm q => ?_) (fun H2 acc sm2 sl hl hi => ?_)⟩
                · exact ⟨_, rfl, _, rfl, _, _, rfl, rfl, ha, 0, n - 1, _, _, rfl, rp, _, rfl, q _ (Same.refl _)⟩
                · exact ⟨_, rfl, q _⟩
                · refine ⟨_, _, rfl, .inl sl, _, _, rfl, rfl, _, rfl, ?_⟩
                  have bt : areBtw 2 0 (n - 1) (.tup es) = es.all (isBtw 0 (n - 1)) := by rw [areBtw_tup, decide_eq_true h3, Bool.true_and]
                  by_cases h0 : acc.length = 0
                  · rw [decide_eq_false (show ¬ (0 : Int) < (acc.length : Int) by omega)]
                    refine iteF ?_
                    obtain ⟨a, b, e5, e6⟩ := be_true (bt.trans (hi.mp h0))
                    rw [Hc.D.tup.injEq] at e5
                    subst e5
                    have e3 := sm2 _ _ e2
                    cases ra2 with
                    | cons r1 ra2 =>
                      cases ra2 with
                      | cons r2 ra2 =>
                        cases ra2
                        cases r1
                        cases r2
                        refine ⟨_, rfl, _, _, _, _, rfl, rfl, SqT.of e3, atI_nat (j := 0) rfl, _, rfl, _, _, _, _, rfl, rfl, SqT.of e3, atI_nat (j := 1) rfl, rfl, _, rfl, ?_⟩
                        rw [int_eqd]
                        by_cases h4 : a = b
                        · rw [decide_eq_true h4]
                          exact iteT (no (by rw [e6, decide_eq_true h4]; rfl) _ sm2)
                        · rw [decide_eq_false h4]
                          exact iteF (yes (by rw [e6, decide_eq_false h4]; rfl) _ sm2)
                  · rw [decide_eq_true (show (0 : Int) < (acc.length : Int) by omega)]
                    refine iteT (iteT (no (be_false ?_) _ sm2))
                    rw [bt]
                    cases e7 : es.all (isBtw 0 (n - 1)) with
                    | true => exact absurd (hi.mpr e7) h0
                    | false => rfl
              · rw [decide_eq_false h3]
                refine iteT (no (be_false ?_) _ (Same.refl _))
                rw [areBtw_tup, decide_eq_false h3]; rfl
            | _ => exact iteT (iteT (no rfl _ (Same.refl _)))
          · rintro σ' H' ⟨p, c, rfl, sm, hall⟩
            rw [ra.len, List.take_length] at hall
            have := k H' sm
            rw [areRoads_tup, decide_eq_true h1, decide_eq_true h2, hall] at this
            exact this
        · rw [decide_eq_false (show ¬ (ds.length : Int) ≤ 24 by omega)]
          refine iteT ?_
          have := k H (Same.refl _)
          rw [areRoads_tup, decide_eq_true h1, decide_eq_false h2] at this
          exact this
      · rw [decide_eq_false (show ¬ (1 : Int) ≤ (ds.length : Int) by omega)]
        refine iteF (⟨_, rfl, iteT ?_⟩)
        have := k H (Same.refl _)
        rw [areRoads_tup, decide_eq_false h1] at this
        exact this
    | _ => exact iteT (iteT (k H (Same.refl _)))
def spDueL : Sp := fun vs H Q _ => ∃ (h : Addr) (v1 v2 v3 v4 : V) (d1 d2 d3 d4 : D), vs = [v1, v2, v3, v4] ∧ Rp H h v1 d1 ∧ Rp H h v2 d2 ∧ Rp H h v3 d3 ∧ Rp H h v4 d4 ∧
  ∀ H', Same H H' → Q (.str ((due d1 d2 d3 d4).getD "let")) H'
theorem ok__law_due (T : Tx K mg) : FnOk P w K mg base CX0 3 T._law_due.f T._law_due.fd ["_law_houses", "_law_roads", "_law_rooms", "_law_times"] spDueL := by
  refine T._law_due.F.ok sc_law_due (fun vs H Q E h => ?_) (fun cdv A outer s H vs Q E hr h => ?_)
  · obtain ⟨_, v1, v2, v3, v4, d1, d2, d3, d4, rfl, _⟩ := h
    rfl
  · obtain ⟨ha, v1, v2, v3, v4, d1, d2, d3, d4, rfl, r1, r2, r3, r4, k⟩ := h
    refine ⟨_, (pss_cons (ps_if (pt_not (pt_val (pe_call (ok__law_is_number T) (hr.mono (by decide)) rfl T._law_is_number.g T._law_is_number.F.kp T._law_is_number.b .nil pass0 (pa_cons (pv 0) (pa_cons pe_int (pa_cons pe_int pa_nil))))))
      (pss_one (ps_ret pe_str))
      pss_nil)
      (pss_cons (ps_if (pt_not (pt_val (pe_call (ok__law_are_roads T) (hr.mono (by decide)) rfl T._law_are_roads.g T._law_are_roads.F.kp T._law_are_roads.b .nil pass0 (pa_cons (pv 1) (pa_cons (pv 0) pa_nil)))))
      (pss_one (ps_ret pe_str))
      pss_nil)
      (pss_cons (ps_if (pt_not (pt_val (pe_call (ok__law_are_counts T) (hr.mono (by decide)) rfl T._law_are_counts.g T._law_are_counts.F.kp T._law_are_counts.b .nil pass0 (pa_cons (pv 2) (pa_cons (pe_callB call_len_seq (by rfl) T.n_len (by decide +kernel) (pa_cons (pv 1) pa_nil)) pa_nil)))))
      (pss_one (ps_ret pe_str))
      pss_nil)
      (pss_cons (ps_if (pt_not (pt_val (pe_call (ok__law_are_counts T) (hr.mono (by decide)) rfl T._law_are_counts.g T._law_are_counts.F.kp T._law_are_counts.b .nil pass0 (pa_cons (pv 3) (pa_cons (pe_callB call_len_seq (by rfl) T.n_len (by decide +kernel) (pa_cons (pv 1) pa_nil)) pa_nil)))))
      (pss_one (ps_ret pe_str))
      pss_nil)
      (pss_one (ps_ret pe_str)))))), ?_⟩
    refine ⟨_, rfl, ha, 2, 12, _, _, rfl, r1, _, rfl, ?_⟩
    have fin : ∀ H' x, Same H H' → due d1 d2 d3 d4 = x → Q (.str (x.getD "let")) H' := fun H' x s e => by
      subst e
      exact k H' s
    cases e1 : isBtw 2 12 d1 with
    | false => exact iteT (fin H (some "houses") (Same.refl _) (if_pos e1))
    | true =>
    refine iteF ?_
    have x1 : ¬ isBtw 2 12 d1 = false := by rw [e1]; decide
    obtain ⟨n, rfl⟩ := btw_shape e1
    cases r1
    refine ⟨_, rfl, _, rfl, ha, _, _, _, rfl, r2, fun H1 s1 => ⟨_, rfl, ?_⟩⟩
    cases e2 : areRoads n d2 with
    | false => exact iteT (fin H1 (some "roads") s1 ((if_neg x1).trans (if_pos e2)))
    | true =>
    refine iteF ?_
    have x2 : ¬ areRoads (num (.int n)) d2 = false := by show ¬ areRoads n d2 = false; rw [e2]; decide
    obtain ⟨ds, rfl⟩ := roads_shape e2
    obtain ⟨pa, xs, rfl, ea, za, ra⟩ := tup_inv r2
    refine ⟨_, rfl, _, rfl, _, _, rfl, .inr (SqT.of (s1 _ _ ea)), ha, _, _, _, rfl, r3.same s1, fun H2 s2 => ⟨_, rfl, ?_⟩⟩
    rw [ra.len]
    cases e3 : areBtw (ds.length : Int) 1 3 d3 with
    | false => exact iteT (fin H2 (some "rooms") (s1.trans s2) ((if_neg x1).trans ((if_neg x2).trans (if_pos e3))))
    | true =>
    refine iteF ?_
    have x3 : ¬ areBtw (dlen (.tup ds)) 1 3 d3 = false := by show ¬ areBtw (ds.length : Int) 1 3 d3 = false; rw [e3]; decide
    refine ⟨_, rfl, _, rfl, _, _, rfl, .inr (SqT.of (s2 _ _ (s1 _ _ ea))), ha, _, _, _, rfl, (r4.same s1).same s2, fun H3 s3 => ⟨_, rfl, ?_⟩⟩
    rw [ra.len]
    cases e4 : areBtw (ds.length : Int) 1 3 d4 with
    | false => exact iteT (fin H3 (some "times") ((s1.trans s2).trans s3) ((if_neg x1).trans ((if_neg x2).trans ((if_neg x3).trans (if_pos e4)))))
    | true =>
    have x4 : ¬ areBtw (dlen (.tup ds)) 1 3 d4 = false := by show ¬ areBtw (ds.length : Int) 1 3 d4 = false; rw [e4]; decide
    exact iteF (fin H3 none ((s1.trans s2).trans s3) ((if_neg x1).trans ((if_neg x2).trans ((if_neg x3).trans (if_neg x4)))))
def spHand (K : PySem.W.Frag) : Sp := fun vs H Q _ => ∃ (a : Addr) (ns : List Int), vs = [.ref a] ∧ SqL K H a (ns.map V.int) ∧ ns.length ≤ 63 ∧
  ∀ h c H', Same H H' → HandAt H' h c → Q (.ref h) H'
theorem cutV_ints (ns : List Int) (lo hi : Option Int) : ∃ ms : List Int, cutV (ns.map V.int) lo hi = ms.map V.int ∧ ms.length ≤ ns.length := by
  refine ⟨(ns.drop (HT.sIx ns.length 0 lo)).take (HT.sIx ns.length ns.length hi - HT.sIx ns.length 0 lo), ?_, ?_⟩
  · unfold cutV
    rw [List.length_map, List.map_take, List.map_drop]
  · rw [List.length_take, List.length_drop]; omega
theorem ok__law_hand (T : Tx K mg) : FnOk P w K mg base CX0 1 T._law_hand.f T._law_hand.fd ["_law_script"] (spHand K) := by
  refine T._law_hand.F.ok sc_law_hand (fun vs H Q E h => ?_) (fun cdv A outer s H vs Q E hr h => ?_)
  · obtain ⟨a, ns, rfl, _⟩ := h
    rfl
  · obtain ⟨a, ns, rfl, hS, hl, k⟩ := h
    refine ⟨_, (pss_cons (ps_setLc (i := 1) (own := [("_law_cell", 2)]) (g := (gName 2)) (tt := tYes) rfl sc_law_hand.nd rfl rfl (sw_true rfl rfl rfl (by decide +kernel)) (pi_list (pe_slice sl_list (pv 0) po_none (po_some pe_int))) (blkOk_by (own := [("_law_cell", 2)]) (N := ["_law_script", "_law_cells", "_law_cell"]) (sc := defScope s_law_hand) (by decide +kernel)) (fun _ _ _ _ _ => (pg_name (i := 2) sc_law_hand.nd rfl (Or.inl rfl))) (fun _ _ _ _ _ => pts_nil) (fun _ _ _ _ _ => (by exact (pe_callB call_abs (by rfl) T.n_abs (by decide +kernel) (pa_cons (pe_callTy call_int1 (by rfl) T.n_int (by decide +kernel) (pa_cons (pv 2) pa_nil)) pa_nil)))))
      (pss_one (ps_ret (pe_lst (pa_cons (pv 1) (pa_cons pe_int (pa_cons pe_int (pa_cons (pe_op op_add pe_int (pe_callB call_len_seq (by rfl) T.n_len (by decide +kernel) (pa_cons (pv 1) pa_nil))) (pa_cons pe_int pa_nil))))))))), ?_⟩
    obtain ⟨ms, em, lm⟩ := cutV_ints ns none (some 63)
    refine ⟨_, rfl, _, rfl, a, _, rfl, hS, fun p hp => ?_⟩
    rw [em]
    refine ⟨p, rfl, ⟨_, SqL.of upd_same⟩, fun D hD => ?_⟩
    have s1 : Same H (upd H p (.lst (ms.map V.int))) := same_upd hp
    have npD : p ≠ D := ne_of_none upd_same hD
    refine lc_list (K := K) (a := p) (xs := ms.map V.int) (fun i H' => ∃ ys : List Int, H' D = some (.lst (ys.map V.int)) ∧ ys.length = i ∧ H' p = some (.lst (ms.map V.int)) ∧ ∀ b o, H b = some o → H' b = some o)
      ⟨[], upd_same, rfl, by rw [upd_ne npD]; exact upd_same, fun b o q => by rw [upd_ne (ne_of_none (s1 _ _ q) hD)]; exact s1 _ _ q⟩ (fun i H' _ ⟨_, _, _, q, _⟩ => SqL.of q) ?_ ?_
    · rintro i x H' hx ⟨ys, hd, hy, hp', sm⟩
      have hi : i < (ms.map V.int).length := (List.getElem?_eq_some_iff.mp hx).1
      rw [List.length_map] at hi
      obtain ⟨z, rfl⟩ : ∃ z, x = V.int z := by
        rw [List.getElem?_map] at hx
        cases e : ms[i]? with
        | none => rw [e] at hx; cases hx
        | some z => rw [e] at hx; exact ⟨z, (Option.some.inj hx).symm⟩
      refine ⟨rfl, tyes ⟨_, rfl, .inl ⟨_, rfl, _, rfl, _, hd, ?_, ys ++ [if z < 0 then -z else z], ?_, ?_, ?_, ?_⟩⟩⟩
      · rw [List.length_map]; exact line_lt (by omega)
      · rw [upd_same, List.map_append]; rfl
      · rw [List.length_append, hy]; rfl
      · rw [upd_ne npD]; exact hp'
      · intro b o q
        have := s1 _ _ q
        rw [upd_ne (ne_of_none this hD)]
        exact sm _ _ q
    · rintro H' ⟨ys, hd, hy, hp', sm⟩
      refine ⟨_, rfl, _, rfl, _, _, rfl, .inl (SqL.of hd), _, _, rfl, rfl, by show 5 ≤ sizeLine; decide, fun hh nh => ?_⟩
      have nD : D ≠ hh := ne_of_none hd nh
      exact k hh D _ (fun b o q => by rw [upd_ne (ne_of_none (sm _ _ q) nh)]; exact sm _ _ q) ⟨ys, 0, 0, _, 0, upd_same, by rw [upd_ne nD]; exact hd, by decide, nD⟩
end
end Hc

set_option Elab.async false
set_option linter.all false
set_option maxRecDepth 100000
set_option maxHeartbeats 4000000
set_option autoImplicit false
namespace Hc
open PySem L2
theorem new_facts {H H2 : Hp} {h c p : Addr} {o : HO} (hA : HandAt H h c) (hp : H p = none) (e : upd H p o = H2) : Same H H2 ∧ H2 p = some o ∧ p ≠ h ∧ p ≠ c ∧ HandAt H2 h c := by
  subst e
  obtain ⟨n1, n2⟩ := hA.ne hp
  exact ⟨same_upd hp, upd_same, n1, n2, hA.upd n1 n2⟩
theorem RpA.of {H : Hp} {h : Addr} {xs : List V} {ds : List D} (r : RpA H h xs ds) {n : Int} (n0 : 0 ≤ n) (n1 : n < (xs.length : Int)) : ∃ v d, atI xs n = some v ∧ d ∈ ds ∧ Rp H h v d := by
  obtain ⟨j, rfl⟩ := Int.eq_ofNat_of_zero_le n0
  have hj : j < xs.length := by omega
  obtain ⟨d, h1, h2⟩ := r.get (List.getElem?_eq_getElem hj)
  exact ⟨_, d, atI_nat (List.getElem?_eq_getElem hj), List.mem_of_getElem? h1, h2⟩
theorem RpA.cut {H : Hp} {h : Addr} {xs : List V} {ds : List D} (r : RpA H h xs ds) (lo hi : Option Int) : ∃ es : List D, RpA H h (cutV xs lo hi) es ∧ es.length ≤ ds.length :=
  ⟨_, RpA.take _ (RpA.drop _ r), by rw [List.length_take, List.length_drop]; omega⟩
theorem slA_rp {K : PySem.W.Frag} {H : Hp} {h c : Addr} {x : V} {lo hi : Option Int} {Q : VK} {ds : List D} (hA : HandAt H h c) (r : Rp H h x (.tup ds))
    (k : ∀ v ds' H', Same H H' → HandAt H' h c → Rp H' h v (.tup ds') → ds'.length ≤ ds.length → Q v H') : rSlA K x lo hi H Q := by
  obtain ⟨a, xs, rfl, e, z, ra⟩ := tup_inv r
  refine ⟨a, xs, rfl, SqT.of e, fun _ => k _ ds _ (Same.refl _) hA r (Nat.le_refl _), fun _ p hp => ?_⟩
  obtain ⟨s2, e2, n2, n3, hA2⟩ := new_facts (o := .tup (cutV xs lo hi)) hA hp rfl
  obtain ⟨es, re, ze⟩ := ra.cut lo hi
  exact k _ es _ s2 hA2 (.tup e2 (Nat.le_trans (cutV_length _ _ _) z) (re.same s2)) ze
theorem catA_rp {K : PySem.W.Frag} {H : Hp} {h c : Addr} {x y : V} {Q : VK} {ds es : List D} (hA : HandAt H h c) (r1 : Rp H h x (.tup ds)) (r2 : Rp H h y (.tup es)) (z : ds.length + es.length ≤ 50000)
    (k : ∀ v H', Same H H' → HandAt H' h c → Rp H' h v (.tup (ds ++ es)) → Q v H') : rCatA K x y H Q := by
  obtain ⟨a, xs, rfl, e1, z1, ra⟩ := tup_inv r1
  obtain ⟨b, ys, rfl, e2, z2, rb⟩ := tup_inv r2
  have l1 := ra.len
  have l2 := rb.len
  refine ⟨a, b, xs, ys, rfl, rfl, SqT.of e1, SqT.of e2, line_le (by omega), fun ex => ?_, fun _ ey => ?_, fun _ _ p hp => ?_⟩
  · subst ex
    cases ra
    exact k _ _ (Same.refl _) hA r2
  · subst ey
    cases rb
    refine k _ _ (Same.refl _) hA ?_
    rw [List.append_nil]
    exact r1
  · obtain ⟨s3, e3, n2, n3, hA3⟩ := new_facts (o := .tup (xs ++ ys)) hA hp rfl
    exact k _ _ s3 hA3 (.tup e3 (by rw [List.length_append]; omega) ((ra.app rb).same s3))
theorem repA_rp {K : PySem.W.Frag} {H : Hp} {h c : Addr} {x : V} {n : Int} {Q : VK} {ds : List D} (hA : HandAt H h c) (r : Rp H h x (.tup ds)) (n0 : 1 ≤ n) (n1 : n ≤ 100) (d0 : ds ≠ []) (d1 : ds.length ≤ 1000)
    (k : ∀ v es H', Same H H' → HandAt H' h c → Rp H' h v (.tup es) → Q v H') : rRepA K x (.int n) H Q := by
  obtain ⟨a, xs, rfl, e1, z1, ra⟩ := tup_inv r
  have l1 := ra.len
  have rep : ∀ m : Nat, ∃ es, RpA H h (List.replicate m xs).flatten es := fun m => by
    induction m with
    | zero => exact ⟨_, .nil⟩
    | succ m ih =>
      obtain ⟨es, ih⟩ := ih
      rw [List.replicate_succ, List.flatten_cons]
      exact ⟨_, ra.app ih⟩
  refine ⟨a, n, xs, rfl, rfl, SqT.of e1, fun z => d0 (List.eq_nil_of_length_eq_zero (by rw [← l1, z]; rfl)), n0, by omega, by omega, fun _ => k _ _ _ (Same.refl _) hA r, fun _ p hp => ?_⟩
  obtain ⟨s3, e3, n2, n3, hA3⟩ := new_facts (o := .tup (List.replicate n.toNat xs).flatten) hA hp rfl
  obtain ⟨es, re⟩ := rep n.toNat
  refine k _ es _ s3 hA3 (.tup e3 ?_ (re.same s3))
  rw [PyProof.Rows.lm_len_rep_flat]
  have a1 : n.toNat * xs.length ≤ 100 * 1000 := Nat.mul_le_mul (by omega) (by omega)
  omega
structure BW (h : Addr) (H H' : Hp) : Prop where
  b : But h H H'
/-- some thing -/
def RpX (H : Hp) (h : Addr) (v : V) : Prop := ∃ d, Rp H h v d
def RpXA (H : Hp) (h : Addr) (vs : List V) : Prop := ∃ ds, RpA H h vs ds
section
variable {H H' : Hp} {h : Addr}
theorem RpX.non : RpX H h .non := ⟨_, .non⟩
theorem RpX.bl (b : Bool) : RpX H h (.bl b) := ⟨_, .bl b⟩
theorem RpX.int (i : Int) : RpX H h (.int i) := ⟨_, .int i⟩
theorem RpX.str (s : Str) : RpX H h (.str s) := ⟨_, .str s⟩
theorem RpX.tup {a : Addr} {xs : List V} (e : H a = some (.tup xs)) (z : xs.length ≤ 100000) (r : RpXA H h xs) : RpX H h (.ref a) := by
  obtain ⟨ds, r⟩ := r
  exact ⟨_, .tup e z r⟩
theorem RpX.lst {a : Addr} {xs : List V} (e : H a = some (.lst xs)) (n : a ≠ h) : RpX H h (.ref a) := ⟨_, .lst e n⟩
theorem RpX.dct {a : Addr} {kvs : List (Key × V)} (e : H a = some (.dK kvs)) : RpX H h (.ref a) := ⟨_, .dct e⟩
theorem RpX.of {v : V} {d : D} (r : Rp H h v d) : RpX H h v := ⟨_, r⟩
theorem RpX.same {v : V} (s : Same H H') (r : RpX H h v) : RpX H' h v := by
  obtain ⟨d, r⟩ := r
  exact ⟨d, r.same s⟩
theorem RpX.mono {v : V} (l : IsLst H h) (s : But h H H') (r : RpX H h v) : RpX H' h v := by
  obtain ⟨d, r⟩ := r
  exact ⟨d, r.mono l s⟩
theorem RpX.monoB {c : Addr} {v : V} (s : But h H H') (l : HandAt H h c) (r : RpX H h v) : RpX H' h v := r.mono l.lst s
theorem Rp.monoB {c : Addr} {v : V} {d : D} (s : But h H H') (l : HandAt H h c) (r : Rp H h v d) : Rp H' h v d := r.mono l.lst s
theorem RpXA.nil : RpXA H h [] := ⟨_, .nil⟩
theorem RpXA.cons {v : V} {vs : List V} (r : RpX H h v) (q : RpXA H h vs) : RpXA H h (v :: vs) := by
  obtain ⟨d, r⟩ := r
  obtain ⟨ds, q⟩ := q
  exact ⟨_, .cons r q⟩
theorem RpXA.get {xs : List V} (r : RpXA H h xs) {n : Int} (n0 : 0 ≤ n) (n1 : n < (xs.length : Int)) : ∃ v, atI xs n = some v ∧ RpX H h v := by
  obtain ⟨ds, r⟩ := r
  obtain ⟨v, d, h1, _, h2⟩ := r.of n0 n1
  exact ⟨v, h1, d, h2⟩
end
end Hc
local macro_rules | `(tactic| walk_at "gen") => `(tactic| (generalize hE : L2.upd _ _ _ = H2; have q := Hc.new_facts (by assumption) (by assumption) hE; clear hE; obtain ⟨s2, e2, n2, n3, hA2⟩ := q))
local macro_rules | `(tactic| walk_at "rp") => `(tactic| first
  | assumption
  | exact Hc.RpX.non | exact Hc.RpX.bl _ | exact Hc.RpX.int _ | exact Hc.RpX.str _
  | exact Hc.RpX.of (by assumption)
  | exact Hc.RpXA.nil
  | (refine Hc.RpXA.cons ?_ ?_ <;> walk_at "rp")
  | (refine Hc.RpX.tup (by assumption) (by simp) ?_; walk_at "rp")
  | exact Hc.RpX.lst (by assumption) (by assumption)
  | exact Hc.RpX.dct (by assumption)
  | (refine Hc.RpX.same (by assumption) ?_; walk_at "rp")
  | (refine Hc.RpX.monoB (by assumption) (by assumption) ?_; walk_at "rp"))
local macro_rules | `(tactic| walk_at "rr") => `(tactic| first
  | assumption
  | (refine Hc.Rp.same (by assumption) ?_; walk_at "rr")
  | (refine Hc.Rp.monoB (by assumption) (by assumption) ?_; walk_at "rr"))
local macro_rules | `(tactic| walk_at "bt") => `(tactic| first
  | assumption
  | exact Hc.But.refl _ _
  | (refine Hc.But.trans ?_ (Hc.But.of (by assumption)); walk_at "bt")
  | (refine Hc.But.trans ?_ (by assumption); walk_at "bt"))
local macro_rules | `(tactic| walk_at "at") => `(tactic| first
  | assumption
  | (refine (by assumption : L2.Same _ _) _ _ ?_; walk_at "at")
  | (refine (by assumption : Hc.But _ _ _) _ _ ?_ (by assumption); walk_at "at"))
namespace Hc
open PySem L2
section
variable {P : Program} {w : World} {K : PySem.W.Frag} {mg : Str → Option Value} {base : Heap}
def spOdd : Sp := fun vs H Q _ => ∃ (h c : Addr), vs = [.ref h] ∧ HandAt H h c ∧ ∀ v d H', HandAt H' h c → But h H H' → Rp H' h v d → Q v H'
theorem ok__law_odd (T : Tx K mg) : FnOk P w K mg base CX0 2 T._law_odd.f T._law_odd.fd ["_law_hand_here"] spOdd := by
  refine T._law_odd.F.ok sc_law_odd (fun vs H Q E h => ?_) (fun cdv A outer s H vs Q E hr h => ?_)
  · obtain ⟨h, c, rfl, _⟩ := h
    rfl
  · obtain ⟨h, c, rfl, hA, k⟩ := h
    refine ⟨_, (pss_cons (ps_set (i := 1) sc_law_odd.nd rfl (Or.inl rfl) (pe_lst (pa_cons pe_non pa_nil)))
      (pss_cons (ps_for PassesOwn.never rfl (pi_range1 (by rfl) T.n_range (pa_cons pe_int pa_nil)) (pg_name (i := 2) sc_law_odd.nd rfl (Or.inl rfl))
      (pss_one (ps_set (i := 1) sc_law_odd.nd rfl (Or.inl rfl) (pe_lst (pa_cons (pv 1) pa_nil)))))
      (pss_cons (ps_set (i := 3) sc_law_odd.nd rfl (Or.inl rfl) (pe_lst (pa_cons pe_non (pa_cons pe_bl (pa_cons pe_bl (pa_cons pe_str (pa_cons pe_str (pa_cons (pe_lst (pa_cons pe_str pa_nil)) (pa_cons (pe_disp (pps_cons pe_str pe_str pps_nil) (by rfl) (by rfl) (fun z => by cases z) (by decide)) (pa_cons (pe_lst pa_nil) (pa_cons pe_dnewK (pa_cons (pe_tup (pa_cons (pe_tup pa_nil) pa_nil)) (pa_cons (pe_tup (pa_cons pe_str pa_nil)) (pa_cons (pv 1) (pa_cons (pe_tup (pa_cons pe_non pa_nil)) (pa_cons (pe_un un_neg pe_int) (pa_cons (pe_lst (pa_cons pe_int pa_nil)) (pa_cons (pe_tup (pa_cons pe_bl pa_nil)) pa_nil))))))))))))))))))
      (pss_one (ps_ret (pe_ix ix_list (pv 3) (pe_call (ok__law_draw T) (hr.mono (by decide)) rfl T._law_draw.g T._law_draw.F.kp T._law_draw.b .nil pass0 (pa_cons (pv 0) (pa_cons (pe_callB call_len_seq (by rfl) T.n_len (by decide +kernel) (pa_cons (pv 3) pa_nil)) pa_nil))) (fun _ _ => rfl))))))), ?_⟩
    refine ⟨by show 1 ≤ sizeLine; decide, fun p hp => ?_⟩
    walk_at "gen"
    rename_i H1 s1 e1 n1 _ hA1
    refine ⟨18, rfl, by decide, by decide, for_range (lo := 0) (n := 18) (fun i σ' H' => ∃ (q : Addr) (xs : List V) (tv : Option V), σ' = [some (.ref h), some (.ref q), tv, none] ∧ HandAt H' h c ∧ Same H H' ∧ H' q = some (.lst xs) ∧ q ≠ h)
      ⟨p, _, none, rfl, hA1, s1, e1, n1⟩ ?_ ?_⟩
    · rintro i σ' H2 hi ⟨q, xs, tv, rfl, hA2, s2, e2, n2⟩
      refine ⟨_, rfl, by show 1 ≤ sizeLine; decide, fun p2 hp2 => ?_⟩
      walk_at "gen"
      exact ⟨p2, _, _, rfl, by assumption, s2.trans (by assumption), by assumption, by assumption⟩
    · rintro σ' H2 ⟨q, xs, tv, rfl, hA2, s2, e2, n2⟩
      clear hA1 s1 e1 n1
      refine ⟨by show 1 ≤ sizeLine; decide, fun p1 hp1 => ?_⟩
      walk_at "gen"
      refine fun p2 hp2 => ⟨upd_same, [(Sum.inr "a", .str "b")], rfl, by decide, ?_⟩
      rw [upd_upd]
      walk_at "gen"
      refine ⟨by show 0 ≤ sizeLine; decide, fun p3 hp3 => ?_⟩
      walk_at "gen"
      refine fun p4 hp4 => ?_
      walk_at "gen"
      refine ⟨by show 0 ≤ sizeLine; decide, fun p5 hp5 => ?_⟩
      walk_at "gen"
      refine ⟨by show 1 ≤ sizeLine; decide, fun p6 hp6 => ?_⟩
      walk_at "gen"
      refine ⟨by show 1 ≤ sizeLine; decide, fun p7 hp7 => ?_⟩
      walk_at "gen"
      refine ⟨_, rfl, by show 1 ≤ sizeLine; decide, fun p8 hp8 => ?_⟩
      walk_at "gen"
      refine ⟨_, rfl, by show 1 ≤ sizeLine; decide, fun p9 hp9 => ?_⟩
      walk_at "gen"
      refine ⟨by show 1 ≤ sizeLine; decide, fun p10 hp10 => ?_⟩
      walk_at "gen"
      refine ⟨by show 16 ≤ sizeLine; decide, fun p11 hp11 => ?_⟩
      walk_at "gen"
      rename_i H3 s3 e3 n3 _ hA3
      have ra : RpXA H3 h [.non, .bl true, .bl false, .str "1", .str "A b", .ref p1, .ref p2, .ref p3, .ref p4, .ref p6, .ref p7, .ref q, .ref p8, .int (-1), .ref p9, .ref p10] := by walk_at "rp"
      have b3 : But h H H3 := by walk_at "bt"
      refine ⟨_, rfl, _, rfl, _, rfl, p11, _, rfl, .inl (SqL.of e3), h, c, 16, rfl, hA3, by decide, by decide, fun n H4 m0 m1 hA4 b4 => ?_⟩
      obtain ⟨v, g1, d, g2⟩ := ra.get m0 m1
      exact ⟨p11, _, n, v, rfl, rfl, SqL.of (b4 _ _ e3 n3), g1, k v d H4 hA4 (b3.trans b4) (g2.mono hA3.lst b4)⟩
def spSpoilC : Sp := fun vs H Q _ => ∃ (h c : Addr) (v : V) (ds : List D), vs = [.ref h, v] ∧ HandAt H h c ∧ Rp H h v (.tup ds) ∧ 1 ≤ ds.length ∧ ds.length ≤ 1000 ∧ ∀ v d H', HandAt H' h c → But h H H' → Rp H' h v d → Q v H'
theorem ok__law_spoiled_counts (T : Tx K mg) : FnOk P w K mg base CX0 2 T._law_spoiled_counts.f T._law_spoiled_counts.fd ["_law_hand_here", "_law_counts_here"] spSpoilC := by
  refine T._law_spoiled_counts.F.ok sc_law_spoiled_counts (fun vs H Q E h => ?_) (fun cdv A outer s H vs Q E hr h => ?_)
  · obtain ⟨h, c, v, ds, rfl, _⟩ := h
    rfl
  · obtain ⟨h, c, v, ds, rfl, hA, r, z0, z1, k⟩ := h
    refine ⟨_, (pss_cons (ps_set (i := 2) sc_law_spoiled_counts.nd rfl (Or.inl rfl) (pe_call (ok__law_draw T) (hr.mono (by decide)) rfl T._law_draw.g T._law_draw.F.kp T._law_draw.b .nil pass0 (pa_cons (pv 0) (pa_cons (pe_callB call_len_seq (by rfl) T.n_len (by decide +kernel) (pa_cons (pv 1) pa_nil)) pa_nil))))
      (pss_cons (ps_set (i := 3) sc_law_spoiled_counts.nd rfl (Or.inl rfl) (pe_op op_catA (pe_op op_catA (pe_slice sl_tupA (pv 1) po_none (po_some (pv 2))) (pe_tup (pa_cons (pe_ix ix_list (pe_lst (pa_cons pe_int (pa_cons pe_int (pa_cons pe_int (pa_cons pe_bl (pa_cons pe_non (pa_cons pe_str (pa_cons (pe_tup (pa_cons pe_int pa_nil)) (pa_cons (pe_un un_neg pe_int) pa_nil))))))))) (pe_call (ok__law_draw T) (hr.mono (by decide)) rfl T._law_draw.g T._law_draw.F.kp T._law_draw.b .nil pass0 (pa_cons (pv 0) (pa_cons pe_int pa_nil))) (fun _ _ => rfl)) pa_nil))) (pe_slice sl_tupA (pv 1) (po_some (pe_op op_add (pv 2) pe_int)) po_none)))
      (pss_one (ps_ret (pe_ix ix_list (pe_lst (pa_cons (pv 3) (pa_cons (pv 3) (pa_cons (pv 3) (pa_cons (pe_callTy call_list_of (by rfl) T.n_list (by decide +kernel) (pa_cons (pv 1) pa_nil)) (pa_cons (pe_op op_catA (pv 1) (pe_tup (pa_cons pe_int pa_nil))) (pa_cons (pe_slice sl_tupA (pv 1) po_none (po_some (pe_un un_neg pe_int))) (pa_cons pe_non (pa_cons pe_int pa_nil))))))))) (pe_call (ok__law_draw T) (hr.mono (by decide)) rfl T._law_draw.g T._law_draw.F.kp T._law_draw.b .nil pass0 (pa_cons (pv 0) (pa_cons pe_int pa_nil))) (fun _ _ => rfl)))))), ?_⟩
    obtain ⟨a, xs, rfl, e, z, ra⟩ := tup_inv r
    have l1 := ra.len
    refine ⟨_, rfl, _, rfl, _, _, rfl, .inr (SqT.of e), h, c, _, rfl, hA, by omega, by omega, fun ai H1 a0 a1 hA1 b1 => ?_⟩
    have r1 := r.mono hA.lst b1
    refine ⟨_, rfl, _, rfl, _, rfl, slA_rp hA1 r1 fun v2 ds2 H2 s2 hA2 r2 z2 => ?_⟩
    refine ⟨by show 1 ≤ sizeLine; decide, fun p1 hp1 => ?_⟩
    walk_at "gen"
    refine ⟨_, rfl, by show 8 ≤ sizeLine; decide, fun p3 hp3 => ?_⟩
    walk_at "gen"
    rename_i H3 s3 e3 n3 _ hA3
    have rl : RpXA H3 h [.int 0, .int 4, .int 3, .bl true, .non, .str "1", .ref p1, .int (-1)] := by walk_at "rp"
    have r3 : Rp H3 h v2 (.tup ds2) := by walk_at "rr"
    have q3 : Rp H3 h (.ref a) (.tup ds) := by walk_at "rr"
    have b3 : BW h H H3 := ⟨by walk_at "bt"⟩
    clear b1 r1
    refine ⟨_, rfl, h, c, 8, rfl, hA3, by decide, by decide, fun n H4 m0 m1 hA4 b4 => ?_⟩
    obtain ⟨v4, g1, d4, r4⟩ := rl.get m0 m1
    have r4' := r4.mono hA3.lst b4
    have q4 := q3.mono hA3.lst b4
    have t4 := r3.mono hA3.lst b4
    refine ⟨p3, _, n, v4, rfl, rfl, SqL.of (b4 _ _ e3 n3), g1, by show 1 ≤ sizeLine; decide, fun p5 hp5 => ?_⟩
    clear hA hA1 hA2 hA3
    walk_at "gen"
    rename_i H5 s5 e5 n5 _ hA5
    have r5 : Rp H5 h (.ref p5) (.tup [d4]) := .tup e5 (by simp) (.cons (r4'.same s5) .nil)
    refine catA_rp hA5 (t4.same s5) r5 (by simp; omega) fun v6 H6 s6 hA6 r6 => ?_
    have q6 := (q4.same s5).same s6
    refine ⟨_, rfl, _, rfl, _, _, rfl, rfl, _, rfl, ?_⟩
    delta tNoPart
    refine slA_rp hA6 q6 fun v7 ds7 H7 s7 hA7 r7 z7 => ?_
    refine catA_rp hA7 (r6.same s7) r7 (by simp; omega) fun v8 H8 s8 hA8 r8 => ?_
    have q8 := (q6.same s7).same s8
    have b8 : BW h H H8 := ⟨b3.b.trans (b4.trans (But.of (((s5.trans s6).trans s7).trans s8)))⟩
    clear b4
    obtain ⟨a', xs', ea', e8, z8, ra8⟩ := tup_inv q8
    cases ea'
    refine ⟨_, rfl, _, rfl, _, rfl, _, rfl, _, _, rfl, .inr (SqT.of e8), fun p9 hp9 => ?_⟩
    clear hA4 hA5 hA6 hA7
    walk_at "gen"
    rename_i H9 s9 e9 n9 _ hA9
    refine ⟨_, rfl, by show 1 ≤ sizeLine; decide, fun p10 hp10 => ?_⟩
    walk_at "gen"
    rename_i H10 s10 e10 n10 _ hA10
    refine catA_rp hA10 ((q8.same s9).same s10) (.tup (ds := [.int 1]) e10 (by simp) (.cons (.int 1) .nil)) (by simp; omega) fun v11 H11 s11 hA11 r11 => ?_
    have q11 := ((q8.same s9).same s10).same s11
    refine ⟨_, rfl, _, rfl, _, rfl, slA_rp hA11 q11 fun v12 ds12 H12 s12 hA12 r12 z12 => ?_⟩
    refine ⟨by show 8 ≤ sizeLine; decide, fun p13 hp13 => ?_⟩
    clear hA8 hA9 hA10 hA11
    walk_at "gen"
    rename_i H13 s13 e13 n13 _ hA13
    have rl : RpXA H13 h [v8, v8, v8, .ref p9, v11, v12, .non, .int 1] := by walk_at "rp"
    refine ⟨_, rfl, h, c, 8, rfl, hA13, by decide, by decide, fun n2 H14 m0 m1 hA14 b14 => ?_⟩
    obtain ⟨v14, g2, d14, r14⟩ := rl.get m0 m1
    exact ⟨p13, _, n2, v14, rfl, rfl, SqL.of (b14 _ _ e13 n13), g2, k _ _ _ hA14 (b8.b.trans ((But.of ((((s9.trans s10).trans s11).trans s12).trans s13)).trans b14)) (r14.mono hA13.lst b14)⟩
end
end Hc

set_option Elab.async false
set_option linter.all false
set_option maxRecDepth 100000
set_option maxHeartbeats 4000000
set_option autoImplicit false
local macro_rules | `(tactic| walk_at "gen") => `(tactic| (generalize hE : L2.upd _ _ _ = H2; have q := Hc.new_facts (by assumption) (by assumption) hE; clear hE; obtain ⟨s2, e2, n2, n3, hA2⟩ := q))
local macro_rules | `(tactic| walk_at "rp") => `(tactic| first
  | assumption
  | exact Hc.RpX.non | exact Hc.RpX.bl _ | exact Hc.RpX.int _ | exact Hc.RpX.str _
  | exact Hc.RpX.of (by assumption)
  | exact Hc.RpXA.nil
  | (refine Hc.RpXA.cons ?_ ?_ <;> walk_at "rp")
  | (refine Hc.RpX.tup (by assumption) (by simp) ?_; walk_at "rp")
  | exact Hc.RpX.lst (by assumption) (by assumption)
  | exact Hc.RpX.dct (by assumption)
  | (refine Hc.RpX.same (by assumption) ?_; walk_at "rp")
  | (refine Hc.RpX.monoB (by assumption) (by assumption) ?_; walk_at "rp"))
local macro_rules | `(tactic| walk_at "rr") => `(tactic| first
  | assumption
  | (refine Hc.Rp.same (by assumption) ?_; walk_at "rr")
  | (refine Hc.Rp.monoB (by assumption) (by assumption) ?_; walk_at "rr"))
local macro_rules | `(tactic| walk_at "bt") => `(tactic| first
  | assumption
  | exact Hc.But.refl _ _
  | (refine Hc.But.trans ?_ (Hc.But.of (by assumption)); walk_at "bt")
  | (refine Hc.But.trans ?_ (by assumption); walk_at "bt"))
local macro_rules | `(tactic| walk_at "at") => `(tactic| first
  | assumption
  | (refine (by assumption : L2.Same _ _) _ _ ?_; walk_at "at")
  | (refine (by assumption : Hc.But _ _ _) _ _ ?_ (by assumption); walk_at "at"))
namespace Hc
open PySem L2
theorem subA_rp {H : Hp} {h : Addr} {x : V} {d : D} {Q : VK} {j : Int} (r : Rp H h x d) (b : isIB d = true) (k : ∀ i, Q (.int i) H) : rSubA x (.int j) H Q := by
  cases r with
  | int i => exact .inl ⟨i, j, rfl, rfl, k _⟩
  | bl b' => exact .inr ⟨b', j, rfl, rfl, k _⟩
  | _ => exact Bool.noConfusion b
section
variable {P : Program} {w : World} {K : PySem.W.Frag} {mg : Str → Option Value} {base : Heap}
def spSpoilR : Sp := fun vs H Q _ => ∃ (h c : Addr) (vh v : V) (dh : D) (ds : List D) (n : Int), vs = [.ref h, vh, v] ∧ HandAt H h c ∧ Rp H h vh dh ∧ isIB dh = true ∧ Rp H h v (.tup ds) ∧ 1 ≤ ds.length ∧ ds.length ≤ 1000 ∧ ds.all (isBE n) = true ∧
  ∀ v d H', HandAt H' h c → But h H H' → Rp H' h v d → Q v H'
theorem ok__law_spoiled_roads (T : Tx K mg) : FnOk P w K mg base CX0 3 T._law_spoiled_roads.f T._law_spoiled_roads.fd ["_law_hand_here", "_law_houses", "_law_roads"] spSpoilR := by
  refine T._law_spoiled_roads.F.ok sc_law_spoiled_roads (fun vs H Q E h => ?_) (fun cdv A outer s H vs Q E hr h => ?_)
  · obtain ⟨h, c, vh, v, dh, ds, n, rfl, _⟩ := h
    rfl
  · obtain ⟨h, c, vh, v, dh, ds, nn, rfl, hA, rh, hb, r, z0, z1, hall, k⟩ := h
    refine ⟨_, (pss_cons (ps_set (i := 3) sc_law_spoiled_roads.nd rfl (Or.inl rfl) (pe_call (ok__law_draw T) (hr.mono (by decide)) rfl T._law_draw.g T._law_draw.F.kp T._law_draw.b .nil pass0 (pa_cons (pv 0) (pa_cons (pe_callB call_len_seq (by rfl) T.n_len (by decide +kernel) (pa_cons (pv 2) pa_nil)) pa_nil))))
      (pss_cons (ps_set (i := 4) sc_law_spoiled_roads.nd rfl (Or.inl rfl) (pe_lst (pa_cons (pe_callTy call_list_of (by rfl) T.n_list (by decide +kernel) (pa_cons (pe_ix ix_tup (pv 2) (pv 3) (fun _ _ => rfl)) pa_nil)) (pa_cons (pe_op op_catA (pe_ix ix_tup (pv 2) (pv 3) (fun _ _ => rfl)) (pe_tup (pa_cons pe_int pa_nil))) (pa_cons (pe_slice sl_tupA (pe_ix ix_tup (pv 2) (pv 3) (fun _ _ => rfl)) po_none (po_some pe_int)) (pa_cons (pe_tup (pa_cons pe_int (pa_cons pe_int pa_nil))) (pa_cons (pe_tup (pa_cons pe_int (pa_cons (pv 1) pa_nil))) (pa_cons (pe_tup (pa_cons (pe_un un_neg pe_int) (pa_cons pe_int pa_nil))) (pa_cons (pe_tup (pa_cons pe_int (pa_cons pe_bl pa_nil))) (pa_cons (pe_tup (pa_cons pe_int (pa_cons pe_non pa_nil))) (pa_cons pe_int (pa_cons (pe_tup (pa_cons pe_int (pa_cons pe_int pa_nil))) pa_nil))))))))))))
      (pss_cons (ps_set (i := 4) sc_law_spoiled_roads.nd rfl (Or.inl rfl) (pe_op op_cat (pv 4) (pe_lst (pa_cons (pe_call (ok__law_odd T) (hr.mono (by decide)) rfl T._law_odd.g T._law_odd.F.kp T._law_odd.b .nil pass0 (pa_cons (pv 0) pa_nil)) (pa_cons (pe_tup (pa_cons (pe_op op_subA (pv 1) pe_int) (pa_cons pe_int pa_nil))) pa_nil)))))
      (pss_cons (ps_set (i := 5) sc_law_spoiled_roads.nd rfl (Or.inl rfl) (pe_op op_catA (pe_op op_catA (pe_slice sl_tupA (pv 2) po_none (po_some (pv 3))) (pe_tup (pa_cons (pe_ix ix_list (pv 4) (pe_call (ok__law_draw T) (hr.mono (by decide)) rfl T._law_draw.g T._law_draw.F.kp T._law_draw.b .nil pass0 (pa_cons (pv 0) (pa_cons (pe_callB call_len_seq (by rfl) T.n_len (by decide +kernel) (pa_cons (pv 4) pa_nil)) pa_nil))) (fun _ _ => rfl)) pa_nil))) (pe_slice sl_tupA (pv 2) (po_some (pe_op op_add (pv 3) pe_int)) po_none)))
      (pss_one (ps_ret (pe_ix ix_list (pe_lst (pa_cons (pv 5) (pa_cons (pv 5) (pa_cons (pv 5) (pa_cons (pe_callTy call_list_of (by rfl) T.n_list (by decide +kernel) (pa_cons (pv 2) pa_nil)) (pa_cons (pe_tup pa_nil) (pa_cons pe_non (pa_cons (pe_op op_repA (pv 2) pe_int) (pa_cons (pe_op op_catA (pv 2) (pe_slice sl_tupA (pv 2) po_none (po_some pe_int))) (pa_cons (pe_slice sl_tupA (pv 2) po_none (po_some (pe_un un_neg pe_int))) (pa_cons pe_dnewK pa_nil))))))))))) (pe_call (ok__law_draw T) (hr.mono (by decide)) rfl T._law_draw.g T._law_draw.F.kp T._law_draw.b .nil pass0 (pa_cons (pv 0) (pa_cons pe_int pa_nil))) (fun _ _ => rfl)))))))), ?_⟩
    obtain ⟨a, xs, rfl, e, z, ra⟩ := tup_inv r
    have l1 := ra.len
    refine ⟨_, rfl, _, rfl, _, _, rfl, .inr (SqT.of e), h, c, _, rfl, hA, by omega, by omega, fun ai H1 a0 a1 hA1 b1 => ?_⟩
    obtain ⟨v1, d1, g1, m1, rv⟩ := ra.of a0 a1
    have r1 := r.mono hA.lst b1
    have rh1 := rh.mono hA.lst b1
    have rv1 := rv.mono hA.lst b1
    have e1 : H1 a = some (.tup xs) := by
      obtain ⟨ns, _, _, _, _, eh, _⟩ := hA
      exact b1 _ _ e (ne_of e eh (by intro z; cases z))
    rw [List.all_eq_true] at hall
    obtain ⟨x1, y1, rfl, _⟩ := be_full (hall d1 m1)
    obtain ⟨qa, ys, rfl, eq1, _, _⟩ := tup_inv rv1
    clear hA
    refine ⟨_, rfl, _, rfl, a, xs, ai, _, rfl, rfl, SqT.of e1, g1, qa, ys, rfl, .inr (SqT.of eq1), fun p1 hp1 => ?_⟩
    walk_at "gen"
    rename_i H2 s2 e2 n2 _ hA2
    refine ⟨_, rfl, _, rfl, a, xs, ai, _, rfl, rfl, SqT.of (s2 _ _ e1), g1, by show 1 ≤ sizeLine; decide, fun p2 hp2 => ?_⟩
    walk_at "gen"
    rename_i H3 s3 e3 n3 _ hA3
    refine catA_rp hA3 ((rv1.same s2).same s3) (.tup (ds := [.int 0]) e3 (by simp) (.cons (.int 0) .nil)) (by simp) fun v4 H4 s4 hA4 r4 => ?_
    refine ⟨_, rfl, _, rfl, a, xs, ai, _, rfl, rfl, SqT.of (s4 _ _ (s3 _ _ (s2 _ _ e1))), g1, _, rfl, slA_rp hA4 (((rv1.same s2).same s3).same s4) fun v5 ds5 H5 s5 hA5 r5 z5 => ?_⟩
    refine ⟨by show 2 ≤ sizeLine; decide, fun p6 hp6 => ?_⟩
    walk_at "gen"
    refine ⟨_, rfl, by show 2 ≤ sizeLine; decide, fun p7 hp7 => ?_⟩
    walk_at "gen"
    refine ⟨_, rfl, by show 2 ≤ sizeLine; decide, fun p8 hp8 => ?_⟩
    walk_at "gen"
    refine ⟨by show 2 ≤ sizeLine; decide, fun p9 hp9 => ?_⟩
    walk_at "gen"
    refine ⟨by show 2 ≤ sizeLine; decide, fun p10 hp10 => ?_⟩
    walk_at "gen"
    refine ⟨by show 2 ≤ sizeLine; decide, fun p11 hp11 => ?_⟩
    walk_at "gen"
    refine ⟨by show 10 ≤ sizeLine; decide, fun p12 hp12 => ?_⟩
    walk_at "gen"
    rename_i H12 s12 e12 n12 _ hA12
    have x1 : RpX H12 h (.ref p1) := by walk_at "rp"
    have x2 : RpX H12 h v4 := by walk_at "rp"
    have x3 : RpX H12 h v5 := by walk_at "rp"
    have x4 : RpX H12 h (.ref p6) := by walk_at "rp"
    have x5 : RpX H12 h (.ref p7) := by walk_at "rp"
    have x6 : RpX H12 h (.ref p8) := by walk_at "rp"
    have x7 : RpX H12 h (.ref p9) := by walk_at "rp"
    have x8 : RpX H12 h (.ref p10) := by walk_at "rp"
    have x9 : RpX H12 h (.ref p11) := by walk_at "rp"
    have q12 : Rp H12 h (.ref a) (.tup ds) := by walk_at "rr"
    have rh12 : Rp H12 h vh dh := by walk_at "rr"
    have b12 : BW h H H12 := ⟨by walk_at "bt"⟩
    clear b1 r1 rh1 rv1
    clear hA1 hA2 hA3 hA4 hA5
    -- pairs + [odd, (houses - 1, 0)]
    refine ⟨_, rfl, _, rfl, h, c, rfl, hA12, fun vo do_ H13 hA13 b13 ro => ?_⟩
    have rh13 := rh12.mono hA12.lst b13
    refine ⟨_, rfl, ?_⟩
    delta tC
    refine subA_rp rh13 hb fun i => ?_
    refine ⟨by show 2 ≤ sizeLine; decide, fun p14 hp14 => ?_⟩
    walk_at "gen"
    refine ⟨by show 2 ≤ sizeLine; decide, fun p15 hp15 => ?_⟩
    walk_at "gen"
    rename_i H15 s15 e15 n15 _ hA15
    have e12' : H15 p12 = some (.lst [.ref p1, v4, v5, .ref p6, .ref p7, .ref p8, .ref p9, .ref p10, .int 5, .ref p11]) := by walk_at "at"
    refine ⟨p12, p15, _, _, rfl, rfl, e12', e15, by show 12 ≤ sizeLine; decide, fun p16 hp16 => ?_⟩
    walk_at "gen"
    rename_i H16 s16 e16 n16 _ hA16
    have e16' : H16 p16 = some (.lst [.ref p1, v4, v5, .ref p6, .ref p7, .ref p8, .ref p9, .ref p10, .int 5, .ref p11, vo, .ref p14]) := e16
    have rl : RpXA H16 h [.ref p1, v4, v5, .ref p6, .ref p7, .ref p8, .ref p9, .ref p10, .int 5, .ref p11, vo, .ref p14] := by walk_at "rp"
    have q16 : Rp H16 h (.ref a) (.tup ds) := by walk_at "rr"
    have b16 : BW h H12 H16 := ⟨by walk_at "bt"⟩
    clear b13
    clear hA12 hA13 hA15 x1 x2 x3 x4 x5 x6 x7 x8 x9
    refine ⟨_, rfl, _, rfl, _, rfl, slA_rp hA16 q16 fun v17 ds17 H17 s17 hA17 r17 z17 => ?_⟩
    have e17 := s17 _ _ e16'
    refine ⟨_, rfl, _, rfl, _, rfl, p16, _, rfl, .inl (SqL.of e17), h, c, 12, rfl, hA17, by decide, by decide, fun n H18 m0 m1 hA18 b18 => ?_⟩
    obtain ⟨v18, g18, d18, r18⟩ := rl.get m0 m1
    have r18' := (r18.same s17).mono hA17.lst b18
    have r17' := r17.mono hA17.lst b18
    have q18 := (q16.same s17).mono hA17.lst b18
    refine ⟨p16, _, n, v18, rfl, rfl, SqL.of (b18 _ _ e17 n16), g18, by show 1 ≤ sizeLine; decide, fun p19 hp19 => ?_⟩
    clear hA16 hA17
    walk_at "gen"
    rename_i H19 s19 e19 n19 _ hA19
    refine catA_rp hA19 (r17'.same s19) (.tup (ds := [d18]) e19 (by simp) (.cons (r18'.same s19) .nil)) (by simp; omega) fun v20 H20 s20 hA20 r20 => ?_
    have q20 := (q18.same s19).same s20
    refine ⟨_, rfl, _, rfl, _, _, rfl, rfl, _, rfl, ?_⟩
    delta tNoPart
    refine slA_rp hA20 q20 fun v21 ds21 H21 s21 hA21 r21 z21 => ?_
    refine catA_rp hA21 (r20.same s21) r21 (by simp; omega) fun v22 H22 s22 hA22 r22 => ?_
    have q22 := (q20.same s21).same s22
    have b22 : BW h H H22 := ⟨b12.b.trans (b16.b.trans ((But.of s17).trans (b18.trans (But.of (((s19.trans s20).trans s21).trans s22)))))⟩
    clear b18
    clear hA18 hA19 hA20 hA21
    obtain ⟨a', xs', ea', e22, z22, ra22⟩ := tup_inv q22
    cases ea'
    have x22 : RpX H22 h v22 := ⟨_, r22⟩
    refine ⟨_, rfl, _, rfl, _, rfl, _, rfl, _, _, rfl, .inr (SqT.of e22), fun p23 hp23 => ?_⟩
    walk_at "gen"
    refine ⟨by show 0 ≤ sizeLine; decide, fun p24 hp24 => ?_⟩
    walk_at "gen"
    rename_i H24 s24 e24 n24 _ hA24
    have q24 : Rp H24 h (.ref a) (.tup ds) := by walk_at "rr"
    refine ⟨_, rfl, repA_rp hA24 q24 (by decide) (by decide) (fun z => by rw [z] at z0; simp at z0) z1 fun v25 ds25 H25 s25 hA25 r25 => ?_⟩
    have q25 := q24.same s25
    refine ⟨_, rfl, _, rfl, _, rfl, slA_rp hA25 q25 fun v26 ds26 H26 s26 hA26 r26 z26 => ?_⟩
    have q26 := q25.same s26
    refine catA_rp hA26 q26 r26 (by omega) fun v27 H27 s27 hA27 r27 => ?_
    have q27 := q26.same s27
    refine ⟨_, rfl, _, rfl, _, rfl, slA_rp hA27 q27 fun v28 ds28 H28 s28 hA28 r28 z28 => ?_⟩
    refine fun p29 hp29 => ?_
    clear hA24 hA25 hA26 hA27
    walk_at "gen"
    refine ⟨by show 10 ≤ sizeLine; decide, fun p30 hp30 => ?_⟩
    walk_at "gen"
    rename_i H30 s30 e30 n30 _ hA30
    have rl : RpXA H30 h [v22, v22, v22, .ref p23, .ref p24, .non, v25, v27, v28, .ref p29] := by walk_at "rp"
    have b30 : But h H22 H30 := by walk_at "bt"
    refine ⟨_, rfl, h, c, 10, rfl, hA30, by decide, by decide, fun n2 H31 m0 m1 hA31 b31 => ?_⟩
    obtain ⟨v31, g31, d31, r31⟩ := rl.get m0 m1
    exact ⟨p30, _, n2, v31, rfl, rfl, SqL.of (b31 _ _ e30 n30), g31, k _ _ _ hA31 (b22.b.trans (b30.trans b31)) (r31.mono hA30.lst b31)⟩
end
end Hc

set_option Elab.async false
set_option linter.all false
set_option maxRecDepth 100000
set_option maxHeartbeats 1000000
set_option autoImplicit false
local macro_rules | `(tactic| walk_at "gen") => `(tactic| (generalize hE : L2.upd _ _ _ = H2; have q := Hc.new_facts (by assumption) (by assumption) hE; clear hE; obtain ⟨s2, e2, n2, n3, hA2⟩ := q))
local macro_rules | `(tactic| walk_at "rp") => `(tactic| first
  | assumption
  | exact Hc.RpX.non | exact Hc.RpX.bl _ | exact Hc.RpX.int _ | exact Hc.RpX.str _
  | exact Hc.RpX.of (by assumption)
  | exact Hc.RpXA.nil
  | (refine Hc.RpXA.cons ?_ ?_ <;> walk_at "rp")
  | (refine Hc.RpX.tup (by assumption) (by simp) ?_; walk_at "rp")
  | exact Hc.RpX.lst (by assumption) (by assumption)
  | exact Hc.RpX.dct (by assumption)
  | (refine Hc.RpX.same (by assumption) ?_; walk_at "rp")
  | (refine Hc.RpX.monoB (by assumption) (by assumption) ?_; walk_at "rp"))
local macro_rules | `(tactic| walk_at "rr") => `(tactic| first
  | assumption
  | (refine Hc.Rp.same (by assumption) ?_; walk_at "rr")
  | (refine Hc.Rp.monoB (by assumption) (by assumption) ?_; walk_at "rr"))
local macro_rules | `(tactic| walk_at "bt") => `(tactic| first
  | assumption
  | exact Hc.But.refl _ _
  | (refine Hc.But.trans ?_ (Hc.But.of (by assumption)); walk_at "bt")
  | (refine Hc.But.trans ?_ (by assumption); walk_at "bt"))
local macro_rules | `(tactic| walk_at "at") => `(tactic| first
  | assumption
  | (refine (by assumption : L2.Same _ _) _ _ ?_; walk_at "at")
  | (refine (by assumption : Hc.But _ _ _) _ _ ?_ (by assumption); walk_at "at"))
namespace Hc
open PySem L2
theorem HandAt.but {H H' : Hp} {h c x : Addr} (a : HandAt H h c) (k : But x H H') (h1 : h ≠ x) (h2 : c ≠ x) : HandAt H' h c := by
  obtain ⟨ns, i, d, s, t, e, hc, hi, hn⟩ := a
  exact ⟨ns, i, d, s, t, k _ _ e h1, k _ _ hc h2, hi, hn⟩
def pI : D → PyData | .int i => .int i | _ => .none
def pP : D → PyData | .tup (.int a :: .int b :: _) => .tuple [.int a, .int b] | _ => .none
theorem dp_ints {K : PySem.W.Frag} {H : Hp} {h : Addr} : ∀ {xs : List V} {ds : List D}, RpA H h xs ds → ds.all isInt = true → DpAll K H xs (ds.map pI)
  | _, _, .nil, _ => .nil
  | _, _, .cons (d := d) r q, e => by
    rw [List.all_cons, Bool.and_eq_true] at e
    cases r with
    | int i => exact .cons (.int i) (dp_ints q e.2)
    | _ => exact Bool.noConfusion e.1
theorem dp_pairs {K : PySem.W.Frag} {H : Hp} {h : Addr} {n : Int} : ∀ {xs : List V} {ds : List D}, RpA H h xs ds → ds.all (isBE n) = true → DpAll K H xs (ds.map pP)
  | _, _, .nil, _ => .nil
  | _, _, .cons (d := d) r q, e => by
    rw [List.all_cons, Bool.and_eq_true] at e
    obtain ⟨a, b, rfl, _⟩ := be_full e.1
    obtain ⟨p, ys, rfl, ep, _, rp⟩ := tup_inv r
    exact .cons (.tup (SqT.of ep) (dp_ints rp rfl)) (dp_pairs q e.2)
theorem lay_ints (ds : List D) : PyData.canLayAll0 (ds.map pI) = true ∧ PyData.depthAll (ds.map pI) = 0 := by
  induction ds with
  | nil => exact ⟨rfl, rfl⟩
  | cons d ds ih =>
    have h1 : (pI d).canLay0 = true ∧ (pI d).depth = 0 := by cases d <;> exact ⟨rfl, rfl⟩
    constructor
    · show ((pI d).canLay0 && PyData.canLayAll0 (ds.map pI)) = true
      rw [h1.1, ih.1]; rfl
    · show max (pI d).depth (PyData.depthAll (ds.map pI)) = 0
      rw [h1.2, ih.2]; rfl
theorem lay_pairs (n : Int) (ds : List D) (e : ds.all (isBE n) = true) : PyData.canLayAll0 (ds.map pP) = true ∧ PyData.depthAll (ds.map pP) ≤ 1 := by
  induction ds with
  | nil => exact ⟨rfl, by decide⟩
  | cons d ds ih =>
    rw [List.all_cons, Bool.and_eq_true] at e
    have ih := ih e.2
    obtain ⟨a, b, rfl, _⟩ := be_full e.1
    constructor
    · show (true && PyData.canLayAll0 (ds.map pP)) = true
      rw [ih.1]; rfl
    · show max 1 (PyData.depthAll (ds.map pP)) ≤ 1
      omega
theorem shaped_of {xs : List PyData} (a : PyData.canLayAll0 xs = true) (b : PyData.depthAll xs ≤ 1) : SeqAt.shaped (.tuple xs) = true := by
  show (PyData.canLayAll0 xs && decide (PyData.depthAll xs + 1 ≤ 64)) = true
  rw [a, decide_eq_true (by omega)]; rfl
/-- a thing that is equal to itself as data -/
def Self (K : PySem.W.Frag) (H : Hp) (v : V) : Prop := ∃ d, Dp K H v d ∧ SeqAt.shaped d = true ∧ PyData.eqv d d = true
theorem self_of {K : PySem.W.Frag} {H : Hp} {v : V} {xs : List PyData} (k : Dp K H v (.tuple xs)) (a : PyData.canLayAll0 xs = true) (b : PyData.depthAll xs ≤ 1) : Self K H v :=
  ⟨_, k, shaped_of a b, SeqAt.eqv_refl _ (show PyData.canLayAll0 xs = true from a)⟩
theorem btws_int {n lo hi : Int} {ds : List D} (e : areBtw n lo hi (.tup ds) = true) : ds.all isInt = true := by
  rw [areBtw_tup, Bool.and_eq_true, ← btw_int, Bool.and_eq_true] at e
  exact e.2.1
theorem btws_shape {n lo hi : Int} {d : D} (e : areBtw n lo hi d = true) : ∃ ds, d = .tup ds ∧ (ds.length : Int) = n := by
  cases d with
  | tup ds =>
    rw [areBtw_tup, Bool.and_eq_true] at e
    exact ⟨ds, rfl, of_decide_eq_true e.1⟩
  | _ => exact Bool.noConfusion e
theorem self_ints {K : PySem.W.Frag} {H : Hp} {h : Addr} {v : V} {d : D} {n lo hi : Int} (r : Rp H h v d) (e : areBtw n lo hi d = true) : Self K H v := by
  obtain ⟨ds, rfl, _⟩ := btws_shape e
  obtain ⟨p, xs, rfl, ep, _, ra⟩ := tup_inv r
  have l := lay_ints ds
  exact self_of (.tup (SqT.of ep) (dp_ints ra (btws_int e))) l.1 (by omega)
theorem self_roads {K : PySem.W.Frag} {H : Hp} {h : Addr} {v : V} {d : D} {n : Int} (r : Rp H h v d) (e : areRoads n d = true) : Self K H v := by
  obtain ⟨ds, rfl⟩ := roads_shape e
  obtain ⟨p, xs, rfl, ep, _, ra⟩ := tup_inv r
  rw [areRoads_tup, Bool.and_eq_true] at e
  have l := lay_pairs n ds e.2
  exact self_of (.tup (SqT.of ep) (dp_pairs ra e.2)) l.1 l.2
theorem due_none {d1 d2 d3 d4 : D} (e : due d1 d2 d3 d4 = none) : isBtw 2 12 d1 = true ∧ areRoads (num d1) d2 = true ∧ areBtw (dlen d2) 1 3 d3 = true ∧ areBtw (dlen d2) 1 3 d4 = true := by
  unfold due at e
  by_cases x1 : isBtw 2 12 d1 = false
  · rw [if_pos x1] at e; cases e
  rw [if_neg x1] at e
  by_cases x2 : areRoads (num d1) d2 = false
  · rw [if_pos x2] at e; cases e
  rw [if_neg x2] at e
  by_cases x3 : areBtw (dlen d2) 1 3 d3 = false
  · rw [if_pos x3] at e; cases e
  rw [if_neg x3] at e
  by_cases x4 : areBtw (dlen d2) 1 3 d4 = false
  · rw [if_pos x4] at e; cases e
  exact ⟨by simpa using x1, by simpa using x2, by simpa using x3, by simpa using x4⟩
theorem nHR : ¬ (("houses" : Str) = "roads") := by decide +kernel
theorem nHM : ¬ (("houses" : Str) = "rooms") := by decide +kernel
theorem nHT : ¬ (("houses" : Str) = "times") := by decide +kernel
theorem nRM : ¬ (("roads" : Str) = "rooms") := by decide +kernel
theorem nRT : ¬ (("roads" : Str) = "times") := by decide +kernel
theorem nMT : ¬ (("rooms" : Str) = "times") := by decide +kernel
theorem webF_h (v1 v2 v3 v4 : V) : (webF v1 v2 v3 v4).lookup ("houses" : Str) = some v1 := by
  unfold webF
  rw [lookup_putF, if_neg nHT, lookup_putF, if_neg nHM, lookup_putF, if_neg nHR, lookup_putF, if_pos rfl]
theorem webF_r (v1 v2 v3 v4 : V) : (webF v1 v2 v3 v4).lookup ("roads" : Str) = some v2 := by
  unfold webF
  rw [lookup_putF, if_neg nRT, lookup_putF, if_neg nRM, lookup_putF, if_pos rfl]
theorem webF_m (v1 v2 v3 v4 : V) : (webF v1 v2 v3 v4).lookup ("rooms" : Str) = some v3 := by
  unfold webF
  rw [lookup_putF, if_neg nMT, lookup_putF, if_pos rfl]
theorem webF_t (v1 v2 v3 v4 : V) : (webF v1 v2 v3 v4).lookup ("times" : Str) = some v4 := by
  unfold webF
  rw [lookup_putF, if_pos rfl]
section
variable {P : Program} {w : World} {K : PySem.W.Frag} {mg : Str → Option Value} {base : Heap}
def spLaw (K : PySem.W.Frag) : Sp := fun vs H Q _ => ∃ (a : Addr) (ns : List Int), vs = [.ref a] ∧ SqL K H a (ns.map V.int) ∧ ns.length ≤ 63 ∧ ∀ H', Q (.bl true) H'
theorem ok_law (T : Tx K mg) : FnOk P w K mg base CX0 9 T.law.f T.law.fd ["_law_script"] (spLaw K) := by
  refine T.law.F.ok sc_law (fun vs H Q E h => ?_) (fun cdv A outer s H vs Q E hr h => ?_)
  · obtain ⟨a, ns, rfl, _⟩ := h
    rfl
  · obtain ⟨a, ns, rfl, hS, hl, k⟩ := h
    refine ⟨_, (pss_cons (ps_set (i := 1) sc_law.nd rfl (Or.inl rfl) (pe_call (ok__law_hand T) (hr.mono (by decide)) rfl T._law_hand.g T._law_hand.F.kp T._law_hand.b .nil pass0 (pa_cons (pv 0) pa_nil)))
      (pss_cons (ps_for PassesOwn.never rfl (pi_range1 (by rfl) T.n_range (pa_cons pe_int pa_nil)) (pg_name (i := 2) sc_law.nd rfl (Or.inl rfl))
      (pss_cons (ps_asg (pe_call (ok__law_web T) (hr.mono (by decide)) rfl T._law_web.g T._law_web.F.kp T._law_web.b .nil pass0 (pa_cons (pv 1) (pa_cons pe_int (pa_cons (pe_ix ix_list (pe_lst (pa_cons pe_int (pa_cons pe_int pa_nil))) (pe_call (ok__law_draw T) (hr.mono (by decide)) rfl T._law_draw.g T._law_draw.F.kp T._law_draw.b .nil pass0 (pa_cons (pv 1) (pa_cons pe_int pa_nil))) (fun _ _ => rfl)) pa_nil)))) (pg_tup (by rfl) (pgs_cons (pg_name (i := 3) sc_law.nd rfl (Or.inl rfl)) (pgs_cons (pg_name (i := 4) sc_law.nd rfl (Or.inl rfl)) (pgs_cons (pg_name (i := 5) sc_law.nd rfl (Or.inl rfl)) (pgs_cons (pg_name (i := 6) sc_law.nd rfl (Or.inl rfl)) pgs_nil))))))
      (pss_cons (ps_set (i := 7) sc_law.nd rfl (Or.inl rfl) (pe_call (ok__law_draw T) (hr.mono (by decide)) rfl T._law_draw.g T._law_draw.F.kp T._law_draw.b .nil pass0 (pa_cons (pv 1) (pa_cons pe_int pa_nil))))
      (C8.pss_cut (ps_if (pt_cmpR op_in_seq (pv 7) (pe_lst (pa_cons pe_int (pa_cons pe_int pa_nil))) (by rfl))
      (pss_one (ps_set (i := 3) sc_law.nd rfl (Or.inl rfl) (pe_ix ix_list (pe_lst (pa_cons pe_int (pa_cons pe_int (pa_cons pe_int (pa_cons pe_int (pa_cons pe_int (pa_cons pe_bl (pa_cons pe_non (pa_cons pe_str (pa_cons (pe_un un_neg pe_int) (pa_cons (pe_tup (pa_cons pe_int pa_nil)) (pa_cons (pe_op op_pow pe_int pe_int) pa_nil)))))))))))) (pe_call (ok__law_draw T) (hr.mono (by decide)) rfl T._law_draw.g T._law_draw.F.kp T._law_draw.b .nil pass0 (pa_cons (pv 1) (pa_cons pe_int pa_nil))) (fun _ _ => rfl))))
      pss_nil)
      (C8.pss_cut (ps_if (PW.pt (pw_and (pt_cmpR op_in_seq (pv 7) (pe_lst (pa_cons pe_int (pa_cons pe_int (pa_cons pe_int pa_nil)))) (by rfl)) (pw_and1 (pt_val (pe_callB call_isi (by rfl) T.n_isinstance (by decide +kernel) (pa_cons (pv 3) (pa_cons (pe_bltn (v := .ty "int") (by rfl) T.n_int (by decide +kernel) rfl) pa_nil)))))))
      (pss_one (ps_set (i := 4) sc_law.nd rfl (Or.inl rfl) (pe_call (ok__law_spoiled_roads T) (hr.mono (by decide)) rfl T._law_spoiled_roads.g T._law_spoiled_roads.F.kp T._law_spoiled_roads.b .nil pass0 (pa_cons (pv 1) (pa_cons (pv 3) (pa_cons (pv 4) pa_nil))))))
      pss_nil)
      (C8.pss_cut (ps_if (pt_cmpR op_in_seq (pv 7) (pe_lst (pa_cons pe_int (pa_cons pe_int pa_nil))) (by rfl))
      (pss_one (ps_set (i := 5) sc_law.nd rfl (Or.inl rfl) (pe_call (ok__law_spoiled_counts T) (hr.mono (by decide)) rfl T._law_spoiled_counts.g T._law_spoiled_counts.F.kp T._law_spoiled_counts.b .nil pass0 (pa_cons (pv 1) (pa_cons (pv 5) pa_nil)))))
      pss_nil)
      (C8.pss_cut (ps_if (pt_cmpR op_in_seq (pv 7) (pe_lst (pa_cons pe_int (pa_cons pe_int pa_nil))) (by rfl))
      (pss_one (ps_set (i := 6) sc_law.nd rfl (Or.inl rfl) (pe_call (ok__law_spoiled_counts T) (hr.mono (by decide)) rfl T._law_spoiled_counts.g T._law_spoiled_counts.F.kp T._law_spoiled_counts.b .nil pass0 (pa_cons (pv 1) (pa_cons (pv 6) pa_nil)))))
      pss_nil)
      (pss_cons (ps_set (i := 8) sc_law.nd rfl (Or.inl rfl) (pe_call (ok__law_due T) (hr.mono (by decide)) rfl T._law_due.g T._law_due.F.kp T._law_due.b .nil pass0 (pa_cons (pv 3) (pa_cons (pv 4) (pa_cons (pv 5) (pa_cons (pv 6) pa_nil))))))
      (pss_cons (ps_set (i := 9) sc_law.nd rfl (Or.inl rfl) pe_str)
      (pss_cons (ps_try_as (i := 11) (tb := fun W => tSeq (tAsg (tMakeS T.Web.C (spWeb T.Web.C T.x_BadWeb.C) [] (WE W) (tCons (tVar 3) (tCons (tVar 4) (tCons (tVar 5) (tCons (tVar 6) tNil))))) (gName 10)) (tSeq (tAsg (tC (.str "wrong")) (gName 9)) (tIfS (tAnd (tTest (tOp rEq (tFld K (tVar 10) "houses") (tVar 3))) (tAnd (tTest (tOp (rEqD K) (tFld K (tVar 10) "roads") (tVar 4))) (tAnd (tTest (tOp (rEqD K) (tFld K (tVar 10) "rooms") (tVar 5))) (tTest (tOp (rEqD K) (tFld K (tVar 10) "times") (tVar 6)))))) (tAsg (tC (.str "let")) (gName 9)) tNext)))
      (ts := fun a cls d => tAsg (tXf a cls d T.x_BadWeb.C "part" (tVar 11)) (gName 9)) (Wout := fun _ _ _ _ => False) rfl rfl sc_law.nd rfl rfl ⟨rfl, by decide, Or.inl T.x_BadWeb.g⟩ takes0
      (fun W pn xe tk _ => (pss_cons (ps_set (i := 10) sc_law.nd rfl (Or.inl rfl) (by exact (pe_makeS T.Web.mk1 (ok_Web___init T) (hr.mono (by decide)) rfl T.Web.g T.Web.b .nil (fun σ => passAt tk σ) (by exact (pa_cons (pv 3) (pa_cons (pv 4) (pa_cons (pv 5) (pa_cons (pv 6) pa_nil))))))))
        (pss_cons (ps_set (i := 9) sc_law.nd rfl (Or.inl rfl) pe_str)
        (pss_one (ps_if (by exact (PW.pt (pw_and (pt_cmpR op_eq (pe_fld (pv 10) rfl) (pv 3) (nomark _)) (pw_and (pt_cmpR (op_eqD hr.units) (pe_fld (pv 10) rfl) (pv 4) (nomark _)) (pw_and (pt_cmpR (op_eqD hr.units) (pe_fld (pv 10) rfl) (pv 5) (nomark _)) (pw_and1 (pt_cmpR (op_eqD hr.units) (pe_fld (pv 10) rfl) (pv 6) (nomark _))))))))
          (pss_one (ps_set (i := 9) sc_law.nd rfl (Or.inl rfl) pe_str)) pss_nil)))))
      (fun a oe cls d pn hz hf => pss_one (ps_set (i := 9) sc_law.nd rfl (Or.inl rfl) (by exact (pe_xf T.x_BadWeb.xf (T.x_BadWeb.no _ (by simp)) hz hf (pv 11))))))
      (pss_one (ps_if (pt_cmpR op_ne (pv 9) (pv 8) (nomark _))
      (pss_one (ps_ret pe_bl))
      pss_nil))))))))))))
      (pss_one (ps_ret pe_bl)))), ?_⟩
    refine ⟨_, rfl, a, ns, rfl, hS, hl, fun h c H0 s0 hA0 => ?_⟩
    refine ⟨5, rfl, by decide, by decide, for_range (lo := 0) (n := 5) (fun i σ' H' => ∃ o2 o3 o4 o5 o6 o7 o8 o9 o10 o11 : Option V, σ' = [some (.ref a), some (.ref h), o2, o3, o4, o5, o6, o7, o8, o9, o10, o11] ∧ HandAt H' h c)
      ⟨none, none, none, none, none, none, none, none, none, none, rfl, hA0⟩ ?_ (fun σ' H' _ => k H')⟩
    rintro i σ' H1 hi ⟨o2, o3, o4, o5, o6, o7, o8, o9, o10, o11, rfl, hA1⟩
    refine ⟨_, rfl, by show 2 ≤ sizeLine; decide, fun p1 hp1 => ?_⟩
    walk_at "gen"
    rename_i H2 s2 e2 n2 _ hA2
    refine ⟨_, rfl, h, c, 2, rfl, hA2, by decide, by decide, fun m H3 m0 m1 hA3 b3 => ?_⟩
    obtain ⟨mo, hmo, hmo2⟩ : ∃ mo : Int, atI [V.int 6, V.int 24] m = some (.int mo) ∧ 1 ≤ mo ∧ mo ≤ 24 := by
      have : m = 0 ∨ m = 1 := by omega
      rcases this with rfl | rfl
      · exact ⟨6, rfl, by decide, by decide⟩
      · exact ⟨24, rfl, by decide, by decide⟩
    refine ⟨p1, _, m, _, rfl, rfl, SqL.of (b3 _ _ e2 n2), hmo, h, c, 12, mo, rfl, hA3, by decide, by decide, hmo2.1, by omega, fun vw dw H4 hA4 b4 rw_ wd => ?_⟩
    obtain ⟨n, ds, rm, tm, rfl, z1, z2, z3, z4, hall, hrm, htm⟩ := wd
    obtain ⟨pw, xs, rfl, ew, _, rA⟩ := tup_inv rw_
    cases rA with
    | cons r1 rA =>
    cases rA with
    | cons r2 rA =>
    cases rA with
    | cons r3 rA =>
    cases rA with
    | cons r4 rA =>
    cases rA
    cases r1
    rename_i vr vm vt _
    clear hA1 hA2 hA3 s2 b3
    refine ⟨_, _, rfl, SqT.of ew, rfl, _, _, rfl, _, _, rfl, _, _, rfl, _, _, rfl, rfl, ?_⟩
    refine ⟨_, rfl, h, c, 7, rfl, hA4, by decide, by decide, fun wh H5 _ _ hA5 b5 => ?_⟩
    have r2 := r2.monoB b5 hA4
    have r3 := r3.monoB b5 hA4
    have r4 := r4.monoB b5 hA4
    clear hA4 b5
    obtain ⟨rs, rfl, hrs⟩ := btws_shape hrm
    obtain ⟨ts, rfl, hts⟩ := btws_shape htm
    refine ⟨fun σ' H' => ∃ vh dh, σ' = [some (.ref a), some (.ref h), some (.int (0 + i)), some vh, some vr, some vm, some vt, some (.int wh), o8, o9, o10, o11] ∧ HandAt H' h c ∧ Rp H' h vh dh ∧ Rp H' h vr (.tup ds) ∧ Rp H' h vm (.tup rs) ∧ Rp H' h vt (.tup ts), ?_, ?_⟩
    · refine ⟨_, rfl, by show 2 ≤ sizeLine; decide, fun p hp => ?_⟩
      walk_at "gen"
      rename_i H6 s6 e6 n6 _ hA6
      refine ⟨_, _, rfl, .inl (SqL.of e6), rfl, rfl, _, rfl, ite2 (fun _ => ?_) (fun _ => ?_)⟩
      · refine ⟨_, rfl, by show 1 ≤ sizeLine; decide, fun p7 hp7 => ?_⟩
        walk_at "gen"
        refine ⟨_, _, rfl, rfl, ⟨by decide, by decide, by decide⟩, by show 11 ≤ sizeLine; decide, fun p8 hp8 => ?_⟩
        walk_at "gen"
        rename_i H8 s8 e8 n8 _ hA8
        have rl : RpXA H8 h [.int 0, .int 1, .int 2, .int 12, .int 13, .bl true, .non, .str "3", .int (-1), .ref p7, .int ((10 : Int) ^ (30 : Int).toNat)] := by walk_at "rp"
        have r2' : Rp H8 h vr (.tup ds) := by walk_at "rr"
        have r3' : Rp H8 h vm (.tup rs) := by walk_at "rr"
        have r4' : Rp H8 h vt (.tup ts) := by walk_at "rr"
        refine ⟨_, rfl, h, c, 11, rfl, hA8, by decide, by decide, fun m H9 m0 m1 hA9 b9 => ?_⟩
        obtain ⟨v, g1, d, rv⟩ := rl.get m0 m1
        exact ⟨p8, _, m, v, rfl, rfl, SqL.of (b9 _ _ e8 n8), g1, v, d, rfl, hA9, rv.monoB b9 hA8, r2'.monoB b9 hA8, r3'.monoB b9 hA8, r4'.monoB b9 hA8⟩
      · exact ⟨_, _, rfl, hA6, .int n, r2.same s6, r3.same s6, r4.same s6⟩
    clear hA5 r2 r3 r4
    rintro σ' H5 ⟨vh, dh, rfl, hA5, rh, r2, r3, r4⟩
    refine ⟨fun σ' H' => ∃ vr' d2, σ' = [some (.ref a), some (.ref h), some (.int (0 + i)), some vh, some vr', some vm, some vt, some (.int wh), o8, o9, o10, o11] ∧ HandAt H' h c ∧ Rp H' h vh dh ∧ Rp H' h vr' d2 ∧ Rp H' h vm (.tup rs) ∧ Rp H' h vt (.tup ts), ?_, ?_⟩
    · refine ⟨_, rfl, by show 3 ≤ sizeLine; decide, fun p hp => ?_⟩
      walk_at "gen"
      rename_i H6 s6 e6 n6 _ hA6
      refine ⟨_, _, rfl, .inl (SqL.of e6), rfl, rfl, _, rfl, ite2 (fun _ => ?_) (fun _ => ?_)⟩
      · refine ⟨_, rfl, _, _, _, _, _, rfl, .ty "int", (rh.same s6).ty, kit_ty (kitI dh), _, rfl, ?_⟩
        cases hb : isIB dh with
        | false => exact iteF ⟨_, _, rfl, hA6, rh.same s6, r2.same s6, r3.same s6, r4.same s6⟩
        | true =>
          refine iteT ⟨_, rfl, _, rfl, _, rfl, h, c, vh, vr, dh, ds, n, rfl, hA6, rh.same s6, hb, r2.same s6, z3, by omega, hall, fun v d H7 hA7 b7 rv => ?_⟩
          exact ⟨v, d, rfl, hA7, (rh.same s6).monoB b7 hA6, rv, (r3.same s6).monoB b7 hA6, (r4.same s6).monoB b7 hA6⟩
      · exact iteF ⟨_, _, rfl, hA6, rh.same s6, r2.same s6, r3.same s6, r4.same s6⟩
    clear hA5 r2 r3 r4 rh
    rintro σ' H5 ⟨vr', d2, rfl, hA5, rh, r2, r3, r4⟩
    refine ⟨fun σ' H' => ∃ vm' d3, σ' = [some (.ref a), some (.ref h), some (.int (0 + i)), some vh, some vr', some vm', some vt, some (.int wh), o8, o9, o10, o11] ∧ HandAt H' h c ∧ Rp H' h vh dh ∧ Rp H' h vr' d2 ∧ Rp H' h vm' d3 ∧ Rp H' h vt (.tup ts), ?_, ?_⟩
    · refine ⟨_, rfl, by show 2 ≤ sizeLine; decide, fun p hp => ?_⟩
      walk_at "gen"
      rename_i H6 s6 e6 n6 _ hA6
      refine ⟨_, _, rfl, .inl (SqL.of e6), rfl, rfl, _, rfl, ite2 (fun _ => ?_) (fun _ => ?_)⟩
      · refine ⟨_, rfl, _, rfl, h, c, vm, rs, rfl, hA6, r3.same s6, by omega, by omega, fun v d H7 hA7 b7 rv => ?_⟩
        exact ⟨v, d, rfl, hA7, (rh.same s6).monoB b7 hA6, (r2.same s6).monoB b7 hA6, rv, (r4.same s6).monoB b7 hA6⟩
      · exact ⟨_, _, rfl, hA6, rh.same s6, r2.same s6, r3.same s6, r4.same s6⟩
    clear hA5 r2 r3 r4 rh
    rintro σ' H5 ⟨vm', d3, rfl, hA5, rh, r2, r3, r4⟩
    refine ⟨fun σ' H' => ∃ vt' d4, σ' = [some (.ref a), some (.ref h), some (.int (0 + i)), some vh, some vr', some vm', some vt', some (.int wh), o8, o9, o10, o11] ∧ HandAt H' h c ∧ Rp H' h vh dh ∧ Rp H' h vr' d2 ∧ Rp H' h vm' d3 ∧ Rp H' h vt' d4, ?_, ?_⟩
    · refine ⟨_, rfl, by show 2 ≤ sizeLine; decide, fun p hp => ?_⟩
      walk_at "gen"
      rename_i H6 s6 e6 n6 _ hA6
      refine ⟨_, _, rfl, .inl (SqL.of e6), rfl, rfl, _, rfl, ite2 (fun _ => ?_) (fun _ => ?_)⟩
      · refine ⟨_, rfl, _, rfl, h, c, vt, ts, rfl, hA6, r4.same s6, by omega, by omega, fun v d H7 hA7 b7 rv => ?_⟩
        exact ⟨v, d, rfl, hA7, (rh.same s6).monoB b7 hA6, (r2.same s6).monoB b7 hA6, (r3.same s6).monoB b7 hA6, rv⟩
      · exact ⟨_, _, rfl, hA6, rh.same s6, r2.same s6, r3.same s6, r4.same s6⟩
    clear hA5 r2 r3 r4 rh
    rintro σ' H5 ⟨vt', d4, rfl, hA5, rh, r2, r3, r4⟩
    refine ⟨_, rfl, _, rfl, _, rfl, _, rfl, h, _, _, _, _, _, _, _, _, rfl, rh, r2, r3, r4, fun H6 s6 => ?_⟩
    have hA6 := hA5.mono s6
    refine ⟨_, rfl, _, rfl, _, rfl, _, rfl, fun x dx hx hdx ne => ?_⟩
    have sx : Same H6 (upd (upd H6 dx (.own x)) x (.ins T.Web.C dx [])) := fun b o q => by
      rw [upd_ne (ne_of_none q hx), upd_ne (ne_of_none q hdx)]; exact q
    obtain ⟨nh, nc⟩ := hA6.ne hx
    refine ⟨h, x, dx, vh, vr', vm', vt', dh, d2, d3, d4, rfl, upd_same, (rh.same s6).same sx, (r2.same s6).same sx, (r3.same s6).same sx, (r4.same s6).same sx, fun hd H7 b7 e7 => ⟨rfl, ?_⟩, fun part hd H7 d s7 e7 => ?_⟩
    · have hA7 : HandAt H7 h c := (hA6.mono sx).but b7 nh.symm nc.symm
      obtain ⟨w1, w2, w3, w4⟩ := due_none hd
      obtain ⟨m, rfl⟩ := btw_shape w1
      cases rh
      have nx : ∀ b o, H6 b = some o → b ≠ x := fun b o q => ne_of_none q hx
      have R : ∀ {v : V} {d : D}, Rp H5 h v d → Rp H7 h v d := fun r => by
        have r6 := (r.same s6)
        exact r6.same fun b o q => b7 _ _ (sx _ _ q) (nx b o q)
      obtain ⟨p2, t2, u2, y2⟩ := self_roads (K := K) (R r2) w2
      obtain ⟨p3, t3, u3, y3⟩ := self_ints (K := K) (R r3) w3
      obtain ⟨p4, t4, u4, y4⟩ := self_ints (K := K) (R r4) w4
      have no : ∀ f ∈ (["houses", "roads", "rooms", "times"] : List Str), NoAttr K T.Web.C f := T.Web.no
      refine ⟨_, rfl, x, T.Web.C, dx, _, _, rfl, e7, T.Web.cl, no _ (by simp), webF_h _ _ _ _, _, rfl, rfl, _, rfl, ?_⟩
      rw [int_eqd, decide_eq_true rfl]
      refine iteT ⟨_, rfl, x, T.Web.C, dx, _, _, rfl, e7, T.Web.cl, no _ (by simp), webF_r _ _ _ _, _, rfl, p2, p2, t2, t2, u2, u2, _, rfl, ?_⟩
      rw [y2]
      refine iteT ⟨_, rfl, x, T.Web.C, dx, _, _, rfl, e7, T.Web.cl, no _ (by simp), webF_m _ _ _ _, _, rfl, p3, p3, t3, t3, u3, u3, _, rfl, ?_⟩
      rw [y3]
      refine iteT ⟨_, rfl, x, T.Web.C, dx, _, _, rfl, e7, T.Web.cl, no _ (by simp), webF_t _ _ _ _, _, rfl, p4, p4, t4, t4, u4, u4, _, rfl, ?_⟩
      rw [y4]
      refine iteT ⟨_, rfl, _, rfl, rfl, _, rfl, ?_⟩
      rw [hd]
      exact iteNS rfl ⟨_, _, _, _, _, _, _, _, _, _, rfl, hA7⟩
    · refine ⟨true, T.x_BadWeb.te, fun _ a0 ha0 => ?_, fun q => Bool.noConfusion q⟩
      have l1 : List.lookup ("part" : Str) [(("part" : Str), V.str part)] = some (V.str part) := by simp [List.lookup]
      refine ⟨_, rfl, rfl, rfl, d, _, _, rfl, e7, l1, _, rfl, _, rfl, rfl, _, rfl, ?_⟩
      rw [hd]
      exact iteNS rfl ⟨_, _, _, _, _, _, _, _, _, _, rfl, (hA6.mono sx).mono s7⟩
end
end Hc

set_option Elab.async false
set_option linter.all false
set_option maxRecDepth 100000
set_option maxHeartbeats 4000000
set_option autoImplicit false
namespace Hc
open PySem L2
/-- an error of the class at S is what «except S» names -/
theorem exm_self {K : PySem.W.Frag} {S : Addr} (h1 : PySem.W.subIn K (.ref S) (.type "BaseException") = some true) (h2 : PySem.W.isClsIn K S = true) (h3 : PySem.W.typeIn K (.ref S) = some (.type "type")) (h4 : PySem.W.subIn K (.ref S) (.ref S) = some true) :
    PySem.W.exmOne K (.ref S) (.ref S) = some true := by
  have e1 : (PySem.W.subIn K (.ref S) (.type "BaseException") == some true) = true := by rw [h1] <;> rfl
  have e2 : ((PySem.W.clsIn K S).isSome && PySem.W.typeIn K (.ref S) == some (.type "type")) = true := by
    have h2' : (PySem.W.clsIn K S).isSome = true := h2
    rw [h2', h3] <;> rfl
  show (if (PySem.W.subIn K (.ref S) (.type "BaseException") == some true) = true then (if ((PySem.W.clsIn K S).isSome && PySem.W.typeIn K (.ref S) == some (.type "type")) = true then PySem.W.subIn K (.ref S) (.ref S) else none) else none) = some true
  rw [if_pos e1, if_pos e2]
  exact h4
theorem tx_mk {K : PySem.W.Frag} {h : Heap} {mg : Str → Option Value} (X : K.In h) (G : h.Ns mainGlobals mg)
    {fisqinteger : Addr} {odisqinteger anisqinteger : Option Addr} {slisqinteger : Array (Option Value)} {ocisqinteger kVisqinteger dcisqinteger pmisqinteger cdisqinteger ctisqinteger : Value}
    {fisqbetween : Addr} {odisqbetween anisqbetween : Option Addr} {slisqbetween : Array (Option Value)} {ocisqbetween kVisqbetween dcisqbetween pmisqbetween cdisqbetween ctisqbetween : Value}
    {fisqtuple : Addr} {odisqtuple anisqtuple : Option Addr} {slisqtuple : Array (Option Value)} {ocisqtuple kVisqtuple dcisqtuple pmisqtuple cdisqtuple ctisqtuple : Value}
    {fareqintegers : Addr} {odareqintegers anareqintegers : Option Addr} {slareqintegers : Array (Option Value)} {ocareqintegers kVareqintegers dcareqintegers pmareqintegers cdareqintegers ctareqintegers : Value}
    {fareqbetween : Addr} {odareqbetween anareqbetween : Option Addr} {slareqbetween : Array (Option Value)} {ocareqbetween kVareqbetween dcareqbetween pmareqbetween cdareqbetween ctareqbetween : Value}
    {fareqroads : Addr} {odareqroads anareqroads : Option Addr} {slareqroads : Array (Option Value)} {ocareqroads kVareqroads dcareqroads pmareqroads cdareqroads ctareqroads : Value}
    {fisqbeginqandqend : Addr} {odisqbeginqandqend anisqbeginqandqend : Option Addr} {slisqbeginqandqend : Array (Option Value)} {ocisqbeginqandqend kVisqbeginqandqend dcisqbeginqandqend pmisqbeginqandqend cdisqbeginqandqend ctisqbeginqandqend : Value}
    {fqlawqhand : Addr} {odqlawqhand anqlawqhand : Option Addr} {slqlawqhand : Array (Option Value)} {ocqlawqhand kVqlawqhand dcqlawqhand pmqlawqhand cdqlawqhand ctqlawqhand : Value}
    {fqlawqdraw : Addr} {odqlawqdraw anqlawqdraw : Option Addr} {slqlawqdraw : Array (Option Value)} {ocqlawqdraw kVqlawqdraw dcqlawqdraw pmqlawqdraw cdqlawqdraw ctqlawqdraw : Value}
    {fqlawqcounts : Addr} {odqlawqcounts anqlawqcounts : Option Addr} {slqlawqcounts : Array (Option Value)} {ocqlawqcounts kVqlawqcounts dcqlawqcounts pmqlawqcounts cdqlawqcounts ctqlawqcounts : Value}
    {fqlawqweb : Addr} {odqlawqweb anqlawqweb : Option Addr} {slqlawqweb : Array (Option Value)} {ocqlawqweb kVqlawqweb dcqlawqweb pmqlawqweb cdqlawqweb ctqlawqweb : Value}
    {fqlawqodd : Addr} {odqlawqodd anqlawqodd : Option Addr} {slqlawqodd : Array (Option Value)} {ocqlawqodd kVqlawqodd dcqlawqodd pmqlawqodd cdqlawqodd ctqlawqodd : Value}
    {fqlawqisqnumber : Addr} {odqlawqisqnumber anqlawqisqnumber : Option Addr} {slqlawqisqnumber : Array (Option Value)} {ocqlawqisqnumber kVqlawqisqnumber dcqlawqisqnumber pmqlawqisqnumber cdqlawqisqnumber ctqlawqisqnumber : Value}
    {fqlawqareqroads : Addr} {odqlawqareqroads anqlawqareqroads : Option Addr} {slqlawqareqroads : Array (Option Value)} {ocqlawqareqroads kVqlawqareqroads dcqlawqareqroads pmqlawqareqroads cdqlawqareqroads ctqlawqareqroads : Value}
    {fqlawqareqcounts : Addr} {odqlawqareqcounts anqlawqareqcounts : Option Addr} {slqlawqareqcounts : Array (Option Value)} {ocqlawqareqcounts kVqlawqareqcounts dcqlawqareqcounts pmqlawqareqcounts cdqlawqareqcounts ctqlawqareqcounts : Value}
    {fqlawqdue : Addr} {odqlawqdue anqlawqdue : Option Addr} {slqlawqdue : Array (Option Value)} {ocqlawqdue kVqlawqdue dcqlawqdue pmqlawqdue cdqlawqdue ctqlawqdue : Value}
    {fqlawqspoiledqroads : Addr} {odqlawqspoiledqroads anqlawqspoiledqroads : Option Addr} {slqlawqspoiledqroads : Array (Option Value)} {ocqlawqspoiledqroads kVqlawqspoiledqroads dcqlawqspoiledqroads pmqlawqspoiledqroads cdqlawqspoiledqroads ctqlawqspoiledqroads : Value}
    {fqlawqspoiledqcounts : Addr} {odqlawqspoiledqcounts anqlawqspoiledqcounts : Option Addr} {slqlawqspoiledqcounts : Array (Option Value)} {ocqlawqspoiledqcounts kVqlawqspoiledqcounts dcqlawqspoiledqcounts pmqlawqspoiledqcounts cdqlawqspoiledqcounts ctqlawqspoiledqcounts : Value}
    {flaw : Addr} {odlaw anlaw : Option Addr} {sllaw : Array (Option Value)} {oclaw kVlaw dclaw pmlaw cdlaw ctlaw : Value}
    {tMOSTqHOUSES : Tok}
    {tMOSTqROADS : Tok}
    {tMOSTqROOMS : Tok}
    {tLONGESTqTIME : Tok}
    {CWWeb fWWeb : Addr} {odWWeb anWWeb : Option Addr} {slWWeb : Array (Option Value)} {ocWWeb kVWWeb dcWWeb pmWWeb cdWWeb ctWWeb : Value}
    {CXBadWeb fXBadWeb : Addr} {odXBadWeb anXBadWeb : Option Addr} {slXBadWeb : Array (Option Value)} {ocXBadWeb kVXBadWeb dcXBadWeb pmXBadWeb cdXBadWeb ctXBadWeb : Value} {nmXBadWeb qnXBadWeb : Str} {NXBadWeb : Addr} {bsXBadWeb bmXBadWeb : List Value} {snXBadWeb : List Str} {subXBadWeb : List Value} {abXBadWeb : Bool} {colXBadWeb : Option Bool} {ddXBadWeb : Option Addr} {m0XBadWeb m1XBadWeb m2XBadWeb m3XBadWeb m5XBadWeb : Option Value}
    (aisqinteger : PySem.W.nsIn K mainGlobals "is_integer" = some (some (.ref fisqinteger)))
    (lisqinteger : K.lookup fisqinteger = some ⟨ocisqinteger, odisqinteger, .func (PySem.W.fnOf "is_integer" "is_integer" (defArgs s_is_integer) (defBody s_is_integer) (defScope s_is_integer) .none kVisqinteger dcisqinteger pmisqinteger anisqinteger cdisqinteger ctisqinteger), slisqinteger⟩)
    (cisqinteger : PySem.W.codeIn K cdisqinteger "is_integer" = true)
    (kisqinteger : PySem.W.keepIn K (.ref fisqinteger) = true)
    (aisqbetween : PySem.W.nsIn K mainGlobals "is_between" = some (some (.ref fisqbetween)))
    (lisqbetween : K.lookup fisqbetween = some ⟨ocisqbetween, odisqbetween, .func (PySem.W.fnOf "is_between" "is_between" (defArgs s_is_between) (defBody s_is_between) (defScope s_is_between) .none kVisqbetween dcisqbetween pmisqbetween anisqbetween cdisqbetween ctisqbetween), slisqbetween⟩)
    (cisqbetween : PySem.W.codeIn K cdisqbetween "is_between" = true)
    (kisqbetween : PySem.W.keepIn K (.ref fisqbetween) = true)
    (aisqtuple : PySem.W.nsIn K mainGlobals "is_tuple" = some (some (.ref fisqtuple)))
    (lisqtuple : K.lookup fisqtuple = some ⟨ocisqtuple, odisqtuple, .func (PySem.W.fnOf "is_tuple" "is_tuple" (defArgs s_is_tuple) (defBody s_is_tuple) (defScope s_is_tuple) .none kVisqtuple dcisqtuple pmisqtuple anisqtuple cdisqtuple ctisqtuple), slisqtuple⟩)
    (cisqtuple : PySem.W.codeIn K cdisqtuple "is_tuple" = true)
    (kisqtuple : PySem.W.keepIn K (.ref fisqtuple) = true)
    (aareqintegers : PySem.W.nsIn K mainGlobals "are_integers" = some (some (.ref fareqintegers)))
    (lareqintegers : K.lookup fareqintegers = some ⟨ocareqintegers, odareqintegers, .func (PySem.W.fnOf "are_integers" "are_integers" (defArgs s_are_integers) (defBody s_are_integers) (defScope s_are_integers) .none kVareqintegers dcareqintegers pmareqintegers anareqintegers cdareqintegers ctareqintegers), slareqintegers⟩)
    (careqintegers : PySem.W.codeIn K cdareqintegers "are_integers" = true)
    (kareqintegers : PySem.W.keepIn K (.ref fareqintegers) = true)
    (aareqbetween : PySem.W.nsIn K mainGlobals "are_between" = some (some (.ref fareqbetween)))
    (lareqbetween : K.lookup fareqbetween = some ⟨ocareqbetween, odareqbetween, .func (PySem.W.fnOf "are_between" "are_between" (defArgs s_are_between) (defBody s_are_between) (defScope s_are_between) .none kVareqbetween dcareqbetween pmareqbetween anareqbetween cdareqbetween ctareqbetween), slareqbetween⟩)
    (careqbetween : PySem.W.codeIn K cdareqbetween "are_between" = true)
    (kareqbetween : PySem.W.keepIn K (.ref fareqbetween) = true)
    (aareqroads : PySem.W.nsIn K mainGlobals "are_roads" = some (some (.ref fareqroads)))
    (lareqroads : K.lookup fareqroads = some ⟨ocareqroads, odareqroads, .func (PySem.W.fnOf "are_roads" "are_roads" (defArgs s_are_roads) (defBody s_are_roads) (defScope s_are_roads) .none kVareqroads dcareqroads pmareqroads anareqroads cdareqroads ctareqroads), slareqroads⟩)
    (careqroads : PySem.W.codeIn K cdareqroads "are_roads" = true)
    (kareqroads : PySem.W.keepIn K (.ref fareqroads) = true)
    (aisqbeginqandqend : PySem.W.nsIn K mainGlobals "is_begin_and_end" = some (some (.ref fisqbeginqandqend)))
    (lisqbeginqandqend : K.lookup fisqbeginqandqend = some ⟨ocisqbeginqandqend, odisqbeginqandqend, .func (PySem.W.fnOf "is_begin_and_end" "is_begin_and_end" (defArgs s_is_begin_and_end) (defBody s_is_begin_and_end) (defScope s_is_begin_and_end) .none kVisqbeginqandqend dcisqbeginqandqend pmisqbeginqandqend anisqbeginqandqend cdisqbeginqandqend ctisqbeginqandqend), slisqbeginqandqend⟩)
    (cisqbeginqandqend : PySem.W.codeIn K cdisqbeginqandqend "is_begin_and_end" = true)
    (kisqbeginqandqend : PySem.W.keepIn K (.ref fisqbeginqandqend) = true)
    (aqlawqhand : PySem.W.nsIn K mainGlobals "_law_hand" = some (some (.ref fqlawqhand)))
    (lqlawqhand : K.lookup fqlawqhand = some ⟨ocqlawqhand, odqlawqhand, .func (PySem.W.fnOf "_law_hand" "_law_hand" (defArgs s_law_hand) (defBody s_law_hand) (defScope s_law_hand) .none kVqlawqhand dcqlawqhand pmqlawqhand anqlawqhand cdqlawqhand ctqlawqhand), slqlawqhand⟩)
    (cqlawqhand : PySem.W.codeIn K cdqlawqhand "_law_hand" = true)
    (kqlawqhand : PySem.W.keepIn K (.ref fqlawqhand) = true)
    (aqlawqdraw : PySem.W.nsIn K mainGlobals "_law_draw" = some (some (.ref fqlawqdraw)))
    (lqlawqdraw : K.lookup fqlawqdraw = some ⟨ocqlawqdraw, odqlawqdraw, .func (PySem.W.fnOf "_law_draw" "_law_draw" (defArgs s_law_draw) (defBody s_law_draw) (defScope s_law_draw) .none kVqlawqdraw dcqlawqdraw pmqlawqdraw anqlawqdraw cdqlawqdraw ctqlawqdraw), slqlawqdraw⟩)
    (cqlawqdraw : PySem.W.codeIn K cdqlawqdraw "_law_draw" = true)
    (kqlawqdraw : PySem.W.keepIn K (.ref fqlawqdraw) = true)
    (aqlawqcounts : PySem.W.nsIn K mainGlobals "_law_counts" = some (some (.ref fqlawqcounts)))
    (lqlawqcounts : K.lookup fqlawqcounts = some ⟨ocqlawqcounts, odqlawqcounts, .func (PySem.W.fnOf "_law_counts" "_law_counts" (defArgs s_law_counts) (defBody s_law_counts) (defScope s_law_counts) .none kVqlawqcounts dcqlawqcounts pmqlawqcounts anqlawqcounts cdqlawqcounts ctqlawqcounts), slqlawqcounts⟩)
    (cqlawqcounts : PySem.W.codeIn K cdqlawqcounts "_law_counts" = true)
    (kqlawqcounts : PySem.W.keepIn K (.ref fqlawqcounts) = true)
    (aqlawqweb : PySem.W.nsIn K mainGlobals "_law_web" = some (some (.ref fqlawqweb)))
    (lqlawqweb : K.lookup fqlawqweb = some ⟨ocqlawqweb, odqlawqweb, .func (PySem.W.fnOf "_law_web" "_law_web" (defArgs s_law_web) (defBody s_law_web) (defScope s_law_web) .none kVqlawqweb dcqlawqweb pmqlawqweb anqlawqweb cdqlawqweb ctqlawqweb), slqlawqweb⟩)
    (cqlawqweb : PySem.W.codeIn K cdqlawqweb "_law_web" = true)
    (kqlawqweb : PySem.W.keepIn K (.ref fqlawqweb) = true)
    (aqlawqodd : PySem.W.nsIn K mainGlobals "_law_odd" = some (some (.ref fqlawqodd)))
    (lqlawqodd : K.lookup fqlawqodd = some ⟨ocqlawqodd, odqlawqodd, .func (PySem.W.fnOf "_law_odd" "_law_odd" (defArgs s_law_odd) (defBody s_law_odd) (defScope s_law_odd) .none kVqlawqodd dcqlawqodd pmqlawqodd anqlawqodd cdqlawqodd ctqlawqodd), slqlawqodd⟩)
    (cqlawqodd : PySem.W.codeIn K cdqlawqodd "_law_odd" = true)
    (kqlawqodd : PySem.W.keepIn K (.ref fqlawqodd) = true)
    (aqlawqisqnumber : PySem.W.nsIn K mainGlobals "_law_is_number" = some (some (.ref fqlawqisqnumber)))
    (lqlawqisqnumber : K.lookup fqlawqisqnumber = some ⟨ocqlawqisqnumber, odqlawqisqnumber, .func (PySem.W.fnOf "_law_is_number" "_law_is_number" (defArgs s_law_is_number) (defBody s_law_is_number) (defScope s_law_is_number) .none kVqlawqisqnumber dcqlawqisqnumber pmqlawqisqnumber anqlawqisqnumber cdqlawqisqnumber ctqlawqisqnumber), slqlawqisqnumber⟩)
    (cqlawqisqnumber : PySem.W.codeIn K cdqlawqisqnumber "_law_is_number" = true)
    (kqlawqisqnumber : PySem.W.keepIn K (.ref fqlawqisqnumber) = true)
    (aqlawqareqroads : PySem.W.nsIn K mainGlobals "_law_are_roads" = some (some (.ref fqlawqareqroads)))
    (lqlawqareqroads : K.lookup fqlawqareqroads = some ⟨ocqlawqareqroads, odqlawqareqroads, .func (PySem.W.fnOf "_law_are_roads" "_law_are_roads" (defArgs s_law_are_roads) (defBody s_law_are_roads) (defScope s_law_are_roads) .none kVqlawqareqroads dcqlawqareqroads pmqlawqareqroads anqlawqareqroads cdqlawqareqroads ctqlawqareqroads), slqlawqareqroads⟩)
    (cqlawqareqroads : PySem.W.codeIn K cdqlawqareqroads "_law_are_roads" = true)
    (kqlawqareqroads : PySem.W.keepIn K (.ref fqlawqareqroads) = true)
    (aqlawqareqcounts : PySem.W.nsIn K mainGlobals "_law_are_counts" = some (some (.ref fqlawqareqcounts)))
    (lqlawqareqcounts : K.lookup fqlawqareqcounts = some ⟨ocqlawqareqcounts, odqlawqareqcounts, .func (PySem.W.fnOf "_law_are_counts" "_law_are_counts" (defArgs s_law_are_counts) (defBody s_law_are_counts) (defScope s_law_are_counts) .none kVqlawqareqcounts dcqlawqareqcounts pmqlawqareqcounts anqlawqareqcounts cdqlawqareqcounts ctqlawqareqcounts), slqlawqareqcounts⟩)
    (cqlawqareqcounts : PySem.W.codeIn K cdqlawqareqcounts "_law_are_counts" = true)
    (kqlawqareqcounts : PySem.W.keepIn K (.ref fqlawqareqcounts) = true)
    (aqlawqdue : PySem.W.nsIn K mainGlobals "_law_due" = some (some (.ref fqlawqdue)))
    (lqlawqdue : K.lookup fqlawqdue = some ⟨ocqlawqdue, odqlawqdue, .func (PySem.W.fnOf "_law_due" "_law_due" (defArgs s_law_due) (defBody s_law_due) (defScope s_law_due) .none kVqlawqdue dcqlawqdue pmqlawqdue anqlawqdue cdqlawqdue ctqlawqdue), slqlawqdue⟩)
    (cqlawqdue : PySem.W.codeIn K cdqlawqdue "_law_due" = true)
    (kqlawqdue : PySem.W.keepIn K (.ref fqlawqdue) = true)
    (aqlawqspoiledqroads : PySem.W.nsIn K mainGlobals "_law_spoiled_roads" = some (some (.ref fqlawqspoiledqroads)))
    (lqlawqspoiledqroads : K.lookup fqlawqspoiledqroads = some ⟨ocqlawqspoiledqroads, odqlawqspoiledqroads, .func (PySem.W.fnOf "_law_spoiled_roads" "_law_spoiled_roads" (defArgs s_law_spoiled_roads) (defBody s_law_spoiled_roads) (defScope s_law_spoiled_roads) .none kVqlawqspoiledqroads dcqlawqspoiledqroads pmqlawqspoiledqroads anqlawqspoiledqroads cdqlawqspoiledqroads ctqlawqspoiledqroads), slqlawqspoiledqroads⟩)
    (cqlawqspoiledqroads : PySem.W.codeIn K cdqlawqspoiledqroads "_law_spoiled_roads" = true)
    (kqlawqspoiledqroads : PySem.W.keepIn K (.ref fqlawqspoiledqroads) = true)
    (aqlawqspoiledqcounts : PySem.W.nsIn K mainGlobals "_law_spoiled_counts" = some (some (.ref fqlawqspoiledqcounts)))
    (lqlawqspoiledqcounts : K.lookup fqlawqspoiledqcounts = some ⟨ocqlawqspoiledqcounts, odqlawqspoiledqcounts, .func (PySem.W.fnOf "_law_spoiled_counts" "_law_spoiled_counts" (defArgs s_law_spoiled_counts) (defBody s_law_spoiled_counts) (defScope s_law_spoiled_counts) .none kVqlawqspoiledqcounts dcqlawqspoiledqcounts pmqlawqspoiledqcounts anqlawqspoiledqcounts cdqlawqspoiledqcounts ctqlawqspoiledqcounts), slqlawqspoiledqcounts⟩)
    (cqlawqspoiledqcounts : PySem.W.codeIn K cdqlawqspoiledqcounts "_law_spoiled_counts" = true)
    (kqlawqspoiledqcounts : PySem.W.keepIn K (.ref fqlawqspoiledqcounts) = true)
    (alaw : PySem.W.nsIn K mainGlobals "law" = some (some (.ref flaw)))
    (llaw : K.lookup flaw = some ⟨oclaw, odlaw, .func (PySem.W.fnOf "law" "law" (defArgs s_law) (defBody s_law) (defScope s_law) .none kVlaw dclaw pmlaw anlaw cdlaw ctlaw), sllaw⟩)
    (claw : PySem.W.codeIn K cdlaw "law" = true)
    (klaw : PySem.W.keepIn K (.ref flaw) = true)
    (aMOSTqHOUSES : PySem.W.nsIn K mainGlobals "MOST_HOUSES" = some (some (.int 12 tMOSTqHOUSES)))
    (aMOSTqROADS : PySem.W.nsIn K mainGlobals "MOST_ROADS" = some (some (.int 24 tMOSTqROADS)))
    (aMOSTqROOMS : PySem.W.nsIn K mainGlobals "MOST_ROOMS" = some (some (.int 3 tMOSTqROOMS)))
    (aLONGESTqTIME : PySem.W.nsIn K mainGlobals "LONGEST_TIME" = some (some (.int 3 tLONGESTqTIME)))
    (aWWeb : PySem.W.nsIn K mainGlobals "Web" = some (some (.ref CWWeb)))
    (iWWeb : PySem.W.findIn K (.ref CWWeb) "__init__" = some (some (.ref fWWeb)))
    (yWWeb : PySem.W.isFn K (.ref fWWeb) = true)
    (lWWeb : K.lookup fWWeb = some ⟨ocWWeb, odWWeb, .func (PySem.W.fnOf "__init__" "Web.__init__" (defArgs s_Web___init) (defBody s_Web___init) (defScope s_Web___init) .none kVWWeb dcWWeb pmWWeb anWWeb cdWWeb ctWWeb), slWWeb⟩)
    (cWWeb : PySem.W.codeIn K cdWWeb "Web.__init__" = true)
    (kWWeb : PySem.W.keepIn K (.ref fWWeb) = true)
    (pgWWeb : PySem.W.plainGet K CWWeb Str.empty = true)
    (hdWWeb : PySem.W.hasDictIn K CWWeb = true)
    (poWWeb : PySem.W.plainOver K CWWeb = true)
    (saWWeb : PySem.W.findIn K (.ref CWWeb) "__setattr__" = some (some (.builtin "object.__setattr__")))
    (mkWWeb : PySem.W.makesIn K CWWeb = true)
    (kcWWeb : PySem.W.keepIn K (.ref CWWeb) = true)
    (naWWebhouses : PySem.W.findIn K (.ref CWWeb) "houses" = some none)
    (naWWebroads : PySem.W.findIn K (.ref CWWeb) "roads" = some none)
    (naWWebrooms : PySem.W.findIn K (.ref CWWeb) "rooms" = some none)
    (naWWebtimes : PySem.W.findIn K (.ref CWWeb) "times" = some none)
    (aXBadWeb : PySem.W.nsIn K mainGlobals "BadWeb" = some (some (.ref CXBadWeb)))
    (xXBadWeb : K.lookup CXBadWeb = some (excClassObj nmXBadWeb qnXBadWeb CXBadWeb NXBadWeb bsXBadWeb bmXBadWeb true snXBadWeb subXBadWeb abXBadWeb colXBadWeb ddXBadWeb m0XBadWeb m1XBadWeb m2XBadWeb m3XBadWeb m5XBadWeb "ValueError.__new__"))
    (bmXBadWebo : PySem.HandSPX.refsVE bmXBadWeb = true)
    (saXBadWeb : PySem.W.findIn K (.ref CXBadWeb) "__setattr__" = some (some (.builtin "object.__setattr__")))
    (gaXBadWeb : PySem.W.findIn K (.ref CXBadWeb) "__getattribute__" = some (some (.builtin "BaseException.__getattribute__")))
    (ggXBadWeb : PySem.W.findIn K (.ref CXBadWeb) "__getattr__" = some none)
    (iXBadWeb : PySem.W.findIn K (.ref CXBadWeb) "__init__" = some (some (.ref fXBadWeb)))
    (yXBadWeb : PySem.W.typeIn K (.ref fXBadWeb) = some (.type "function"))
    (lXBadWeb : K.lookup fXBadWeb = some ⟨ocXBadWeb, odXBadWeb, .func (PySem.W.fnOf "__init__" "BadWeb.__init__" (defArgs s_BadWeb___init) (defBody s_BadWeb___init) (defScope s_BadWeb___init) .none kVXBadWeb dcXBadWeb pmXBadWeb anXBadWeb cdXBadWeb ctXBadWeb), slXBadWeb⟩)
    (cXBadWeb : PySem.W.codeIn K cdXBadWeb "BadWeb.__init__" = true)
    (kXBadWeb : PySem.W.keepIn K (.ref fXBadWeb) = true)
    (kcXBadWeb : PySem.W.keepIn K (.ref CXBadWeb) = true)
    (exXBadWeb : PySem.W.subIn K (.ref CXBadWeb) (.type "BaseException") = some true)
    (tyXBadWeb : PySem.W.typeIn K (.ref CXBadWeb) = some (.type "type"))
    (hdXBadWeb : PySem.W.hasDictIn K CXBadWeb = true)
    (icXBadWeb : PySem.W.isClsIn K CXBadWeb = true)
    (suXBadWeb : PySem.W.subIn K (.ref CXBadWeb) (.ref CXBadWeb) = some true)
    (naXBadWebpart : PySem.W.findIn K (.ref CXBadWeb) "part" = some none)
    (anqisinstance : PySem.W.nsIn K mainGlobals "isinstance" = some none)
    (anqint : PySem.W.nsIn K mainGlobals "int" = some none)
    (anqbool : PySem.W.nsIn K mainGlobals "bool" = some none)
    (anqtuple : PySem.W.nsIn K mainGlobals "tuple" = some none)
    (anqlen : PySem.W.nsIn K mainGlobals "len" = some none)
    (anqall : PySem.W.nsIn K mainGlobals "all" = some none)
    (anqabs : PySem.W.nsIn K mainGlobals "abs" = some none)
    (anqrange : PySem.W.nsIn K mainGlobals "range" = some none)
    (anqlist : PySem.W.nsIn K mainGlobals "list" = some none) :
    ∃ T : Tx K mg, ∀ (s : Shared) (v : Value), BindsTo s T.law.fd ⟨[v], []⟩ [("_law_script", v)] := by
  refine ⟨{
    is_integer := ⟨fisqinteger, _, fun_mk (st := s_is_integer) lisqinteger cisqinteger kisqinteger, PySem.W.mg_of X G aisqinteger, (fun_mk (st := s_is_integer) lisqinteger cisqinteger kisqinteger).binds (fun _ _ _ _ _ _ us hl => match us, hl with | [_], _ => rfl)⟩
    is_between := ⟨fisqbetween, _, fun_mk (st := s_is_between) lisqbetween cisqbetween kisqbetween, PySem.W.mg_of X G aisqbetween, (fun_mk (st := s_is_between) lisqbetween cisqbetween kisqbetween).binds (fun _ _ _ _ _ _ us hl => match us, hl with | [_, _, _], _ => rfl)⟩
    is_tuple := ⟨fisqtuple, _, fun_mk (st := s_is_tuple) lisqtuple cisqtuple kisqtuple, PySem.W.mg_of X G aisqtuple, (fun_mk (st := s_is_tuple) lisqtuple cisqtuple kisqtuple).binds (fun _ _ _ _ _ _ us hl => match us, hl with | [_, _], _ => rfl)⟩
    are_integers := ⟨fareqintegers, _, fun_mk (st := s_are_integers) lareqintegers careqintegers kareqintegers, PySem.W.mg_of X G aareqintegers, (fun_mk (st := s_are_integers) lareqintegers careqintegers kareqintegers).binds (fun _ _ _ _ _ _ us hl => match us, hl with | [_, _], _ => rfl)⟩
    are_between := ⟨fareqbetween, _, fun_mk (st := s_are_between) lareqbetween careqbetween kareqbetween, PySem.W.mg_of X G aareqbetween, (fun_mk (st := s_are_between) lareqbetween careqbetween kareqbetween).binds (fun _ _ _ _ _ _ us hl => match us, hl with | [_, _, _, _], _ => rfl)⟩
    are_roads := ⟨fareqroads, _, fun_mk (st := s_are_roads) lareqroads careqroads kareqroads, PySem.W.mg_of X G aareqroads, (fun_mk (st := s_are_roads) lareqroads careqroads kareqroads).binds (fun _ _ _ _ _ _ us hl => match us, hl with | [_, _], _ => rfl)⟩
    is_begin_and_end := ⟨fisqbeginqandqend, _, fun_mk (st := s_is_begin_and_end) lisqbeginqandqend cisqbeginqandqend kisqbeginqandqend, PySem.W.mg_of X G aisqbeginqandqend, (fun_mk (st := s_is_begin_and_end) lisqbeginqandqend cisqbeginqandqend kisqbeginqandqend).binds (fun _ _ _ _ _ _ us hl => match us, hl with | [_, _], _ => rfl)⟩
    _law_hand := ⟨fqlawqhand, _, fun_mk (st := s_law_hand) lqlawqhand cqlawqhand kqlawqhand, PySem.W.mg_of X G aqlawqhand, (fun_mk (st := s_law_hand) lqlawqhand cqlawqhand kqlawqhand).binds (fun _ _ _ _ _ _ us hl => match us, hl with | [_], _ => rfl)⟩
    _law_draw := ⟨fqlawqdraw, _, fun_mk (st := s_law_draw) lqlawqdraw cqlawqdraw kqlawqdraw, PySem.W.mg_of X G aqlawqdraw, (fun_mk (st := s_law_draw) lqlawqdraw cqlawqdraw kqlawqdraw).binds (fun _ _ _ _ _ _ us hl => match us, hl with | [_, _], _ => rfl)⟩
    _law_counts := ⟨fqlawqcounts, _, fun_mk (st := s_law_counts) lqlawqcounts cqlawqcounts kqlawqcounts, PySem.W.mg_of X G aqlawqcounts, (fun_mk (st := s_law_counts) lqlawqcounts cqlawqcounts kqlawqcounts).binds (fun _ _ _ _ _ _ us hl => match us, hl with | [_, _], _ => rfl)⟩
    _law_web := ⟨fqlawqweb, _, fun_mk (st := s_law_web) lqlawqweb cqlawqweb kqlawqweb, PySem.W.mg_of X G aqlawqweb, (fun_mk (st := s_law_web) lqlawqweb cqlawqweb kqlawqweb).binds (fun _ _ _ _ _ _ us hl => match us, hl with | [_, _, _], _ => rfl)⟩
    _law_odd := ⟨fqlawqodd, _, fun_mk (st := s_law_odd) lqlawqodd cqlawqodd kqlawqodd, PySem.W.mg_of X G aqlawqodd, (fun_mk (st := s_law_odd) lqlawqodd cqlawqodd kqlawqodd).binds (fun _ _ _ _ _ _ us hl => match us, hl with | [_], _ => rfl)⟩
    _law_is_number := ⟨fqlawqisqnumber, _, fun_mk (st := s_law_is_number) lqlawqisqnumber cqlawqisqnumber kqlawqisqnumber, PySem.W.mg_of X G aqlawqisqnumber, (fun_mk (st := s_law_is_number) lqlawqisqnumber cqlawqisqnumber kqlawqisqnumber).binds (fun _ _ _ _ _ _ us hl => match us, hl with | [_, _, _], _ => rfl)⟩
    _law_are_roads := ⟨fqlawqareqroads, _, fun_mk (st := s_law_are_roads) lqlawqareqroads cqlawqareqroads kqlawqareqroads, PySem.W.mg_of X G aqlawqareqroads, (fun_mk (st := s_law_are_roads) lqlawqareqroads cqlawqareqroads kqlawqareqroads).binds (fun _ _ _ _ _ _ us hl => match us, hl with | [_, _], _ => rfl)⟩
    _law_are_counts := ⟨fqlawqareqcounts, _, fun_mk (st := s_law_are_counts) lqlawqareqcounts cqlawqareqcounts kqlawqareqcounts, PySem.W.mg_of X G aqlawqareqcounts, (fun_mk (st := s_law_are_counts) lqlawqareqcounts cqlawqareqcounts kqlawqareqcounts).binds (fun _ _ _ _ _ _ us hl => match us, hl with | [_, _], _ => rfl)⟩
    _law_due := ⟨fqlawqdue, _, fun_mk (st := s_law_due) lqlawqdue cqlawqdue kqlawqdue, PySem.W.mg_of X G aqlawqdue, (fun_mk (st := s_law_due) lqlawqdue cqlawqdue kqlawqdue).binds (fun _ _ _ _ _ _ us hl => match us, hl with | [_, _, _, _], _ => rfl)⟩
    _law_spoiled_roads := ⟨fqlawqspoiledqroads, _, fun_mk (st := s_law_spoiled_roads) lqlawqspoiledqroads cqlawqspoiledqroads kqlawqspoiledqroads, PySem.W.mg_of X G aqlawqspoiledqroads, (fun_mk (st := s_law_spoiled_roads) lqlawqspoiledqroads cqlawqspoiledqroads kqlawqspoiledqroads).binds (fun _ _ _ _ _ _ us hl => match us, hl with | [_, _, _], _ => rfl)⟩
    _law_spoiled_counts := ⟨fqlawqspoiledqcounts, _, fun_mk (st := s_law_spoiled_counts) lqlawqspoiledqcounts cqlawqspoiledqcounts kqlawqspoiledqcounts, PySem.W.mg_of X G aqlawqspoiledqcounts, (fun_mk (st := s_law_spoiled_counts) lqlawqspoiledqcounts cqlawqspoiledqcounts kqlawqspoiledqcounts).binds (fun _ _ _ _ _ _ us hl => match us, hl with | [_, _], _ => rfl)⟩
    law := ⟨flaw, _, fun_mk (st := s_law) llaw claw klaw, PySem.W.mg_of X G alaw, (fun_mk (st := s_law) llaw claw klaw).binds (fun _ _ _ _ _ _ us hl => match us, hl with | [_], _ => rfl)⟩
    c_MOST_HOUSES := ⟨_, PySem.W.mg_of X G aMOSTqHOUSES⟩
    c_MOST_ROADS := ⟨_, PySem.W.mg_of X G aMOSTqROADS⟩
    c_MOST_ROOMS := ⟨_, PySem.W.mg_of X G aMOSTqROOMS⟩
    c_LONGEST_TIME := ⟨_, PySem.W.mg_of X G aLONGESTqTIME⟩
    Web := ⟨CWWeb, fWWeb, _, fun_mk (st := s_Web___init) lWWeb cWWeb kWWeb, PySem.W.mg_of X G aWWeb, (fun_mk (st := s_Web___init) lWWeb cWWeb kWWeb).binds (fun _ _ _ _ _ _ us hl => match us, hl with | [_, _, _, _, _], _ => rfl), ⟨mkWWeb, iWWeb, yWWeb, kcWWeb⟩, ⟨pgWWeb, hdWWeb, poWWeb, saWWeb⟩, by intro x hx; simp only [List.mem_cons, List.not_mem_nil, or_false] at hx; rcases hx with rfl | rfl | rfl | rfl <;> assumption⟩
    x_BadWeb := ⟨CXBadWeb, fXBadWeb, _, fun_mk (st := s_BadWeb___init) lXBadWeb cXBadWeb kXBadWeb, PySem.W.mg_of X G aXBadWeb, (fun_mk (st := s_BadWeb___init) lXBadWeb cXBadWeb kXBadWeb).binds (fun _ _ _ _ _ _ us hl => match us, hl with | [_, _], _ => rfl), ⟨⟨_, _, _, _, _, _, _, _, _, _, _, _, _, _, _, xXBadWeb, bmXBadWebo⟩, saXBadWeb, exXBadWeb, tyXBadWeb, kcXBadWeb⟩, iXBadWeb, yXBadWeb, ⟨gaXBadWeb, ggXBadWeb, exXBadWeb, hdXBadWeb⟩, exm_self exXBadWeb icXBadWeb tyXBadWeb suXBadWeb, (fun x hx => by simp only [List.mem_cons, List.not_mem_nil, or_false] at hx; rcases hx with rfl <;> assumption)⟩
    n_isinstance := PySem.W.mg_none_of X G anqisinstance
    n_int := PySem.W.mg_none_of X G anqint
    n_bool := PySem.W.mg_none_of X G anqbool
    n_tuple := PySem.W.mg_none_of X G anqtuple
    n_len := PySem.W.mg_none_of X G anqlen
    n_all := PySem.W.mg_none_of X G anqall
    n_abs := PySem.W.mg_none_of X G anqabs
    n_range := PySem.W.mg_none_of X G anqrange
    n_list := PySem.W.mg_none_of X G anqlist
  }, fun s v => .of_eq rfl⟩

theorem fin {l : PySem.W.OpenLaw} {w : World} {K : PySem.W.Frag} {mg : Str → Option Value} {fa : Addr} (hfa : mg "law" = some (.ref fa)) (h : ∃ T : Tx K mg, ∀ (s : Shared) (v : Value), BindsTo s T.law.fd ⟨[v], []⟩ [("_law_script", v)]) :
    ∃ fd : FuncData, (∀ (s : Shared) (v : Value), BindsTo s fd ⟨[v], []⟩ [("_law_script", v)]) ∧ ∀ base : Heap, K.In base → base.Ns mainGlobals mg → FnOk l.prog w K mg base CX0 9 fa fd ["_law_script"] (spLaw K) := by
  obtain ⟨T, b⟩ := h
  have e := hfa.symm.trans T.law.g
  cases e
  exact ⟨T.law.fd, b, fun base _ _ => ok_law T⟩
theorem walk {l : PySem.W.OpenLaw} {q : Program} {loose : List Str} {XP : (Str → Option Value) → Heap → Prop} {YP : World → Heap → Prop} {d : DefRec} {K : Params → PySem.W.Frag} (hn : l.most = some 63) (hdf : d.params.defaults = [])
    (hY : ∀ (w : World) (h : Heap), YP w h → (K w.params).In h)
    (F : ∀ (w : World) (mg : Str → Option Value) (fa : Addr) (h : Heap), (K w.params).In h → h.Ns mainGlobals mg → mg d.name = some (.ref fa) →
      ∃ fd : FuncData, (∀ (s : Shared) (u : Value), BindsTo s fd ⟨[u], []⟩ [("_law_script", u)]) ∧ ∀ base : Heap, (K w.params).In base → base.Ns mainGlobals mg → FnOk l.prog w (K w.params) mg base CX0 9 fa fd ["_law_script"] (spLaw (K w.params))) :
    PySem.W.WalkO q loose XP YP l.row.toRowW d [] (fun f vs => PySem.call f vs) :=
  L2.walk_of (n := 63) (k := 9) (x := "_law_script") (CX := fun _ => CX0) (sp := fun w => spLaw (K w.params)) hn (by decide) hdf ⟨rfl, by decide, by decide⟩ hY F (fun _ _ a ns hl _ hS => ⟨a, ns, rfl, hS, hl, fun _ => rfl⟩) fun _ _ _ _ _ z => z
end Hc

set_option Elab.async false
set_option linter.all false
open PySem PySem.W PyProof.Rows
set_option maxRecDepth 100000 in
set_option maxHeartbeats 0 in
theorem PySem.Challenge.cw_hourcards_k00_webs_judged_holds : PySem.Challenge.rw_hourcards_k00_webs_judged.Holds := by
  w_on; o_law; k_head; (case hw => w_witness2)
  k_fill
  refine Hc.walk (l := PySem.Challenge.rw_hourcards_k00_webs_judged) rfl rfl (fun w h Y => PySem.W.kIn_of Y) ?F
  case F =>
    intro w mg fa h KX G hmg
    refine Hc.fin hmg ?T
    refine' Hc.tx_mk KX G ?aisqinteger ?lisqinteger ?cisqinteger ?kisqinteger ?aisqbetween ?lisqbetween ?cisqbetween ?kisqbetween ?aisqtuple ?lisqtuple ?cisqtuple ?kisqtuple ?aareqintegers ?lareqintegers ?careqintegers ?kareqintegers ?aareqbetween ?lareqbetween ?careqbetween ?kareqbetween ?aareqroads ?lareqroads ?careqroads ?kareqroads ?aisqbeginqandqend ?lisqbeginqandqend ?cisqbeginqandqend ?kisqbeginqandqend ?aqlawqhand ?lqlawqhand ?cqlawqhand ?kqlawqhand ?aqlawqdraw ?lqlawqdraw ?cqlawqdraw ?kqlawqdraw ?aqlawqcounts ?lqlawqcounts ?cqlawqcounts ?kqlawqcounts ?aqlawqweb ?lqlawqweb ?cqlawqweb ?kqlawqweb ?aqlawqodd ?lqlawqodd ?cqlawqodd ?kqlawqodd ?aqlawqisqnumber ?lqlawqisqnumber ?cqlawqisqnumber ?kqlawqisqnumber ?aqlawqareqroads ?lqlawqareqroads ?cqlawqareqroads ?kqlawqareqroads ?aqlawqareqcounts ?lqlawqareqcounts ?cqlawqareqcounts ?kqlawqareqcounts ?aqlawqdue ?lqlawqdue ?cqlawqdue ?kqlawqdue ?aqlawqspoiledqroads ?lqlawqspoiledqroads ?cqlawqspoiledqroads ?kqlawqspoiledqroads ?aqlawqspoiledqcounts ?lqlawqspoiledqcounts ?cqlawqspoiledqcounts ?kqlawqspoiledqcounts ?alaw ?llaw ?claw ?klaw ?aMOSTqHOUSES ?aMOSTqROADS ?aMOSTqROOMS ?aLONGESTqTIME ?aWWeb ?iWWeb ?yWWeb ?lWWeb ?cWWeb ?kWWeb ?pgWWeb ?hdWWeb ?poWWeb ?saWWeb ?mkWWeb ?kcWWeb ?naWWebhouses ?naWWebroads ?naWWebrooms ?naWWebtimes ?aXBadWeb ?xXBadWeb ?bmXBadWebo ?saXBadWeb ?gaXBadWeb ?ggXBadWeb ?iXBadWeb ?yXBadWeb ?lXBadWeb ?cXBadWeb ?kXBadWeb ?kcXBadWeb ?exXBadWeb ?tyXBadWeb ?hdXBadWeb ?icXBadWeb ?suXBadWeb ?naXBadWebpart ?anqisinstance ?anqint ?anqbool ?anqtuple ?anqlen ?anqall ?anqabs ?anqrange ?anqlist
    (case aisqinteger => k_is)
    (case lisqinteger => k_is)
    (case cisqinteger => k_is)
    (case kisqinteger => k_is)
    (case aisqbetween => k_is)
    (case lisqbetween => k_is)
    (case cisqbetween => k_is)
    (case kisqbetween => k_is)
    (case aisqtuple => k_is)
    (case lisqtuple => k_is)
    (case cisqtuple => k_is)
    (case kisqtuple => k_is)
    (case aareqintegers => k_is)
    (case lareqintegers => k_is)
    (case careqintegers => k_is)
    (case kareqintegers => k_is)
    (case aareqbetween => k_is)
    (case lareqbetween => k_is)
    (case careqbetween => k_is)
    (case kareqbetween => k_is)
    (case aareqroads => k_is)
    (case lareqroads => k_is)
    (case careqroads => k_is)
    (case kareqroads => k_is)
    (case aisqbeginqandqend => k_is)
    (case lisqbeginqandqend => k_is)
    (case cisqbeginqandqend => k_is)
    (case kisqbeginqandqend => k_is)
    (case aqlawqhand => k_is)
    (case lqlawqhand => k_is)
    (case cqlawqhand => k_is)
    (case kqlawqhand => k_is)
    (case aqlawqdraw => k_is)
    (case lqlawqdraw => k_is)
    (case cqlawqdraw => k_is)
    (case kqlawqdraw => k_is)
    (case aqlawqcounts => k_is)
    (case lqlawqcounts => k_is)
    (case cqlawqcounts => k_is)
    (case kqlawqcounts => k_is)
    (case aqlawqweb => k_is)
    (case lqlawqweb => k_is)
    (case cqlawqweb => k_is)
    (case kqlawqweb => k_is)
    (case aqlawqodd => k_is)
    (case lqlawqodd => k_is)
    (case cqlawqodd => k_is)
    (case kqlawqodd => k_is)
    (case aqlawqisqnumber => k_is)
    (case lqlawqisqnumber => k_is)
    (case cqlawqisqnumber => k_is)
    (case kqlawqisqnumber => k_is)
    (case aqlawqareqroads => k_is)
    (case lqlawqareqroads => k_is)
    (case cqlawqareqroads => k_is)
    (case kqlawqareqroads => k_is)
    (case aqlawqareqcounts => k_is)
    (case lqlawqareqcounts => k_is)
    (case cqlawqareqcounts => k_is)
    (case kqlawqareqcounts => k_is)
    (case aqlawqdue => k_is)
    (case lqlawqdue => k_is)
    (case cqlawqdue => k_is)
    (case kqlawqdue => k_is)
    (case aqlawqspoiledqroads => k_is)
    (case lqlawqspoiledqroads => k_is)
    (case cqlawqspoiledqroads => k_is)
    (case kqlawqspoiledqroads => k_is)
    (case aqlawqspoiledqcounts => k_is)
    (case lqlawqspoiledqcounts => k_is)
    (case cqlawqspoiledqcounts => k_is)
    (case kqlawqspoiledqcounts => k_is)
    (case alaw => k_is)
    (case llaw => k_is)
    (case claw => k_is)
    (case klaw => k_is)
    (case aMOSTqHOUSES => k_is)
    (case aMOSTqROADS => k_is)
    (case aMOSTqROOMS => k_is)
    (case aLONGESTqTIME => k_is)
    (case aWWeb => k_is)
    (case iWWeb => k_is)
    (case yWWeb => k_is)
    (case lWWeb => k_is)
    (case cWWeb => k_is)
    (case kWWeb => k_is)
    (case pgWWeb => k_is)
    (case hdWWeb => k_is)
    (case poWWeb => k_is)
    (case saWWeb => k_is)
    (case mkWWeb => k_is)
    (case kcWWeb => k_is)
    (case naWWebhouses => k_is)
    (case naWWebroads => k_is)
    (case naWWebrooms => k_is)
    (case naWWebtimes => k_is)
    (case aXBadWeb => k_is)
    (case xXBadWeb => k_is)
    (case bmXBadWebo => decide +kernel)
    (case saXBadWeb => k_is)
    (case gaXBadWeb => k_is)
    (case ggXBadWeb => k_is)
    (case iXBadWeb => k_is)
    (case yXBadWeb => k_is)
    (case lXBadWeb => k_is)
    (case cXBadWeb => k_is)
    (case kXBadWeb => k_is)
    (case kcXBadWeb => k_is)
    (case exXBadWeb => k_is)
    (case tyXBadWeb => k_is)
    (case hdXBadWeb => k_is)
    (case icXBadWeb => k_is)
    (case suXBadWeb => first | rfl | k_is)
    (case naXBadWebpart => k_is)
    (case anqisinstance => k_is)
    (case anqint => k_is)
    (case anqbool => k_is)
    (case anqtuple => k_is)
    (case anqlen => k_is)
    (case anqall => k_is)
    (case anqabs => k_is)
    (case anqrange => k_is)
    (case anqlist => k_is)

