import PyProof.Rows.All
import Wide.All
import OpenK.AllK
import Wide.FinOn
import HandS.ForMost
import HandS.IsInst
import HandS.TupMul
import HandS.TupAny
import HandS.Exc
import HandS.ExcOwn
import HandS.ExcInit
import HandS.ExcField
import HandS.TryOnly
import HandS.WordsExc
import HandS.EndBits
import HandS.CallSlots
import PyProof.Rows.IntBool
import HandS.Iter
import HandS.Zip
import PyProof.EnumMake
import PyProof.EnumIter
import PyProof.EnumFor
import PyProof.Draws
import KE.GoesMore
import HandS.TryMany
import HandS.ExcIs
import HandS.SetFor
import HandS.Strs
import HandS.Style
import HandS.Conv
import PyProof.Rows.SortShell
import HandS.Codes
import PySem.Challenge.RW_hourcards_k02_roads_ways_and_lots
set_option Elab.async false
set_option linter.all false
set_option maxRecDepth 100000
set_option maxHeartbeats 4000000
namespace Hc
open PySem L2
/-- things, as far as they are looked into -/
inductive D where
  | non | bl (b : Bool) | int (i : Int) | str (s : Str) | tup (xs : List D) | lst | dct
def tyOf : D → String
  | .non => "NoneType" | .bl _ => "bool" | .int _ => "int" | .str _ => "str" | .tup _ => "tuple" | .lst => "list" | .dct => "dict"
section
variable (H : Hp) (h : Addr)
mutual
/-- v is the thing d, in the heap H, apart from the list at h -/
inductive Rp : V → D → Prop
  | non : Rp .non .non
  | bl (b : Bool) : Rp (.bl b) (.bl b)
  | int (i : Int) : Rp (.int i) (.int i)
  | str (x : Str) : Rp (.str x) (.str x)
  | tup {a : Addr} {xs : List V} {ds : List D} : H a = some (.tup xs) → xs.length ≤ 100000 → RpA xs ds → Rp (.ref a) (.tup ds)
  | lst {a : Addr} {xs : List V} : H a = some (.lst xs) → a ≠ h → Rp (.ref a) .lst
  | dct {a : Addr} {kvs : List (Key × V)} : H a = some (.dK kvs) → Rp (.ref a) .dct
inductive RpA : List V → List D → Prop
  | nil : RpA [] []
  | cons {v : V} {vs : List V} {d : D} {ds : List D} : Rp v d → RpA vs ds → RpA (v :: vs) (d :: ds)
end
end
/-- all but what stands at h is as it was -/
def But (h : Addr) (H H' : Hp) : Prop := ∀ b o, H b = some o → b ≠ h → H' b = some o
theorem But.refl (h : Addr) (H : Hp) : But h H H := fun _ _ e _ => e
theorem But.trans {h : Addr} {H H1 H2 : Hp} (a : But h H H1) (b : But h H1 H2) : But h H H2 := fun c o e n => b c o (a c o e n) n
theorem But.of {h : Addr} {H H' : Hp} (s : Same H H') : But h H H' := fun b o e _ => s b o e
theorem But.free {h : Addr} {H H' : Hp} (k : But h H H') {l : Addr} (hl : l ≠ h) (e : H' l = none) : H l = none := by
  cases q : H l with
  | none => rfl
  | some o => rw [k l o q hl] at e; cases e
theorem same_upd {H : Hp} {p : Addr} {o : HO} (hp : H p = none) : Same H (upd H p o) := fun b u e => by
  rw [upd_ne (ne_of_none e hp)]; exact e
theorem but_upd {H : Hp} {h : Addr} {o : HO} : But h H (upd H h o) := fun b u e n => by
  rw [upd_ne n]; exact e
def IsLst (H : Hp) (h : Addr) : Prop := ∃ xs, H h = some (.lst xs)
section
variable {H H' : Hp} {h : Addr}
mutual
theorem Rp.mono (l : IsLst H h) (k : But h H H') : ∀ {v : V} {d : D}, Rp H h v d → Rp H' h v d
  | _, _, .non => .non
  | _, _, .bl b => .bl b
  | _, _, .int i => .int i
  | _, _, .str x => .str x
  | _, _, .tup e z r => .tup (k _ _ e (by obtain ⟨zs, q⟩ := l; exact ne_of e q (by intro z; cases z))) z (RpA.mono l k r)
  | _, _, .lst e n => .lst (k _ _ e n) n
  | _, _, .dct e => .dct (k _ _ e (by obtain ⟨zs, q⟩ := l; exact ne_of e q (by intro z; cases z)))
theorem RpA.mono (l : IsLst H h) (k : But h H H') : ∀ {vs : List V} {ds : List D}, RpA H h vs ds → RpA H' h vs ds
  | _, _, .nil => .nil
  | _, _, .cons a r => .cons (Rp.mono l k a) (RpA.mono l k r)
end
mutual
theorem Rp.same (k : Same H H') : ∀ {v : V} {d : D}, Rp H h v d → Rp H' h v d
  | _, _, .non => .non
  | _, _, .bl b => .bl b
  | _, _, .int i => .int i
  | _, _, .str x => .str x
  | _, _, .tup e z r => .tup (k _ _ e) z (RpA.same k r)
  | _, _, .lst e n => .lst (k _ _ e) n
  | _, _, .dct e => .dct (k _ _ e)
theorem RpA.same (k : Same H H') : ∀ {vs : List V} {ds : List D}, RpA H h vs ds → RpA H' h vs ds
  | _, _, .nil => .nil
  | _, _, .cons a r => .cons (Rp.same k a) (RpA.same k r)
end
theorem RpA.len : ∀ {vs : List V} {ds : List D}, RpA H h vs ds → vs.length = ds.length
  | _, _, .nil => rfl
  | _, _, .cons a r => by rw [List.length_cons, List.length_cons, RpA.len r]
theorem RpA.get : ∀ {vs : List V} {ds : List D} {i : Nat} {v : V}, RpA H h vs ds → vs[i]? = some v → ∃ d, ds[i]? = some d ∧ Rp H h v d
  | _, _, i, _, .nil, e => by simp at e
  | _, _, 0, _, .cons a r, e => by simp at e; subst e; exact ⟨_, rfl, a⟩
  | _, _, i + 1, v, .cons a r, e => by
    obtain ⟨d, h1, h2⟩ := RpA.get (i := i) (v := v) r (by simpa using e)
    exact ⟨d, by simpa using h1, h2⟩
theorem RpA.app : ∀ {vs ws : List V} {ds es : List D}, RpA H h vs ds → RpA H h ws es → RpA H h (vs ++ ws) (ds ++ es)
  | _, _, _, _, .nil, s => s
  | _, _, _, _, .cons a r, s => .cons a (RpA.app r s)
theorem RpA.take : ∀ {vs : List V} {ds : List D} (n : Nat), RpA H h vs ds → RpA H h (vs.take n) (ds.take n)
  | _, _, 0, _ => .nil
  | _, _, _ + 1, .nil => .nil
  | _, _, n + 1, .cons a r => .cons a (RpA.take n r)
theorem RpA.drop : ∀ {vs : List V} {ds : List D} (n : Nat), RpA H h vs ds → RpA H h (vs.drop n) (ds.drop n)
  | _, _, 0, r => r
  | _, _, _ + 1, .nil => .nil
  | _, _, n + 1, .cons _ r => RpA.drop n r
/-- its type -/
theorem Rp.ty {K : PySem.W.Frag} {v : V} {d : D} (r : Rp H h v d) : TyX K H v (.type (tyOf d)) := by
  cases r with
  | non => exact .base .non
  | bl b => exact .base (.bl b)
  | int i => exact .base (.int i)
  | str x => exact .base (.str x)
  | tup e _ _ => exact .base (.tup e)
  | lst e _ => exact .base (.lst e)
  | dct e => exact .base (.dK e)
end
def isIB : D → Bool | .int _ => true | .bl _ => true | _ => false
def isB : D → Bool | .bl _ => true | _ => false
def isT : D → Bool | .tup _ => true | _ => false
theorem kitI (d : D) : kitB (tyOf d) "int" = some (isIB d) := by cases d <;> (simp only [tyOf, isIB]; decide +kernel)
theorem kitBo (d : D) : kitB (tyOf d) "bool" = some (isB d) := by cases d <;> (simp only [tyOf, isB]; decide +kernel)
theorem kitT (d : D) : kitB (tyOf d) "tuple" = some (isT d) := by cases d <;> (simp only [tyOf, isT]; decide +kernel)
def isInt : D → Bool | .int _ => true | _ => false
def isBtw (lo hi : Int) : D → Bool | .int i => decide (lo ≤ i) && decide (i ≤ hi) | _ => false
def areInts (n : Int) : D → Bool | .tup ds => decide ((ds.length : Int) = n) && ds.all isInt | _ => false
def areBtw (n lo hi : Int) : D → Bool | .tup ds => decide ((ds.length : Int) = n) && ds.all (isBtw lo hi) | _ => false
def neq2 : D → Bool | .tup (.int a :: .int b :: _) => !decide (a = b) | _ => false
def isBE (n : Int) (d : D) : Bool := areBtw 2 0 (n - 1) d && neq2 d
def areRoads (n : Int) : D → Bool | .tup ds => decide (1 ≤ ds.length) && decide (ds.length ≤ 24) && ds.all (isBE n) | _ => false
end Hc

set_option Elab.async false
set_option linter.all false
set_option maxRecDepth 100000
set_option maxHeartbeats 4000000
namespace L2
open PySem PySem.Spec PyProof.Rows
/-- x - j, x an int or a bool -/
def rSubA : R2 := fun x y H Q => (∃ i j, x = .int i ∧ y = .int j ∧ Q (.int (i - j)) H) ∨ ∃ b j, x = .bl b ∧ y = .int j ∧ Q (.int ((if b = true then (1 : Int) else 0) - j)) H
theorem op_subA {X : Cx} : OpR X (binaryOp .Sub) rSubA := by
  intro pins s σ H x y v u Q I rx ry h
  rcases h with ⟨i, j, rfl, rfl, q⟩ | ⟨b, j, rfl, rfl, q⟩
  · exact op_sub pins s σ H _ _ v u Q I rx ry ⟨i, j, rfl, rfl, q⟩
  · cases rx
    obtain ⟨t, rfl⟩ := ry
    exact PySem.IntBool.sub_bool_int ⟨.int _, H, I.tok _, ⟨_, rfl⟩, q⟩
/-- t * 1 is t -/
theorem tuple_mul1 (l : Addr) (items : Array Value) (n : Nat) (dd : Option Addr) (sl : Array (Option Value)) (u : Tok) :
    Meets (Builtin.«tuple.__mul__» ⟨[.ref l, .int 1 u], []⟩) (fun _ R s => s.heap.get? l = some { cls := .type "tuple", dict := dd, data := .seq items n, slots := sl } ∧
      R (.ok (.ret (Value.ref l))) s) :=
  .of_wp fun prog w A R s h => by
    obtain ⟨hp, g, d, tk, os⟩ := s
    obtain ⟨hl, h⟩ := h
    have f1 := AutoSeq1.idx_int
    have c0 : (decide ((1 : Int) < -(2 ^ 63)) || decide ((1 : Int) ≥ 2 ^ 63)) = false := by decide
    have c1 : (items.isEmpty || ((1 : Int) == 1)) = true := by rw [Bool.or_eq_true]; exact .inr rfl
    wp_walk using wpAny_loadPart' hl
    repeat (first
      | (refine wpAny_ite_false (decide_eq_false (by rw [c0]; exact Bool.false_ne_true)) ?_; wp_walk using wpAny_loadPart' hl)
      | (refine wpAny_ite_true (decide_eq_true c1) ?_; wp_walk using wpAny_loadPart' hl))
    exact ⟨_, rfl, h⟩
def rRepA (K : PySem.W.Frag) : R2 := fun x y H Q => ∃ l k xs, x = .ref l ∧ y = .int k ∧ SqT K H l xs ∧ xs ≠ [] ∧ 1 ≤ k ∧ k ≤ 1000 ∧ xs.length ≤ 1000 ∧
  (k = 1 → Q (.ref l) H) ∧ (2 ≤ k → ∀ p, H p = none → Q (.ref p) (upd H p (.tup (List.replicate k.toNat xs).flatten)))
theorem op_repA {X : Cx} : OpR X (binaryOp .Mult) (rRepA X.K) := by
  intro pins s σ H x y v u Q I rx ry h
  obtain ⟨l, k, xs, rfl, rfl, hT, hne, h1, h2, hz, q1, q2⟩ := h
  by_cases h3 : 2 ≤ k
  · exact op_repT pins s σ H _ _ v u Q I rx ry ⟨l, k, xs, rfl, rfl, hT, hne, h3, h2, hz, q2 h3⟩
  · obtain rfl : k = 1 := by omega
    cases rx
    obtain ⟨t, rfl⟩ := ry
    obtain ⟨its, r, ⟨⟨cls, dd, data, sl⟩, ho, hc, n, hd⟩, hs⟩ := I.tuple hT
    simp only at hc hd
    subst hc hd
    exact wpAny_binaryOp_repeat_ref (T := "tuple") (U := "int") (by decide) ⟨_, ho, rfl⟩ (fun s' => typeIs_int s' 1 t) noFill_tuple_mul F.fills_int_mul F.slot_int_rmul repeat_tuple F.slot_int_index.lookup
      (call_meets F.slot_int_rmul (typeIs_int s 1 t) F.entry_int_rmul (F.args_int_rmul_2 _ _) (int_rmul_tuple 1 t l its.toArray n dd sl)
        ⟨ho, rfl, ⟨_, ho, rfl⟩, call_meets F.slot_tuple_mul ⟨_, ho, rfl⟩ F.entry_tuple_mul (F.args_tuple_mul_2 _ _) (tuple_mul1 l its.toArray n dd sl t) ⟨ho, ⟨.ref l, H, I, rfl, q1 rfl⟩⟩⟩)
/-- C(e, ..) where what is raised is wished for at the caller's slots -/
def tMakeS (C : Addr) (sp : Sp) (dvs : List V) (E : St → XK) (t : TA) : TE := fun σ H Q => t σ H fun vs H1 => ∀ x dx, H1 x = none → H1 dx = none → dx ≠ x →
  sp (.ref x :: (vs ++ dvs)) (upd (upd H1 dx (.own x)) x (.ins C dx [])) (fun v H2 => v = .non ∧ Q (.ref x) H2) (E σ)
section
variable {X : Cx} {CX : CXT} {k : Nat} {f C : Addr} {fd : FuncData} {ps : List Str} {sp : Sp} {dvs : List V} {ds : List Value} {E : St → XK} {x m : Str} {p pos apos : Pos} {e o : Expr} {es : List Expr} {ta : TE} {t : TA}
theorem pe_makeS (M : Mk X.K C f) (F : FnOk X.prog X.w X.K X.mg X.base CX k f fd ps sp) (hr : Room (k + 1) X.A) (hg : Gl X x) (hm : X.mg x = some (.ref C)) (hb : Binds X.K fd ps ds) (hd : Vals dvs ds) (hx : ∀ σ, PassesAt CX X σ (E σ))
    (ha : PA X (e :: es) t) (hdb : (x == ("__debug__" : Str)) = false := by decide) (he : starEach (e :: es) X.env = (false, eval e X.env) :: starEach es X.env := by rfl) (hpl : (backTo pos (starEach es X.env)).any (·.1) = false := by rfl) :
    PE X (.Call (.Name x p) (e :: es) [] pos) (tMakeS C sp dvs E t) := by
  refine ⟨fun pins s0 σ H0 Q I0 h0 => ?_⟩
  refine wpAny_Call_Name_kw (ld_glob I0 hg hm ?_ hdb)
  refine PySem.W.callWith_K (h₀ := X.base) I0.ok.mod.kin M.kp (thn (ha.run pos pins s0 σ H0 _ I0 h0) fun us s ⟨vs, H, I, r, h⟩ => ⟨I.kIn, ?_⟩) he hpl
  have hq := h (s.heap.objs.size + 1) s.heap.objs.size (I.hok.fresh (Nat.le_succ _)) (I.hok.fresh (Nat.le_refl _)) (Nat.ne_of_lt (Nat.lt_succ_self _))
  have I2 := Inv.made (C := C) I
  have r2 : Vals (V.ref (s.heap.objs.size + 1) :: (vs ++ dvs)) (Value.ref (s.heap.objs.size + 1) :: (us ++ ds)) := .cons rfl (r.append hd)
  have hl : (Value.ref (s.heap.objs.size + 1) :: us ++ ds).length = ps.length := by
    have e := r2.length
    rw [F.len _ _ _ _ hq] at e
    exact e.symm
  refine wpAny_call (make_map (f := f) I.kIn M.makes M.init (beq_iff_eq.mp M.fn) (codeAny_mono (F.run _ X.stack _ _ ⟨Value.ref (s.heap.objs.size + 1) :: us, []⟩ (Value.ref (s.heap.objs.size + 1) :: (us ++ ds)) _ _ (E σ) (hr.make C us [])
    (I2.env0.make C us []) (hb _ (Value.ref (s.heap.objs.size + 1) :: us) I2.kIn hl) r2 hq) fun r s' hq' => ?_))
  cases r with
  | error e => exact hx σ pins _ _ e s' I2 hq'
  | ok fl =>
    cases fl with
    | ret u =>
      obtain ⟨v, H', I3, rv, ev, q3⟩ := I2.after hq'
      subst ev
      exact ⟨rv, ⟨V.ref (s.heap.objs.size + 1), H', I3, rfl, q3⟩⟩
    | next => exact False.elim hq'
    | brk => exact False.elim hq'
    | cont => exact False.elim hq'
end
end L2
/-! ### Hc -/
namespace Hc
open PySem L2
theorem line_lt {n : Nat} (h : n ≤ 100000) : n < sizeLine := by rw [sizeLine_eq]; omega
theorem line_le {n : Nat} (h : n ≤ 100000) : n ≤ sizeLine := by rw [sizeLine_eq]; omega
theorem take_more {α : Type} : ∀ {l : List α} {i : Nat} {x : α}, l[i]? = some x → l.take (i + 1) = l.take i ++ [x]
  | [], i, x, h => by simp at h
  | a :: l, 0, x, h => by
    have e : a = x := Option.some.inj h
    subst e
    rfl
  | a :: l, i + 1, x, h => by
    have ih := take_more (l := l) (i := i) (x := x) h
    show a :: l.take (i + 1) = a :: l.take i ++ [x]
    rw [ih]
    rfl
/-- [p(x) for x in t]: the list of the answers -/
theorem all_tup {K : PySem.W.Frag} {H : Hp} {h a A : Addr} {xs : List V} {ds : List D} {j : Nat} {te : TE} {σ : St} {vs : List Nat} {Qd : Hp → Prop}
    (e : H a = some (.tup xs)) (z : xs.length ≤ 100000) (ra : RpA H h xs ds) (p : D → Bool) (hA : H A = none)
    (hw : ∀ x, wipe ((wipe σ vs).set j (some x)) vs = wipe σ vs)
    (hs : ∀ x d H' (Q : VK), d ∈ ds → Same H H' → Rp H' h x d → (∀ H4, Same H' H4 → Q (.bl (p d)) H4) → te ((wipe σ vs).set j (some x)) H' Q)
    (hd : ∀ H', Same H H' → SqL K H' A ((ds.map p).map V.bl) → Qd H') :
    ∃ W : Nat → Nat → Hp → Prop, (∃ m, W 0 m (upd H A (.lst []))) ∧ ∀ i m H, W i m H →
      ((Itt K a).stop i H ∧ Qd H) ∨ ((Itt K a).go i H ∧ ∃ Nx : Hp → Prop, (∀ H', Nx H' → ∃ m', m' < m ∧ W (i + 1) m' H') ∧ ∀ x H', (Itt K a).yld i H x H' → (gName j) x (wipe σ vs) H' fun σ2 H2 => wipe σ2 vs = wipe σ vs ∧ tYes σ2 H2 fun b H3 =>
        if b = true then te σ2 H3 fun y H4 => ∃ acc, H4 A = some (.lst acc) ∧ acc.length < sizeLine ∧ Nx (upd H4 A (.lst (acc ++ [y]))) else Nx H3) := by
  have hl := ra.len
  refine lc_tup (K := K) (xs := xs) (fun i H' => Same H (fun b => if b = A then none else H' b) ∧ H' A = some (.lst (((ds.take i).map p).map V.bl)))
    ⟨fun b o q => ?_, upd_same⟩ (fun i H' hi ⟨s, _⟩ => ?_) ?_ ?_
  · have n := ne_of_none q hA
    show (if b = A then none else upd H A _ b) = _
    rw [if_neg n, upd_ne n]; exact q
  · have q := s _ _ e
    have n := ne_of_none e hA
    simp only [if_neg n] at q
    exact SqT.of q
  · intro i x H' hx ⟨s, hH⟩
    have sm : Same H H' := fun b o q => by
      have r := s b o q
      simp only [if_neg (ne_of_none q hA)] at r
      exact r
    obtain ⟨d, hd1, rp⟩ := ra.get hx
    have hi : i < xs.length := (List.getElem?_eq_some_iff.mp hx).1
    refine ⟨hw x, ?_⟩
    unfold tYes
    show (if true = true then te _ _ _ else _)
    rw [if_pos rfl]
    refine hs x d H' _ (List.mem_of_getElem? hd1) sm (rp.same sm) fun H4 s4 => ⟨_, s4 _ _ hH, ?_, ?_, ?_⟩
    · rw [List.length_map, List.length_map, List.length_take]
      exact line_lt (by omega)
    · intro b o q
      have n := ne_of_none q hA
      show (if b = A then none else upd H4 A _ b) = _
      rw [if_neg n, upd_ne n]
      exact s4 _ _ (sm _ _ q)
    · rw [upd_same, take_more hd1, List.map_append, List.map_append]; rfl
  · intro H' ⟨s, hH⟩
    have sm : Same H H' := fun b o q => by
      have r := s b o q
      simp only [if_neg (ne_of_none q hA)] at r
      exact r
    rw [hl, List.take_length] at hH
    exact hd H' sm (SqL.of hH)
/-- [x for x in t if not p(x)]: as many as are none -/
theorem none_tup {K : PySem.W.Frag} {H : Hp} {h a A : Addr} {xs : List V} {ds : List D} {j : Nat} {te : TE} {tt : TT} {σ : St} {vs : List Nat} {Qd : Hp → Prop}
    (e : H a = some (.tup xs)) (z : xs.length ≤ 100000) (ra : RpA H h xs ds) (p : D → Bool) (hA : H A = none)
    (hw : ∀ x, wipe ((wipe σ vs).set j (some x)) vs = wipe σ vs)
    (hs : ∀ x d H' (Q : Bool → Hp → Prop), d ∈ ds → Same H H' → Rp H' h x d → (∀ H4, Same H' H4 → Q (!p d) H4) → tt ((wipe σ vs).set j (some x)) H' Q)
    (ht : ∀ x H' (Q : VK), Same H H' → (∀ y, Q y H') → te ((wipe σ vs).set j (some x)) H' Q)
    (hd : ∀ H' acc, Same H H' → SqL K H' A acc → acc.length ≤ 100000 → (acc.length = 0 ↔ ds.all p = true) → Qd H') :
    ∃ W : Nat → Nat → Hp → Prop, (∃ m, W 0 m (upd H A (.lst []))) ∧ ∀ i m H, W i m H →
      ((Itt K a).stop i H ∧ Qd H) ∨ ((Itt K a).go i H ∧ ∃ Nx : Hp → Prop, (∀ H', Nx H' → ∃ m', m' < m ∧ W (i + 1) m' H') ∧ ∀ x H', (Itt K a).yld i H x H' → (gName j) x (wipe σ vs) H' fun σ2 H2 => wipe σ2 vs = wipe σ vs ∧ tt σ2 H2 fun b H3 =>
        if b = true then te σ2 H3 fun y H4 => ∃ acc, H4 A = some (.lst acc) ∧ acc.length < sizeLine ∧ Nx (upd H4 A (.lst (acc ++ [y]))) else Nx H3) := by
  have hl := ra.len
  refine lc_tup (K := K) (xs := xs) (fun i H' => Same H (fun b => if b = A then none else H' b) ∧ ∃ acc, H' A = some (.lst acc) ∧ acc.length ≤ i ∧ (acc.length = 0 ↔ (ds.take i).all p = true))
    ⟨fun b o q => ?_, [], upd_same, Nat.le_refl _, by simp⟩ (fun i H' hi ⟨s, _⟩ => ?_) ?_ ?_
  · have n := ne_of_none q hA
    show (if b = A then none else upd H A _ b) = _
    rw [if_neg n, upd_ne n]; exact q
  · have q := s _ _ e
    have n := ne_of_none e hA
    simp only [if_neg n] at q
    exact SqT.of q
  · intro i x H' hx ⟨s, acc, hH, h1, h2⟩
    have sm : Same H H' := fun b o q => by
      have r := s b o q
      simp only [if_neg (ne_of_none q hA)] at r
      exact r
    obtain ⟨d, hd1, rp⟩ := ra.get hx
    have hi : i < xs.length := (List.getElem?_eq_some_iff.mp hx).1
    refine ⟨hw x, hs x d H' _ (List.mem_of_getElem? hd1) sm (rp.same sm) fun H4 s4 => ?_⟩
    cases hp : p d with
    | false =>
      rw [if_pos (by decide)]
      refine ht x H4 _ (fun b o q => s4 _ _ (sm _ _ q)) fun y => ⟨_, s4 _ _ hH, line_lt (by omega), fun b o q => ?_, _, upd_same, ?_, ?_⟩
      · have n := ne_of_none q hA
        show (if b = A then none else upd H4 A _ b) = _
        rw [if_neg n, upd_ne n]
        exact s4 _ _ (sm _ _ q)
      · rw [List.length_append, List.length_singleton]; omega
      · rw [List.length_append, List.length_singleton, take_more hd1, List.all_append]
        simp [hp]
    | true =>
      rw [if_neg (by decide)]
      refine ⟨fun b o q => ?_, acc, s4 _ _ hH, by omega, ?_⟩
      · have n := ne_of_none q hA
        show (if b = A then none else H4 b) = _
        rw [if_neg n]
        exact s4 _ _ (sm _ _ q)
      · rw [take_more hd1, List.all_append, h2]
        simp [hp]
  · intro H' ⟨s, acc, hH, h1, h2⟩
    have sm : Same H H' := fun b o q => by
      have r := s b o q
      simp only [if_neg (ne_of_none q hA)] at r
      exact r
    rw [hl, List.take_length] at h2
    exact hd H' acc sm (SqL.of hH) (by omega) h2
end Hc

set_option Elab.async false
set_option linter.all false
set_option maxRecDepth 100000
set_option maxHeartbeats 4000000
set_option autoImplicit false
namespace PySem
open Sem (wp)
open AutoSeq1 (wpAny_loadPart')
theorem meets_enumerate_newT (l : Addr) (items : Array Value) (n : Nat) (dct : Option Addr) (sl : Array (Option Value)) :
    Meets (Builtin.«enumerate.__new__» ⟨[.type "enumerate", .ref l], []⟩) (fun _ R s => s.heap.get? l = some { cls := .type "tuple", dict := dct, data := .seq items n, slots := sl } ∧
      R (.ok (.ret (.ref (s.heap.push { cls := .type "tuple_iterator", data := .fields #[.ref l, .int 0 0] }).objs.size)))
        { s with heap := (s.heap.push { cls := .type "tuple_iterator", data := .fields #[.ref l, .int 0 0] }).push { cls := .type "enumerate", data := .fields #[.none, .bool false, .ref s.heap.objs.size, rawInt 0, .none, .none] } }) :=
  .of_wp fun prog w A R s h => by
    obtain ⟨hp, g, d, tk, os⟩ := s; obtain ⟨hl, h⟩ := h
    have hsub := sub_enumerate
    have hL : Heap.IsTuple (Shared.heap ⟨hp, g, d, tk, os⟩) l items := ⟨_, hl, rfl, n, rfl⟩
    wp_walk using wpAny_loadPart' hl
    refine wpAny_stack_any fun st => wpAny_pure ?_
    split
    · rename_i c _ _ _ _ _
      cases (c == Value.type "enumerate")
      · wp_walk using wpAny_loadPart' hl, wpAny_pyIter_tuple hL
        exact ⟨_, rfl, h⟩
      · wp_walk using wpAny_loadPart' hl, wpAny_pyIter_tuple hL
        exact ⟨_, rfl, h⟩
    · wp_walk using wpAny_loadPart' hl, wpAny_pyIter_tuple hL
      exact ⟨_, rfl, h⟩
section
variable {prog : Program} {w : World} {A : Around} {E : Value → Shared → Prop} {s : Shared}
theorem call_enumerate_tuple {l : Addr} {items : Array Value} {Q : Value → Shared → Prop} (hL : s.heap.IsTuple l items)
    (h : ∀ h', IsEnum h' (s.heap.objs.size + 1) s.heap.objs.size 0 .none → h'.IsTupleIter s.heap.objs.size l 0 → h'.objs.size = s.heap.objs.size + 2 →
      (∀ b o, s.heap.get? b = some o → h'.get? b = some o) → Q (.ref (s.heap.objs.size + 1)) { s with heap := h' }) :
    wpAny (model prog w) A (call (.type "enumerate") [.ref l]) Q E s := by
  obtain ⟨⟨c, dct, dt, sl⟩, hl, hc, n, hd⟩ := hL
  replace hc : c = .type "tuple" := hc
  replace hd : dt = .seq items n := hd
  subst hc hd
  refine callType_new F.called_enumerate (by decide) (F.typeCall_enumerate_1 _) (F.newCall_enumerate_1 _) (fun obj => F.args_object_init_2 obj _) F.entry_enumerate_new
    (meets_enumerate_newT l items n dct sl) ⟨hl, ?_⟩
  have hz : (s.heap.push { cls := .type "tuple_iterator", data := .fields #[.ref l, .int 0 0] }).objs.size = s.heap.objs.size + 1 := Heap.size_push ..
  show _ ∧ _
  rw [hz]
  have he : IsEnum ((s.heap.push { cls := .type "tuple_iterator", data := .fields #[.ref l, .int 0 0] }).push
      { cls := .type "enumerate", data := .fields #[.none, .bool false, .ref s.heap.objs.size, rawInt 0, .none, .none] }) (s.heap.objs.size + 1) s.heap.objs.size 0 .none := by
    have := Heap.get?_push_size (s.heap.push { cls := .type "tuple_iterator", data := .fields #[.ref l, .int 0 0] })
      (o := { cls := .type "enumerate", data := .fields #[.none, .bool false, .ref s.heap.objs.size, rawInt 0, .none, .none] }) rfl
    rw [hz] at this; exact this
  refine ⟨⟨_, he, rfl⟩, h _ he ⟨_, Heap.get?_push_of_some _ (Heap.get?_push_size _ rfl), rfl, rfl⟩ (by rw [Heap.size_push, hz]) fun b o x => Heap.get?_push_of_some _ (Heap.get?_push_of_some _ x)⟩
theorem wpAny_pyNext_enum_endT {e it l : Addr} {i : Nat} {items : Array Value} {old : Value} {Q : Option Value → Shared → Prop} (hh : A.handled = none)
    (he : IsEnum s.heap e it i old) (hit : s.heap.IsTupleIter it l i) (hl : s.heap.IsTuple l items) (hx : items[i]? = none)
    (hQ : ∀ h', Heap.ExtBut it s.heap h' → Q none { s with heap := h' }) : wpAny (model prog w) A (pyNext (.ref e)) Q E s := by
  have hT : s.TypeIs (.ref e) "enumerate" := ⟨_, he, rfl⟩
  unfold pyNext
  refine wpAny_bind (wpAny_attempt (wpAny_callSpecial?_slot (name := Str.ofString "__next__") hT F.slot_enumerate_next
    (wpAny_call_entry F.slot_enumerate_next hT F.entry_enumerate_next ?_ (F.args_enumerate_next_1 _))))
  show wpAny _ _ (field (.ref e) 2 >>= _) _ _ _
  refine wpAny_bind (wpAny_field he rfl (x := .ref it) rfl ?_)
  refine wpAny_bind (wpAny_nextOf_tuple_end hh hit hl hx fun h' x he' hx' => ?_)
  obtain ⟨o, ho, hc⟩ := hx'
  refine wpAny_bind (wpAny_isInstance (T := "StopIteration") (b := true) ⟨o, ho, hc⟩ isSubtype_stop ?_)
  exact wpAny_pure (hQ _ he')
end
end PySem
namespace L2
open PySem PySem.Spec PyProof.Rows
/-- the tuple at a as it stands at each turn, each item in a new pair with its number -/
def IteT (K : PySem.W.Frag) (a : Addr) : It :=
  ⟨fun i H => ∃ (xs : List V) (x : V), SqT K H a xs ∧ xs[i]? = some x, fun i H v H' => ∃ T x, v = .ref T ∧ H T = none ∧ H' = upd H T (.tup [.int (i : Nat), x]) ∧ ∀ xs, SqT K H a xs → xs[i]? = some x, fun i H => ∃ xs : List V, SqT K H a xs ∧ xs.length ≤ i⟩
theorem turn_enumT {P : Program} {w : World} {K : PySem.W.Frag} {elts : List Expr} {kk : Nat} {tpos : Pos} (a e it : Addr) :
    Turn P w K (.Tuple elts kk tpos) (IteT K a) [e, it] e (fun i h => (∃ old, IsEnum h e it ((i : Nat) : Int) old) ∧ h.IsTupleIter it a i ∧ e ≠ it ∧ a ≠ it ∧ e ≠ a) where
  mem := by simp
  obj := fun i h st b hb => by
    obtain ⟨⟨old, he⟩, ⟨o, ho, hc, hd⟩, _⟩ := st
    have e' : b = e ∨ b = it := by simpa using hb
    rcases e' with z | z
    · rw [z]; exact ⟨_, he, fun v q => nomatch q⟩
    · rw [z]; exact ⟨o, ho, fun v q => by rw [hd] at q; cases q⟩
  keep := fun i h h' st k => let ⟨⟨old, he⟩, hi, hne⟩ := st; ⟨⟨old, k e (by simp) _ he⟩, hi.at fun o q => k it (by simp) o q, hne⟩
  item := by
    intro X hP hw hK hc i pins s σ H E I hf st hg
    subst hP hw hK
    obtain ⟨⟨old, he⟩, hit, hne, hai, hea⟩ := st
    obtain ⟨xs, x, hq, hx⟩ := hg
    obtain ⟨its, rv, p, hz⟩ := I.tuple hq
    obtain ⟨u, hu, ru⟩ := rv.get hx
    have hel : e < s.heap.objs.size := Heap.lt_size he
    have hil : it < s.heap.objs.size := by obtain ⟨_, q, _⟩ := hit; exact Heap.lt_size q
    have hlt : i < its.toArray.size := by
      rw [List.size_toArray]
      exact (List.getElem?_eq_some_iff.mp hu).1
    refine wpAny_pyNext_enum_itemD (Draws.tuple (A := X.A.in1) (I.ok.hd hc) it a hai its.toArray) he ⟨hit, p⟩ hlt hne (by simp [hne, hea]) fun x' h' tk hx' ho st' hT hsz hk => ?_
    obtain ⟨hit', _⟩ := st'
    obtain rfl : x' = u := by
      have q : its[i]? = some x' := by simpa using hx'
      rw [hu] at q
      exact (Option.some.inj q).symm
    refine ⟨_, rfl, wpAny_letOwnedTupleGo_enum (s := { s with heap := h', toks := tk + 1 }) ho fun h'' he' sb => ?_⟩
    have hT2 : h''.get? s.heap.objs.size = some { cls := .type "tuple", data := .seq #[.int i tk, x'] } := (sb.2 _ (Nat.ne_of_gt hel)).trans hT
    have new : ObjOk X.prog X.w (upd H s.heap.objs.size (.tup [.int (i : Nat), x])) h'' s.heap.objs.size (.tup [.int (i : Nat), x]) :=
      ⟨by show 2 ≤ sizeLine; decide, [.int i tk, x'], .cons ⟨_, rfl⟩ (.cons ru .nil), ⟨_, hT2, rfl, _, rfl⟩⟩
    have I1 : Inv X pins σ (upd H s.heap.objs.size (.tup [.int (i : Nat), x])) { s with heap := h'', toks := tk + 1 } :=
      I.turnedNew (ch := [e, it]) (fun b ob hb q => (sb.2 b (fun z => hb (by simp [z]))).trans (hk b ob (fun z => hb (by simp [z])) (fun z => hb (by simp [z])) q)) hf (Nat.le_refl _) new
    refine ⟨.ref s.heap.objs.size, _, I1, rfl, ⟨_, x, rfl, I.hok.fresh (Nat.le_refl _), rfl, fun ys hy => by rw [I.tuple_inj hy hq]; exact hx⟩, ⟨⟨x', ?_⟩, hit'.at fun o q => (sb.2 it (Ne.symm hne)).trans q, hne, hai, hea⟩, fun b hb => ?_⟩
    · have e1 : ((i + 1 : Nat) : Int) = (i : Int) + 1 := by omega
      rw [e1]; exact he'
    · have hb' : b < s.heap.objs.size := by
        have e' : b = e ∨ b = it := by simpa using hb
        rcases e' with z | z
        · rw [z]; exact hel
        · rw [z]; exact hil
      rw [upd_ne (Nat.ne_of_lt hb')]
      exact (hf b hb).1
  done := by
    intro X hP hw hK hc i pins s σ H E I hf st hg
    subst hP hw hK
    obtain ⟨⟨old, he⟩, hit, hne, hai, hea⟩ := st
    obtain ⟨xs, hq, hx⟩ := hg
    obtain ⟨its, rv, p, hz⟩ := I.tuple hq
    obtain ⟨f0, f1, f2, f3, f4, f5⟩ := hf it (by simp)
    have hl := rv.length
    exact wpAny_pyNext_enum_endT (I.ok.hd hc) he hit p (by simp; omega) fun h' eb => ⟨rfl, I.turned (t' := s.toks) (fun b o hb q => eb b o hb q) f0 f1 f3 f4 f5⟩
  self := fun A i s Q E st h => let ⟨⟨_, he⟩, _⟩ := st; wpAny_pyIter_enum he h
def iEnumT (K : PySem.W.Frag) (ta : TA) : TI := fun σ H R => ta σ H fun vs H1 => ∃ a xs, vs = [.ref a] ∧ SqT K H1 a xs ∧ R (IteT K a) H1
theorem pi_enumT {X : Cx} {e : Expr} {ta : TA} {p pos tpos : Pos} {elts : List Expr} {kk : Nat} (hg : Gl X "enumerate") (hm : X.mg "enumerate" = none) (ha : PA X [e] ta) (hs : starEach [e] X.env = [(false, eval e X.env)] := by rfl) :
    PI X (.Tuple elts kk tpos) (.Call (.Name "enumerate" p) [e] [] pos) (iEnumT X.K ta) := by
  refine ⟨fun pins s σ H R I h => ?_⟩
  refine Call_ (ld_blt I hg hm boot_enumerate (PyProof.Rows.callWith_type1 (thn (ha.run pos pins s σ H _ I h) fun us s1 ⟨vs, H1, I1, r1, q1⟩ => ?_) hs rfl))
  obtain ⟨a, xs, ex, hq, q⟩ := q1
  subst ex
  cases r1 with
  | cons r rr =>
    cases rr
    cases r
    obtain ⟨its, rv, p', hz⟩ := I1.tuple hq
    have hal : a < s1.heap.objs.size := by obtain ⟨_, q, _⟩ := p'; exact Heap.lt_size q
    refine call_enumerate_tuple p' fun h' he hit hsz hk => wpAny_pyIter_enum he ?_
    have I2 : Inv X pins σ H1 { s1 with heap := h' } := I1.kept (t' := s1.toks) hk
    refine ⟨s1.heap.objs.size + 1, [s1.heap.objs.size + 1, s1.heap.objs.size], _, _, H1, rfl, I2, turn_enumT a (s1.heap.objs.size + 1) s1.heap.objs.size, ⟨⟨.none, he⟩, hit, Nat.succ_ne_self _, Nat.ne_of_lt hal, Ne.symm (Nat.ne_of_lt (Nat.lt_succ_of_lt hal))⟩, fun b hb => ?_, q⟩
    have e' : b = s1.heap.objs.size + 1 ∨ b = s1.heap.objs.size := by simpa using hb
    have hle : s1.heap.objs.size ≤ b := by
      rcases e' with z | z
      · rw [z]; exact Nat.le_add_right _ _
      · rw [z]; exact Nat.le_refl _
    exact I1.fpOk hle (I1.hok.fresh hle)
end L2

set_option Elab.async false
set_option linter.all false
set_option maxRecDepth 100000
set_option maxHeartbeats 4000000
set_option autoImplicit false
namespace L2
open PySem PySem.Spec PyProof.Rows
section
variable {X : Cx}
theorem mk_endN {pins : List (Addr × Obj)} {σ : St} {H1 H2 : Hp} {Q : XK} {hp hp2 h2 : Heap} {g1 g2 : Array GenState} {d1 d2 : Drawn} {t1 t2 : Nat} {os1 os2 : OsState} {a C : Addr} (T : Raises X (.ref C)) (I1 : Inv X pins σ H1 ⟨hp, g1, d1, t1, os1⟩)
    (ha : hp.objs.size ≤ a) (k : ∀ b o, hp.get? b = some o → hp2.get? b = some o) (un : Un (frs X.stack) [] (upd H1 a (exo a C none)) H2 hp2 h2) (hok : HOk X.prog X.w H2 h2) (ho : os2 = os1) (hb : AllBare g2)
    (e2 : H2 = upd H1 a (exo a C none)) (q : Q (.ref C) none H1) : MkP X pins σ Q (.ref a) ⟨h2, g2, d2, t2, os2⟩ := by
  have ea : H2 a = some (exo a C none) := by rw [e2]; exact upd_same
  obtain ⟨t0, hoe⟩ := exo_at hok ea
  have hn : H1 a = none := I1.hok.fresh ha
  obtain ⟨G, g1', g2'⟩ := restrict h2 fun b => decide (b ≠ a)
  have gk : ∀ b, b ≠ a → G.get? b = h2.get? b := fun b hb => g1' b (decide_eq_true hb)
  have ge : G.get? a = none := g2' a (by simp)
  have nha : ∀ {b : Addr} {o : Obj}, hp.get? b = some o → b ≠ a := fun {b o} z => Nat.ne_of_lt (Nat.lt_of_lt_of_le (Heap.lt_size z) ha)
  have up : ∀ {b : Addr}, b ≠ a → H1 b = none → upd H1 a (exo a C none) b = none := fun {b} hb n => by rw [upd_ne hb]; exact n
  have dn : del H2 a = H1 := by
    funext b
    by_cases z : b = a
    · subst z; rw [del_same, hn]
    · rw [del_ne z, e2, upd_ne z]
  have U : Un (frs X.stack) [] H1 (del H2 a) hp G := {
    keep := fun b o z n hf hx => by
      rw [gk b (nha z)]
      exact un.keep b o (k b o z) (up (nha z) n) hf hx
    slot := fun b o z n hf hx => by
      rw [gk b (nha z)]
      exact un.slot b o (k b o z) (up (nha z) n) hf hx
    free := fun b o z n hx => by
      rw [del_ne (nha z)]
      exact un.free b o (k b o z) (up (nha z) n) hx
    there := fun b o z hx => by
      rw [gk b (nha z)]
      exact un.there b o (k b o z) hx
    tups := fun b xs z => by
      rw [del_ne (ne_of_none z hn)]
      exact un.tups b xs (by rw [upd_ne (ne_of_none z hn)]; exact z)
    frzs := fun b o v z => by
      rw [del_ne (ne_of_none z hn)]
      exact un.frzs b o v (by rw [upd_ne (ne_of_none z hn)]; exact z)
    tbls := fun b ps z => by
      rw [del_ne (ne_of_none z hn)]
      exact un.tbls b ps (by rw [upd_ne (ne_of_none z hn)]; exact z) }
  have hok3 : HOk X.prog X.w (del H2 a) G := fun b o z => by
    have hba : b ≠ a := fun e => by
      rw [e, del_same] at z
      cases z
    rw [del_ne hba] at z
    have noa : ∀ {c : Addr}, H2 c = some (.own b) → c ≠ a := fun {c} hc => at_ne ea hc exo_own
    exact (hok b o z).stay (fun c v hc y => by
        have hca : c ≠ a := by
          rcases hc with hc | hc
          · rw [hc]
            exact hba
          · exact noa hc
        rw [gk c hca]
        exact y)
      (fun c hc => by rw [del_ne (noa hc)]; exact hc) (fun c xs hc => by rw [del_ne (at_ne ea hc exo_tup)]; exact hc)
  have J : Inv X pins σ (del H2 a) ⟨G, g2, d2, t2, os2⟩ := I1.call' (ch := []) ho U hok3 hb (fun b z => absurd z (by simp))
  rw [dn] at J
  refine ⟨a, _, _, ⟨G, g2, d2, t2, os2⟩, _, .ref C, none, rfl, J, fun b o z => ?_, ge, hoe, ⟨rfl, rfl⟩, rfl, rfl, hn, rfl, hb, T, q⟩
  by_cases hba : b = a
  · rw [hba, ge] at z
    cases z
  · exact (gk b hba).symm.trans z
/-- C() of an own exception whose __init__ does nothing -/
def spInitN : Sp := fun vs H Q _ => ∃ a : Addr, vs = [.ref a] ∧ Q .non H
def tMkN (C : Addr) : St → Hp → XK → Prop := fun _ H Q => Q (.ref C) none H
theorem pmk_oexN {CX : CXT} {x : Str} {C fI : Addr} {k : Nat} {fd : FuncData} {ps : List Str} {p pos : Pos} (T : OexC X.K C) (iC : PySem.W.findIn X.K (.ref C) "__init__" = some (some (.ref fI))) (tI : PySem.W.typeIn X.K (.ref fI) = some (.type "function"))
    (F1 : FnOk X.prog X.w X.K X.mg X.base CX k fI fd ps spInitN) (hr : Room (k + 1) X.A) (hb : Binds X.K fd ps []) (hx : Passes CX X (fun _ _ _ => False)) (hg : Gl X x) (hm : X.mg x = some (.ref C))
    (hdb : (x == ("__debug__" : Str)) = false := by decide) :
    PMk X (.Call (.Name x p) [] [] pos) (tMkN C) := by
  intro pins s1 σ H1 Q I1 h
  obtain ⟨nm, q, N, bs, bm, sn, sub, ab, col, dd, k0, k1, k2, k3, k5, hC, hbm⟩ := T.cls
  refine wpAny_Call_Name_kw (ld_glob I1 hg hm ?_ hdb)
  refine PySem.W.callWith_K0 I1.kIn T.kC ?_
  show wpAny _ _ (call (.ref C) []) _ _ _
  obtain ⟨hp, g, dr, tk, os⟩ := s1
  have hsz : hp.objs.size ≤ hp.objs.size + 1 := Nat.le_succ _
  have hn : H1 (hp.objs.size + 1) = none := I1.hok.fresh hsz
  have kk : ∀ b o, hp.get? b = some o → ((hp.push (PySem.W.kdv_tup [])).push (PySem.HandSPX.excO C hp.objs.size)).get? b = some o := fun b o e => Heap.get?_push_of_some _ (Heap.get?_push_of_some _ e)
  have hget : ((hp.push (PySem.W.kdv_tup [])).push (PySem.HandSPX.excO C hp.objs.size)).get? (hp.objs.size + 1) = some (PySem.HandSPX.excO C hp.objs.size) := by heap_get
  have I2 : Inv X pins σ (upd H1 (hp.objs.size + 1) (exo (hp.objs.size + 1) C none)) ⟨(hp.push (PySem.W.kdv_tup [])).push (PySem.HandSPX.excO C hp.objs.size), g, dr, tk, os⟩ :=
    I1.laid (t' := tk) (a := hp.objs.size + 1) (o := exo (hp.objs.size + 1) C none) (h' := (hp.push (PySem.W.kdv_tup [])).push (PySem.HandSPX.excO C hp.objs.size)) kk hsz (exo_ok hget)
  have hq : spInitN [V.ref (hp.objs.size + 1)] (upd H1 (hp.objs.size + 1) (exo (hp.objs.size + 1) C none)) (fun v H2 => v = .non ∧ H2 = upd H1 (hp.objs.size + 1) (exo (hp.objs.size + 1) C none)) (fun _ _ _ => False) := ⟨_, rfl, rfl, rfl⟩
  have r2 : Vals [V.ref (hp.objs.size + 1)] [Value.ref (hp.objs.size + 1)] := .cons rfl .nil
  have hl : ([Value.ref (hp.objs.size + 1)] ++ ([] : List Value)).length = ps.length := by
    rw [← F1.len _ _ _ _ hq]; rfl
  refine wpAny_call (PySem.HandSPX.call_own F.excBase_ValueError (fun Y => PySem.HandSPX.refsVE_contains Y bm hbm) (I1.kIn _ _ hC) (PySem.W.looks_findIn I1.kIn iC) (fun self => PySem.W.bind_fn I1.kIn self tI) (by show 0 ≤ sizeLine; decide)
    (codeAny_mono (F1.run _ X.stack _ _ ⟨[Value.ref (hp.objs.size + 1)], []⟩ [Value.ref (hp.objs.size + 1)] _ _ (fun _ _ _ => False) (hr.make C [] []) (I2.env0.make C [] []) (hb _ [Value.ref (hp.objs.size + 1)] I2.kIn hl) r2 hq) fun r s' hq' => ?_))
  cases r with
  | error er => exact hx pins σ _ _ er s' I2 hq'
  | ok fl =>
    cases fl with
    | ret u =>
      obtain ⟨v, H2, os2, bare2, un2, hok2, rv, ev, e2⟩ := hq'
      subst ev
      obtain ⟨h2, g2, d2, t2, os'⟩ := s'
      exact ⟨rv, mk_endN (raises_own T.exC T.tyC) I1 hsz kk un2 hok2 os2 bare2 e2 h⟩
    | next => exact False.elim hq'
    | brk => exact False.elim hq'
    | cont => exact False.elim hq'
end
end L2

set_option Elab.async false
set_option linter.all false
set_option maxRecDepth 100000
set_option maxHeartbeats 1000000
set_option autoImplicit false
namespace HT
open PySem PySem.Spec PyProof.Rows
section
variable {prog : Program} {w : World} {A : Around} {E : Value → Shared → Prop} {s : Shared}
theorem adjust_rev (n : Nat) : Builtin.Slice.sliceAdjust none none (-1) (n : Int) = ((n : Int) - 1, -1) := by
  unfold Builtin.Slice.sliceAdjust
  have h1 : ((-1 : Int) < 0) := by omega
  simp only [h1, if_true]
theorem places_rev (n : Nat) : Builtin.Slice.slicePlaces ((n : Int) - 1) (-1) (-1) = n := by
  unfold Builtin.Slice.slicePlaces
  have h1 : ¬ ((-1 : Int) > 0) := by omega
  simp only [h1, if_false]
  split <;> (try simp) <;> omega
theorem sliceApplied_rev {sl : Addr} {n : Nat} {t : Tok} {Q : Int × Int × Nat → Shared → Prop} (hs : s.heap.IsSliceOf sl .none .none (.int (-1) t))
    (h : Q ((n : Int) - 1, -1, n) s) : wpAny (model prog w) A (Builtin.Slice.sliceApplied (.ref sl) (pure (n : Int))) Q E s := by
  obtain ⟨os, hos, hcs, hds⟩ := id hs
  unfold Builtin.Slice.sliceApplied Builtin.Slice.sliceFields
  refine wpAny_bind (wpAny_bind (wpAny_field hos hds (x := .none) rfl (wpAny_bind (wpAny_field hos hds (x := .none) rfl (wpAny_bind (wpAny_field hos hds (x := .int (-1) t) rfl (wpAny_pure ?_)))))))
  refine wpAny_bind (slicePart_ (.int (-1) t) ?_)
  show wpAny _ _ (if ((-1 : Int) == 0) = true then _ else _) _ _ s
  rw [if_neg (by decide)]
  refine wpAny_bind (slicePart_ .none (wpAny_bind (slicePart_ .none (wpAny_bind (wpAny_pure ?_)))))
  show wpAny _ _ (match Builtin.Slice.sliceAdjust none none (-1) (n : Int) with | (lo, hi) => pure (lo, (-1 : Int), Builtin.Slice.slicePlaces lo hi (-1))) _ _ s
  rw [adjust_rev n]
  show wpAny _ _ (pure ((n : Int) - 1, (-1 : Int), Builtin.Slice.slicePlaces ((n : Int) - 1) (-1) (-1))) _ _ s
  rw [places_rev]
  exact wpAny_pure h
theorem fm_congr {α β : Type} {f g : α → Option β} : ∀ l : List α, (∀ x ∈ l, f x = g x) → l.filterMap f = l.filterMap g
  | [], _ => rfl
  | x :: l, h => by
    have e := h x List.mem_cons_self
    have r := fm_congr l fun y hy => h y (List.mem_cons_of_mem _ hy)
    rw [List.filterMap_cons, List.filterMap_cons, e, r]
theorem pick_rev (xs : Array Value) : ((List.range xs.size).filterMap fun (m : Nat) => xs[(((xs.size : Int) - 1) + (m : Int) * (-1)).toNat]?).toArray = xs.toList.reverse.toArray := by
  have e : (List.range xs.size).filterMap (fun (m : Nat) => xs[(((xs.size : Int) - 1) + (m : Int) * (-1)).toNat]?) = (List.range xs.size).filterMap ((xs[·]?) ∘ fun k => xs.size - 1 - k) :=
    fm_congr _ fun m hm => by
      have hm := List.mem_range.mp hm
      have e1 : (((xs.size : Int) - 1) + (m : Int) * (-1)).toNat = xs.size - 1 - m := by omega
      rw [e1]; rfl
  rw [e, ← List.filterMap_map, PySem.W.krv_range, List.filterMap_reverse, PySem.W.krv_all]
theorem getItem_tuple_rev {t sl : Addr} {items : Array Value} {u : Tok} {Q : Value → Shared → Prop} (ht : IsTup s.heap t items) (hs : s.heap.IsSliceOf sl .none .none (.int (-1) u))
    (h : Q (.ref s.heap.objs.size) { s with heap := s.heap.push { cls := .type "tuple", data := .seq items.toList.reverse.toArray } })
    (hsz : items.size ≤ sizeLine) : wpAny (model prog w) A (getItem (.ref t) (.ref sl)) Q E s := by
  have htake : sizeOk (.seq items.toList.reverse.toArray) := by
    show items.toList.reverse.toArray.size ≤ sizeLine
    rw [List.size_toArray, List.length_reverse, Array.length_toList]
    omega
  obtain ⟨os, hos, hcs, hds⟩ := id hs
  have hTs : s.TypeIs (.ref sl) "slice" := ⟨os, hos, hcs⟩
  unfold getItem
  try with_reducible refine wpAny_holding ?_
  first | refine wpAny_bind (wpAny_pure ?_) | skip
  refine wpAny_bind (wpAny_sequenceKey ht.typeIs (by decide) ?_)
  refine wpAny_bind (wpAny_callSpecial?_slot (name := Str.ofString "__getitem__") ht.typeIs PyProof.Rows.slot_tuple_getitem
    (wpAny_call_entry PyProof.Rows.slot_tuple_getitem ht.typeIs entry_tuple_getitem ?_ (args_tuple_getitem _ _)))
  show wpAny _ _ (Builtin.Tuple.tupleItemsOf (.ref t) >>= _) _ _ s
  refine wpAny_bind (tupleItemsOf_ ht ?_)
  refine wpAny_bind (wpAny_typeOf hTs ?_)
  rw [if_pos (by decide)]
  refine wpAny_bind (sliceApplied_rev hs ?_)
  have hno : ¬ ((((items.size : Int) - 1) == 0 && (-1 : Int) == 1 && items.size == items.size) = true) := by
    intro q
    rw [Bool.and_eq_true, Bool.and_eq_true] at q
    exact absurd q.1.2 (by decide)
  show wpAny _ _ (if (((items.size : Int) - 1) == 0 && (-1 : Int) == 1 && items.size == items.size) = true then _ else _) _ _ s
  rw [if_neg hno, pick_rev]
  first
    | exact wpAny_bind (m := Builtin.Tuple.tupleExact _) (wpAny_newObj_type (wpAny_pure ⟨_, rfl, wpAny_pure h⟩) htake)
    | exact wpAny_bind (m := Builtin.Tuple.tupleExact _) (wpAny_newObj_type (wpAny_bind (wpAny_pure (wpAny_pure ⟨_, rfl, wpAny_pure h⟩))) htake)
    | exact wpAny_bind (wpAny_bind (m := Builtin.Tuple.tupleExact _) (wpAny_newObj_type (wpAny_pure (wpAny_pure ⟨_, rfl, wpAny_pure h⟩)) htake))
    | exact wpAny_bind (wpAny_bind (m := Builtin.Tuple.tupleExact _) (wpAny_newObj_type (wpAny_pure ⟨_, rfl, wpAny_pure h⟩) htake))
end
end HT
namespace L2
open PySem PySem.Spec PyProof.Rows
section
variable {X : Cx}
/-- set(t), t a tuple of ints -/
def rSetT (K : PySem.W.Frag) (w : World) : List V → Hp → VK → Prop := fun xs H Q => ∃ (l : Addr) (ns : List Int), xs = [.ref l] ∧ SqT K H l (ns.map V.int) ∧ ns.length ≤ 1000 ∧
  ∀ a n, n ≤ ns.length → H a = none → Q (.ref a) (upd H a (SetO w a (fun j => decide (j ∈ ns)) n))
theorem cr_setT (hc : X.calm = true) : CallR X (.type "set") (rSetT X.K X.w) := by
  intro pins s σ H xs us Q I r h
  obtain ⟨l, ns, rfl, hq, hl, q⟩ := h
  obtain ⟨u, rfl, ru⟩ := vals1 r
  cases ru
  obtain ⟨its, rv, pt, hz⟩ := I.tuple hq
  have hi : IntsAre its.toArray.toList ns := ints_of_vals rv
  refine call_set_tupI ns (I.ok.hd hc) (show s.heap.IsTuple l its.toArray from pt) hi (by unfold scanBound; omega) fun h' tk c R1 hcn k => ?_
  exact ⟨.ref s.heap.objs.size, _, I.laid (t' := tk) (h' := h') (o := SetO X.w s.heap.objs.size (fun j => decide (j ∈ ns)) c) k (Nat.le_refl _) (setO_new R1), rfl, q _ c hcn (I.hok.fresh (Nat.le_refl _))⟩
def tRevT (K : PySem.W.Frag) (te : TE) : TE := fun σ H Q => te σ H fun x H1 => ∃ a xs, x = .ref a ∧ SqT K H1 a xs ∧ ∀ p, H1 p = none → Q (.ref p) (upd H1 p (.tup xs.reverse))
theorem pe_revT {e : Expr} {te : TE} {k : Nat} {p1 p2 p3 pos : Pos} (he : PE X e te) : PE X (.Subscript e (.Slice none none (some (.UnaryOp .USub (.Constant (.int 1) k p1) p2)) p3) pos) (tRevT X.K te) := by
  refine ⟨fun pins s σ H Q I h => ?_⟩
  refine Subscript_ (thn (he.run pins s σ H _ I h) fun v s1 ⟨x, H1, I1, r1, q1⟩ => ?_)
  obtain ⟨a, xs, ex, hx, q⟩ := q1
  subst ex
  cases r1
  have hst : PO X (some (.UnaryOp .USub (.Constant (.int 1) k p1) p2)) (tPart (tUn (rU fun i => .int (-i)) (tC (.int 1)))) := po_some (pe_un un_neg pe_int)
  refine wpAny_Slice (thn (po_none.run pins s1 σ H1 (fun o H2 => o = none ∧ H2 = H1) I1 ⟨rfl, rfl⟩) fun vl s2 ⟨l, H2, I2, pl, el, e2⟩ => ?_)
  subst el e2
  refine thn (po_none.run pins s2 σ H2 (fun o H3 => o = none ∧ H3 = H2) I2 ⟨rfl, rfl⟩) fun vu s3 ⟨u, H3, I3, pu, eu, e3⟩ => ?_
  subst eu e3
  refine thn (hst.run pins s3 σ H3 (fun o H4 => o = some (-1) ∧ H4 = H3) I3 ⟨1, rfl, -1, rfl, rfl, rfl⟩) fun vs s4 ⟨o, H4, I4, ps, eo, e4⟩ => ?_
  subst eo e4
  cases pl
  cases pu
  cases ps with
  | int _ tt =>
  have I5 : Inv X pins σ H4 { s4 with heap := s4.heap.push { cls := .type "slice", data := .fields #[.none, .none, .int (-1) tt] } } := I4.kept (t' := s4.toks) fun b ob q => Heap.get?_push_of_some _ q
  obtain ⟨its, r, ht, hz⟩ := I5.tuple hx
  have hlen := r.length
  show wpAny (model X.prog X.w) X.A (subscriptTail e (.Slice none none (some (.UnaryOp .USub (.Constant (.int 1) k p1) p2)) p3) (.ref a) (.ref s4.heap.objs.size)) (EP X pins σ Q) X.xe { s4 with heap := s4.heap.push { cls := .type "slice", data := .fields #[.none, .none, .int (-1) tt] } }
  refine tail_any (ops := [.ref a, .ref s4.heap.objs.size]) ht.typeIs (PyProof.Rows.slot_tuple_getitem.lookup) ?_ (by with_unfolding_all rfl)
  refine HT.getItem_tuple_rev ht (Heap.IsSliceOf.new _ .none .none (.int (-1) tt)) ?_ (by rw [List.size_toArray]; omega)
  refine ⟨.ref _, _, I5.laid (t' := s4.toks) (o := .tup xs.reverse) (fun b ob q => Heap.get?_push_of_some _ q) (Nat.le_refl _) ?_, rfl, q _ (I5.hok.fresh (Nat.le_refl _))⟩
  exact ⟨by rw [List.length_reverse]; exact hz, _, r.reverse, IsTup.new _ _⟩
end
end L2
namespace Hc
open PySem L2
/-- [f(a, b) for a, b in zip(s, t)]: two tuples, perhaps of unlike lengths -/
theorem lc_zipT {K : PySem.W.Frag} {a b : Addr} {xs ys : List V} {g : TG} {tt : TT} {te : TE} {vs : List Nat} {σ : St} {H1 : Hp} {D : Addr} {Qd : Hp → Prop} (Pv : Nat → Hp → Prop) (h0 : Pv 0 (upd H1 D (.lst [])))
    (hl : ∀ i H, Pv i H → SqT K H a xs ∧ SqT K H b ys)
    (hs : ∀ (i : Nat) (x y : V) (T : Addr) (H : Hp), xs[i]? = some x → ys[i]? = some y → Pv i H → H T = none → g (.ref T) (wipe σ vs) (upd H T (.tup [x, y])) fun σ2 H2 => wipe σ2 vs = wipe σ vs ∧ tt σ2 H2 fun b H3 =>
      if b = true then te σ2 H3 fun y H4 => ∃ acc, H4 D = some (.lst acc) ∧ acc.length < sizeLine ∧ Pv (i + 1) (upd H4 D (.lst (acc ++ [y]))) else Pv (i + 1) H3) (hd : ∀ H, Pv (min xs.length ys.length) H → Qd H) :
    ∃ W : Nat → Nat → Hp → Prop, (∃ m, W 0 m (upd H1 D (.lst []))) ∧ ∀ i m H, W i m H →
      ((RZ.ItzT K a b).stop i H ∧ Qd H) ∨ ((RZ.ItzT K a b).go i H ∧ ∃ Nx : Hp → Prop, (∀ H', Nx H' → ∃ m', m' < m ∧ W (i + 1) m' H') ∧ ∀ x H', (RZ.ItzT K a b).yld i H x H' → g x (wipe σ vs) H' fun σ2 H2 => wipe σ2 vs = wipe σ vs ∧ tt σ2 H2 fun b H3 =>
        if b = true then te σ2 H3 fun y H4 => ∃ acc, H4 D = some (.lst acc) ∧ acc.length < sizeLine ∧ Nx (upd H4 D (.lst (acc ++ [y]))) else Nx H3) := by
  refine ⟨fun i m H => m = min xs.length ys.length - i ∧ i ≤ min xs.length ys.length ∧ Pv i H, ⟨_, rfl, Nat.zero_le _, h0⟩, ?_⟩
  rintro i m H ⟨rfl, hi, p⟩
  obtain ⟨qx, qy⟩ := hl i H p
  by_cases hlt : i < min xs.length ys.length
  · have h1 : i < xs.length := by omega
    have h2 : i < ys.length := by omega
    refine .inr ⟨⟨xs, ys, _, _, qx, qy, List.getElem?_eq_getElem h1, List.getElem?_eq_getElem h2⟩, Pv (i + 1), fun H' p' => ⟨min xs.length ys.length - (i + 1), by omega, rfl, hlt, p'⟩, fun v H' y => ?_⟩
    obtain ⟨T, x', y', rfl, hT, rfl, f1, f2⟩ := y
    exact hs i x' y' T H (f1 xs qx) (f2 ys qy) p hT
  · have e : i = min xs.length ys.length := by omega
    subst e
    refine .inl ⟨⟨xs, ys, qx, qy, ?_⟩, hd H p⟩
    omega
end Hc

set_option Elab.async false
set_option linter.all false
set_option maxRecDepth 100000
set_option maxHeartbeats 2000000
set_option autoImplicit false
namespace L2
open PySem PySem.Spec PyProof.Rows
/-- what the first clause, 'except x as n', wishes of an exception that is its own; slot i is n's -/
def wAs1 (K : PySem.W.Frag) (c : Value) (i : Nat) (ts : Addr → Value → Option Addr → TS) (D : Ends) : WX := fun cls d σ H =>
  PySem.W.exmOne K cls c = some true ∧ ∀ a, H a = none → ts a cls d { nx := fun σ' H' => D.nx (σ'.set i none) H', rt := D.rt, bk := fun σ' H' => D.bk (σ'.set i none) H', ct := fun σ' H' => D.ct (σ'.set i none) H' } (σ.set i (some (.ref a))) H
section
variable {X : Cx} {x n : Str} {c : Value} {i : Nat} {body suite : List Stmt} {b₀ : Stmt} {np pos pos' : Pos} {tb : WX → TS} {ts : Addr → Value → Option Addr → TS} {more : List ExceptHandler}
theorem ps_try_as1 (hs : X.stack = X.env :: X.outer) (hf : X.env.frame = some X.env.locals) (hN : X.N.Nodup) (hi : X.N[i]? = some n) (hln : X.env.kindOf n = some .local) (hc : Names X x c)
    (hb : ∀ (W : WX) (pn : List (Addr × Obj)) (xe : Value → Shared → Prop), Takes (X.tr pn xe) W → PassesOwn (model X.prog X.w) X.A X.env xe → PSs (X.tr pn xe) body (tb W))
    (hsu : ∀ (a : Addr) (oe : Obj) (cls : Value) (d : Option Addr) (pn : List (Addr × Obj)), Zc cls d oe → (∃ vs, oe.data = .fields vs) → PSs (X.suite a ((a, oe) :: pn)) (b₀ :: suite) (ts a cls d)) :
    PS X (.Try body (.ExceptHandler (some (.Name x np)) (some n) (b₀ :: suite) pos' :: more) [] [] pos) (fun D σ H => tb (wAs1 X.K c i ts D) D σ H) := by
  refine ⟨fun pins s σ H D I h => ?_⟩
  have ok := I.ok
  have hfr : X.A.frames = some (X.env :: X.outer) := by rw [ok.frames, hs]
  have hloc : Loc X.env.scope n := .inl hln
  refine wpAny_Try_except ?_
  refine wpAny_mono ((hb (wAs1 X.K c i ts D) (X.pn ++ pins) (fun e s₁ => wpAny (model X.prog X.w) X.A (noteFrame e X.env) (fun _ s₂ => wpAny (model X.prog X.w) X.A (setFlight e none) (fun _ s₃ =>
    wpAny (model X.prog X.w) X.A (handleBy e X.env (.ExceptHandler (some (.Name x np)) (some n) (b₀ :: suite) pos' :: more)) (SP X pins D) X.xe s₃) X.xe s₂) X.xe s₁) (fun u s' xx => ?_) PassesOwn.looking).run [] s σ H D (I.toTry _) h) (fun f s1 hsp => ?_) (fun e s1 he => he)
  · obtain ⟨a, B, sI, pins', σ', H', cls, d, rfl, J', nb, up, sky, na, os, ag, hb1, hyes⟩ := xx
    have J : Inv X pins σ' H' sI := J'.ofTry ok
    have sky' : Sky B (X.env :: X.outer) a (Zc cls d) X.env.locals s'.heap := by rw [← hs]; exact sky
    show wpAny (model X.prog X.w) X.A (noteFrame (.ref a) X.env) _ _ _
    refine Sky.land Zc.steady hfr hf sky' fun h3 fl3 up3 => ?_
    have J3 : Inv X pins σ' H' { s' with heap := h3 } := J.landed nb fl3.1 (up.trans up3) os ag
    obtain ⟨oe3, vs3, he3, hz3, hd3⟩ := fl3.there
    have nfr : a ∉ frs (X.env :: X.outer) := fun hm => by
      obtain ⟨_, o', e', hnf⟩ := fl3.2.2.1.mem hm
      rw [he3] at e'; cases e'
      exact hnf _ hd3
    have nL : a ≠ X.env.locals := fun z => nfr (List.mem_filterMap.mpr ⟨X.env, List.mem_cons_self, by rw [hf, z]⟩)
    have nF : a ∉ X.fs := fun hm => by
      obtain ⟨e, he, q⟩ := List.mem_filterMap.mp hm
      exact nfr (List.mem_filterMap.mpr ⟨e, List.mem_cons_of_mem _ he, q⟩)
    have S3 := J3.suite he3 hd3 na nL nF
    refine wpAny_handleBy_cons (codeAny_handlers_test ?_) (by intro q; cases q)
    have LT : PySem.W.Looks (model X.prog X.w) h3 (typeOf (.ref a)) cls := fun A Q E s k q => wpAny_typeOf_ref (k _ _ he3) (by rw [hz3.1]; exact q)
    have LM := PySem.W.exm_one (M := model X.prog X.w) (J3.kIn) LT hb1
    have test : ∀ {Q : Value → Shared → Prop} {E : Value → Shared → Prop}, Q c { s' with heap := h3 } → wpAny (model X.prog X.w) (X.A.mark (some (.ref a))) (eval (.Name x np) X.env) Q E { s' with heap := h3 } := fun {Q E} q => by
      obtain ⟨hg, hdbg, hm | ⟨hm, hv, hnn⟩⟩ := hc
      · exact ld_glob (X := X.suite a ((a, oe3) :: (X.pn ++ pins))) S3 hg hm q hdbg
      · exact ld_blt (X := X.suite a ((a, oe3) :: (X.pn ++ pins))) S3 hg hm hv q hnn hdbg
    refine test (LM.here ?_)
    refine codeAny_handlers_suite_as ?_
    refine HandSPX.lands_againZ fl3 fun h4 fl4 up4 => ?_
    have J4 : Inv X pins σ' H' { s' with heap := h4 } := J.landed nb fl4.1 ((up.trans up3).trans up4) os ag
    obtain ⟨oe4, vs4, he4, hz4, hd4⟩ := fl4.there
    have S4 := J4.suite he4 hd4 na nL nF
    refine store_ok (X := X.suite a ((a, oe4) :: (X.pn ++ pins))) (v := .ref a) S4 hN hi hloc rfl (fun s5 S5 => ?_) (.inr hln)
    refine wpAny_mono ((hsu a oe4 cls d (X.pn ++ pins) hz4 ⟨_, hd4⟩).run [] s5 _ H' _ S5 (hyes a na)) (fun f s6 hsp => ?_) (fun _ _ z => False.elim z)
    have end_ : ∀ {σ6 : St} {H6 : Hp} {Q : Shared → Prop}, Inv (X.suite a ((a, oe4) :: (X.pn ++ pins))) [] σ6 H6 s6 → (∀ s7, Inv X pins (σ6.set i none) H6 s7 → Q s7) →
        wpAny (model X.prog X.w) X.A (do bindName X.env n .none; unbindBehindTheSuite X.env n pos') (fun _ s7 => Q s7) X.xe s6 := fun {σ6 H6 Q} S6 hq => gone_ok (S6.unsuite ok) hN hi hln hq
    cases f with
    | next =>
      obtain ⟨σ6, H6, S6, q6⟩ := hsp
      exact end_ S6 fun s7 J7 => ⟨_, _, J7, q6⟩
    | brk =>
      obtain ⟨σ6, H6, S6, q6⟩ := hsp
      exact end_ S6 fun s7 J7 => ⟨_, _, J7, q6⟩
    | cont =>
      obtain ⟨σ6, H6, S6, q6⟩ := hsp
      exact end_ S6 fun s7 J7 => ⟨_, _, J7, q6⟩
    | ret u =>
      obtain ⟨v6, σ6, H6, S6, r6, q6⟩ := hsp
      exact end_ S6 fun s7 J7 => ⟨_, _, _, J7, r6, q6⟩
  · cases f with
    | next =>
      obtain ⟨σ', H', J', q⟩ := hsp
      exact wpAny_execs_nil ⟨σ', H', J'.ofTry ok, q⟩
    | brk =>
      obtain ⟨σ', H', J', q⟩ := hsp
      exact ⟨σ', H', J'.ofTry ok, q⟩
    | cont =>
      obtain ⟨σ', H', J', q⟩ := hsp
      exact ⟨σ', H', J'.ofTry ok, q⟩
    | ret u =>
      obtain ⟨v, σ', H', J', r, q⟩ := hsp
      exact ⟨v, σ', H', J'.ofTry ok, r, q⟩
end
end L2

set_option Elab.async false
set_option linter.all false
set_option maxRecDepth 100000
set_option maxHeartbeats 1000000
set_option autoImplicit false
namespace PyProof.Rows
open PySem PySem.Spec
section
variable {prog : Program} {w : World} {A : Around} {E : Value → Shared → Prop} {s : Shared}
theorem collect_tupleH {l : Addr} {vs : List Value} {Q : List Value → Shared → Prop} (hl : s.heap.IsTuple l vs.toArray)
    (h : Q vs { s with heap := (s.heap.push (seqObj "list" #[] 0)).update s.heap.objs.size (Obj.mapSeq (· ++ vs.toArray)) }) (hsz : vs.length ≤ sizeLine) :
    wpAny (model prog w) A (collect (.ref l)) Q E s := by
  obtain ⟨o, ho, hc, n, hd⟩ := id hl
  unfold collect
  refine wpAny_bind (wpAny_runValue (codeAny_builtin entry_proto_collect' ?_))
  show wpAny _ _ (do again (.builtin "list.__iadd__" ⟨[← newList [], .ref l], []⟩)) _ _ s
  refine wpAny_bind (wpAny_newList (wpAny_pure ⟨Code.quiet_builtin _ (by decide +kernel), codeAny_builtin entry_list_iadd' ?_⟩))
  show wpAny _ _ (Builtin.List.listExtendWith (.ref s.heap.objs.size) (.ref l) (.ref s.heap.objs.size)) _ _ { s with heap := s.heap.push (seqObj "list" #[] 0) }
  unfold Builtin.List.listExtendWith
  have ho' : (s.heap.push (seqObj "list" #[] 0)).get? l = some o := Heap.get?_push_of_some _ ho
  refine wpAny_bind (wpAny_typeOf (T := "tuple") ⟨o, ho', hc⟩ ?_)
  have ht : (Value.type "tuple" == Value.type "tuple") = true := by rfl
  rw [if_pos (by rw [ht]; simp)]
  refine wpAny_bind (listItems_at ho' hd ?_)
  refine wpAny_bind (listItems_at (xs := #[]) (n := 0) (Heap.get?_push_size _ rfl) rfl ?_)
  rw [if_neg (by simp)]
  refine wpAny_bind (listUpdate_at (xs := #[]) (n := 0) (Heap.get?_push_size _ rfl) rfl ?_ (Nat.zero_le _) (by show (#[] ++ vs.toArray).size ≤ sizeLine + 1; simp only [Array.size_append, List.size_toArray, List.length_nil]; omega))
  refine wpAny_pure ?_
  show wpAny (model prog w) A (do
      let o ← load s.heap.objs.size
      match o.data with
      | .seq xs _ => pure xs.toList
      | _ => unsupported "internal:collect") Q E { s with heap := (s.heap.push (seqObj "list" #[] 0)).update s.heap.objs.size (Obj.mapSeq (· ++ vs.toArray)) }
  refine wpAny_bind (wpAny_load (get?_update_seq (Heap.get?_push_size _ rfl) _) ?_)
  show wpAny _ _ (pure ((#[] : Array Value) ++ vs.toArray).toList) Q E _
  rw [show ((#[] : Array Value) ++ vs.toArray).toList = vs by simp]
  exact wpAny_pure h
theorem sorted_intsT {l : Addr} {vs : List Value} {ns : List Int} {Q : Value → Shared → Prop} (hl : s.heap.IsTuple l vs.toArray) (hI : IntsAre vs ns) (h64 : vs.length < 64)
    (h : ∀ (out : Array Value) (ns' : List Int), IntsAre out.toList ns' → ns'.Perm ns → ns'.Pairwise (· ≤ ·) → Q (.ref (s.heap.objs.size + 1)) { s with heap := sortedAll s.heap vs out }) :
    wpAny (model prog w) A (call (.builtin "sorted") [.ref l]) Q E s := by
  refine Calls.call_function_entry kind_sorted plain_sorted entry_sorted (args_sorted1 _) ?_
  unfold Builtin.«sorted»
  refine wpAny_bind (m := checkCount "sorted" 1 1 _) (wpAny_pure ?_)
  refine wpAny_bind (collect_tupleH hl ?_ (by rw [sizeLine_eq]; omega))
  refine wpAny_bind (wpAny_newList ?_ (by rw [sizeLine_eq]; omega))
  have hsz : ((s.heap.push (seqObj "list" #[] 0)).update s.heap.objs.size (Obj.mapSeq (· ++ vs.toArray))).objs.size = s.heap.objs.size + 1 := by
    rw [Heap.size_update, size_push']
  have hoL : (((s.heap.push (seqObj "list" #[] 0)).update s.heap.objs.size (Obj.mapSeq (· ++ vs.toArray))).push (seqObj "list" vs.toArray 0)).get? (s.heap.objs.size + 1) = some (seqObj "list" vs.toArray 0) := by
    rw [← hsz]; exact Heap.get?_push_size _ rfl
  show wpAny _ _ _ _ _ { s with heap := ((s.heap.push (seqObj "list" #[] 0)).update s.heap.objs.size (Obj.mapSeq (· ++ vs.toArray))).push (seqObj "list" vs.toArray 0) }
  rw [hsz]
  refine wpAny_bind (wpAny_holding (wpAny_call_entry slot_list_sort ⟨_, hoL, rfl⟩ entry_list_sort (list_sort_tree hoL hI h64 fun out ns' a1 a2 a3 => ⟨_, rfl, ?_⟩) (args_list_sort _)))
  exact wpAny_pure ⟨_, rfl, h out ns' a1 a2 a3⟩
end
end PyProof.Rows
namespace L2
open PySem PySem.Spec PyProof.Rows
def rSortT (K : PySem.W.Frag) : List V → Hp → VK → Prop := fun vs H Q => ∃ (a : Addr) (ns : List Int), vs = [V.ref a] ∧ SqT K H a (ns.map V.int) ∧ ns.length < 64 ∧
  ∀ (ns' : List Int) (p : Addr), ns'.Perm ns → ns'.Pairwise (· ≤ ·) → H p = none → Q (.ref p) (upd H p (.lst (ns'.map V.int)))
theorem cr_sortT1 {X : Cx} : CallR X (.builtin "sorted") (rSortT X.K) := by
  intro pins s σ H vs us Q I r h
  obtain ⟨a, ns, rfl, hs, h64, q⟩ := h
  obtain ⟨its, rv, hl, _⟩ := I.tuple hs
  rw [Vals.ref1 r]
  have hi := rv.ints
  refine PyProof.Rows.sorted_intsT (show s.heap.IsTuple a its.toArray from hl) hi (by rw [hi.length]; exact h64) fun out ns' h1 h2 h3 => ?_
  obtain ⟨ep, he'⟩ := PyProof.Rows.sortedAll_at s.heap its out
  have hlen : (ns'.map V.int).length ≤ sizeLine := by rw [List.length_map, h2.length_eq]; exact small64 h64
  exact ⟨.ref _, upd H (s.heap.objs.size + 1) (.lst (ns'.map V.int)), I.laid (t' := s.toks) (fun _ _ => PyProof.Rows.sortedAll_old) (Nat.le_succ _) ⟨hlen, out.toList, ep, vals_of_ints h1, he'⟩, rfl, q ns' _ h2 h3 (I.hok.fresh (Nat.le_succ _))⟩
end L2

set_option Elab.async false
set_option linter.all false
set_option maxRecDepth 100000
set_option maxHeartbeats 4000000
set_option autoImplicit false
namespace Hc
open PySem L2
def top (i : Nat) : Stmt := PySem.Challenge.pw_hourcards_k02_roads_ways_and_lots.main.body.getD i (.Pass ⟨0, 0, 0, 0⟩)
structure Df (K : PySem.W.Frag) (mg : Str → Option Value) (x : Str) (st : Stmt) (ps : List Str) : Type where
  f : Addr
  fd : FuncData
  F : Fun K x x st f fd
  g : mg x = some (.ref f)
  b : Binds K fd ps []
/-- an own class -/
structure Wf (K : PySem.W.Frag) (mg : Str → Option Value) (x q : Str) (st : Stmt) (ps fs : List Str) : Type where
  C : Addr
  f : Addr
  fd : FuncData
  F : Fun K "__init__" q st f fd
  g : mg x = some (.ref C)
  b : Binds K fd ps []
  mk1 : Mk K C f
  cl : Cls K C
  no : ∀ x ∈ fs, PySem.W.findIn K (.ref C) x = some none
/-- an own error -/
structure Xf (K : PySem.W.Frag) (mg : Str → Option Value) (x q : Str) (st : Stmt) (ps fs : List Str) : Type where
  C : Addr
  f : Addr
  fd : FuncData
  F : Fun K "__init__" q st f fd
  g : mg x = some (.ref C)
  b : Binds K fd ps []
  T : OexC K C
  iC : PySem.W.findIn K (.ref C) "__init__" = some (some (.ref f))
  tI : PySem.W.typeIn K (.ref f) = some (.type "function")
  xf : XfC K C
  te : PySem.W.exmOne K (.ref C) (.ref C) = some true
  no : ∀ x ∈ fs, PySem.W.findIn K (.ref C) x = some none
/-- what isinstance asks of the error class at D, and of its base -/
structure HeF (K : PySem.W.Frag) (mg : Str → Option Value) (D : Addr) : Type where
  C : Addr
  g : mg "HourError" = some (.ref C)
  k1 : PySem.W.kitOne K (.ref D) (.ref C) = some true
  k2 : PySem.W.kitOne K (.ref D) (.type "ValueError") = some true
  ec : ExcC K D
abbrev s_is_integer : Stmt := (top 1)
theorem sc_is_integer : FnScope ["thing"] ["thing"] (defScope s_is_integer) := ⟨rfl, rfl, rfl, by decide +kernel, rfl, by decide +kernel, by decide +kernel⟩
abbrev s_is_between : Stmt := (top 2)
theorem sc_is_between : FnScope ["low", "high", "thing"] ["low", "high", "thing"] (defScope s_is_between) := ⟨rfl, rfl, rfl, by decide +kernel, rfl, by decide +kernel, by decide +kernel⟩
abbrev s_is_tuple : Stmt := (top 3)
theorem sc_is_tuple : FnScope ["many", "thing"] ["many", "thing"] (defScope s_is_tuple) := ⟨rfl, rfl, rfl, by decide +kernel, rfl, by decide +kernel, by decide +kernel⟩
abbrev s_are_integers : Stmt := (top 4)
theorem sc_are_integers : FnScope ["many", "thing", "one"] ["many", "thing"] (defScope s_are_integers) := ⟨rfl, rfl, rfl, by decide +kernel, rfl, by decide +kernel, by decide +kernel⟩
abbrev s_are_between : Stmt := (top 5)
theorem sc_are_between : FnScope ["many", "low", "high", "thing", "one"] ["many", "low", "high", "thing"] (defScope s_are_between) := ⟨rfl, rfl, rfl, by decide +kernel, rfl, by decide +kernel, by decide +kernel⟩
abbrev s_are_roads : Stmt := (top 17)
theorem sc_are_roads : FnScope ["houses", "thing", "road"] ["houses", "thing"] (defScope s_are_roads) := ⟨rfl, rfl, rfl, by decide +kernel, rfl, by decide +kernel, by decide +kernel⟩
abbrev s_is_begin_and_end : Stmt := (top 18)
theorem sc_is_begin_and_end : FnScope ["houses", "thing"] ["houses", "thing"] (defScope s_is_begin_and_end) := ⟨rfl, rfl, rfl, by decide +kernel, rfl, by decide +kernel, by decide +kernel⟩
abbrev s_is_road : Stmt := (top 19)
theorem sc_is_road : FnScope ["web", "thing"] ["web", "thing"] (defScope s_is_road) := ⟨rfl, rfl, rfl, by decide +kernel, rfl, by decide +kernel, by decide +kernel⟩
abbrev s_next_roads : Stmt := (top 20)
theorem sc_next_roads : FnScope ["web", "road", "end", "number", "begin", "_"] ["web", "road"] (defScope s_next_roads) := ⟨rfl, rfl, rfl, by decide +kernel, rfl, by decide +kernel, by decide +kernel⟩
abbrev s_is_way : Stmt := (top 21)
theorem sc_is_way : FnScope ["web", "thing", "road", "after"] ["web", "thing"] (defScope s_is_way) := ⟨rfl, rfl, rfl, by decide +kernel, rfl, by decide +kernel, by decide +kernel⟩
abbrev s_is_lot : Stmt := (top 22)
theorem sc_is_lot : FnScope ["web", "thing", "road", "after"] ["web", "thing"] (defScope s_is_lot) := ⟨rfl, rfl, rfl, by decide +kernel, rfl, by decide +kernel, by decide +kernel⟩
abbrev s_law_hand : Stmt := (top 24)
theorem sc_law_hand : FnScope ["_law_script", "_law_cells", "_law_cell"] ["_law_script"] (defScope s_law_hand) := ⟨rfl, rfl, rfl, by decide +kernel, rfl, by decide +kernel, by decide +kernel⟩
abbrev s_law_draw : Stmt := (top 25)
theorem sc_law_draw : FnScope ["_law_hand_here", "_law_many", "_law_cell", "_law_digit", "_law_number"] ["_law_hand_here", "_law_many"] (defScope s_law_draw) := ⟨rfl, rfl, rfl, by decide +kernel, rfl, by decide +kernel, by decide +kernel⟩
abbrev s_law_counts : Stmt := (top 26)
theorem sc_law_counts : FnScope ["_law_hand_here", "_law_many", "_law_road"] ["_law_hand_here", "_law_many"] (defScope s_law_counts) := ⟨rfl, rfl, rfl, by decide +kernel, rfl, by decide +kernel, by decide +kernel⟩
abbrev s_law_web : Stmt := (top 27)
theorem sc_law_web : FnScope ["_law_hand_here", "_law_towns", "_law_most", "_law_houses", "_law_many", "_law_chained", "_law_roads", "_law_road", "_law_begin"] ["_law_hand_here", "_law_towns", "_law_most"] (defScope s_law_web) := ⟨rfl, rfl, rfl, by decide +kernel, rfl, by decide +kernel, by decide +kernel⟩
abbrev s_law_next : Stmt := (top 28)
theorem sc_law_next : FnScope ["_law_web_here", "_law_road", "_law_other"] ["_law_web_here", "_law_road"] (defScope s_law_next) := ⟨rfl, rfl, rfl, by decide +kernel, rfl, by decide +kernel, by decide +kernel⟩
abbrev s_law_way : Stmt := (top 29)
theorem sc_law_way : FnScope ["_law_hand_here", "_law_web_here", "_law_most", "_law_way_here", "_law_turn", "_law_behind"] ["_law_hand_here", "_law_web_here", "_law_most"] (defScope s_law_way) := ⟨rfl, rfl, rfl, by decide +kernel, rfl, by decide +kernel, by decide +kernel⟩
abbrev s_law_odd : Stmt := (top 31)
theorem sc_law_odd : FnScope ["_law_hand_here", "_law_deep", "_law_turn", "_law_odd_here"] ["_law_hand_here"] (defScope s_law_odd) := ⟨rfl, rfl, rfl, by decide +kernel, rfl, by decide +kernel, by decide +kernel⟩
abbrev s_law_is_road : Stmt := (top 32)
theorem sc_law_is_road : FnScope ["_law_web_here", "_law_thing"] ["_law_web_here", "_law_thing"] (defScope s_law_is_road) := ⟨rfl, rfl, rfl, by decide +kernel, rfl, by decide +kernel, by decide +kernel⟩
abbrev s_law_is_way : Stmt := (top 33)
theorem sc_law_is_way : FnScope ["_law_web_here", "_law_thing", "_law_road", "_law_at"] ["_law_web_here", "_law_thing"] (defScope s_law_is_way) := ⟨rfl, rfl, rfl, by decide +kernel, rfl, by decide +kernel, by decide +kernel⟩
abbrev s_law_is_lot : Stmt := (top 34)
theorem sc_law_is_lot : FnScope ["_law_web_here", "_law_thing", "_law_road"] ["_law_web_here", "_law_thing"] (defScope s_law_is_lot) := ⟨rfl, rfl, rfl, by decide +kernel, rfl, by decide +kernel, by decide +kernel⟩
abbrev s_law_refused : Stmt := (top 35)
theorem sc_law_refused : FnScope ["_law_web_here", "_law_thing", "_law_told", "e"] ["_law_web_here", "_law_thing"] (defScope s_law_refused) := ⟨rfl, rfl, rfl, by decide +kernel, rfl, by decide +kernel, by decide +kernel⟩
abbrev s_law_things : Stmt := (top 36)
theorem sc_law_things : FnScope ["_law_hand_here", "_law_web_here", "_law_many", "_law_way_here", "_law_at", "_law_drawn", "_law_things_here", "_law_turn"] ["_law_hand_here", "_law_web_here"] (defScope s_law_things) := ⟨rfl, rfl, rfl, by decide +kernel, rfl, by decide +kernel, by decide +kernel⟩
abbrev s_law : Stmt := (top 37)
theorem sc_law : FnScope ["_law_script", "_law_hand_here", "_law_turn", "_law_drawn", "_law_web_here", "_law_road", "_law_thing", "_law_told"] ["_law_script"] (defScope s_law) := ⟨rfl, rfl, rfl, by decide +kernel, rfl, by decide +kernel, by decide +kernel⟩
abbrev s_Web___init : Stmt := inClass (top 16) 0
theorem sc_Web___init : FnScope ["self", "houses", "roads", "rooms", "times"] ["self", "houses", "roads", "rooms", "times"] (defScope s_Web___init) := ⟨rfl, rfl, rfl, by decide +kernel, rfl, by decide +kernel, by decide +kernel⟩
abbrev s_BadWeb___init : Stmt := inClass (top 8) 0
theorem sc_BadWeb___init : FnScope ["self", "part"] ["self", "part"] (defScope s_BadWeb___init) := ⟨rfl, rfl, rfl, by decide +kernel, rfl, by decide +kernel, by decide +kernel⟩
abbrev s_NoRoad___init : Stmt := inClass (top 9) 0
theorem sc_NoRoad___init : FnScope ["self"] ["self"] (defScope s_NoRoad___init) := ⟨rfl, rfl, rfl, by decide +kernel, rfl, by decide +kernel, by decide +kernel⟩
structure Tx (K : PySem.W.Frag) (mg : Str → Option Value) : Type where
  is_integer : Df K mg "is_integer" s_is_integer ["thing"]
  is_between : Df K mg "is_between" s_is_between ["low", "high", "thing"]
  is_tuple : Df K mg "is_tuple" s_is_tuple ["many", "thing"]
  are_integers : Df K mg "are_integers" s_are_integers ["many", "thing"]
  are_between : Df K mg "are_between" s_are_between ["many", "low", "high", "thing"]
  are_roads : Df K mg "are_roads" s_are_roads ["houses", "thing"]
  is_begin_and_end : Df K mg "is_begin_and_end" s_is_begin_and_end ["houses", "thing"]
  is_road : Df K mg "is_road" s_is_road ["web", "thing"]
  next_roads : Df K mg "next_roads" s_next_roads ["web", "road"]
  is_way : Df K mg "is_way" s_is_way ["web", "thing"]
  is_lot : Df K mg "is_lot" s_is_lot ["web", "thing"]
  _law_hand : Df K mg "_law_hand" s_law_hand ["_law_script"]
  _law_draw : Df K mg "_law_draw" s_law_draw ["_law_hand_here", "_law_many"]
  _law_counts : Df K mg "_law_counts" s_law_counts ["_law_hand_here", "_law_many"]
  _law_web : Df K mg "_law_web" s_law_web ["_law_hand_here", "_law_towns", "_law_most"]
  _law_next : Df K mg "_law_next" s_law_next ["_law_web_here", "_law_road"]
  _law_way : Df K mg "_law_way" s_law_way ["_law_hand_here", "_law_web_here", "_law_most"]
  _law_odd : Df K mg "_law_odd" s_law_odd ["_law_hand_here"]
  _law_is_road : Df K mg "_law_is_road" s_law_is_road ["_law_web_here", "_law_thing"]
  _law_is_way : Df K mg "_law_is_way" s_law_is_way ["_law_web_here", "_law_thing"]
  _law_is_lot : Df K mg "_law_is_lot" s_law_is_lot ["_law_web_here", "_law_thing"]
  _law_refused : Df K mg "_law_refused" s_law_refused ["_law_web_here", "_law_thing"]
  _law_things : Df K mg "_law_things" s_law_things ["_law_hand_here", "_law_web_here"]
  law : Df K mg "law" s_law ["_law_script"]
  c_MOST_HOUSES : ∃ t, mg "MOST_HOUSES" = some (.int 12 t)
  c_MOST_ROADS : ∃ t, mg "MOST_ROADS" = some (.int 24 t)
  c_MOST_ROOMS : ∃ t, mg "MOST_ROOMS" = some (.int 3 t)
  c_LONGEST_TIME : ∃ t, mg "LONGEST_TIME" = some (.int 3 t)
  c_LONGEST_WAY : ∃ t, mg "LONGEST_WAY" = some (.int 8 t)
  Web : Wf K mg "Web" "Web.__init__" s_Web___init ["self", "houses", "roads", "rooms", "times"] ["houses", "roads", "rooms", "times"]
  x_BadWeb : Xf K mg "BadWeb" "BadWeb.__init__" s_BadWeb___init ["self", "part"] ["part"]
  x_NoRoad : Xf K mg "NoRoad" "NoRoad.__init__" s_NoRoad___init ["self"] []
  he : HeF K mg x_NoRoad.C
  n_isinstance : mg "isinstance" = none
  n_int : mg "int" = none
  n_bool : mg "bool" = none
  n_tuple : mg "tuple" = none
  n_len : mg "len" = none
  n_all : mg "all" = none
  n_abs : mg "abs" = none
  n_range : mg "range" = none
  n_list : mg "list" = none
  n_zip : mg "zip" = none
  n_enumerate : mg "enumerate" = none
  n_set : mg "set" = none
  n_sorted : mg "sorted" = none
  n_ValueError : mg "ValueError" = none

section
variable {P : Program} {w : World} {K : PySem.W.Frag} {mg : Str → Option Value} {base : Heap}
def spThing (g : D → Bool) : Sp := fun vs H Q _ => ∃ (h : Addr) (v : V) (d : D), vs = [v] ∧ Rp H h v d ∧ Q (.bl (g d)) H
theorem ok_is_integer (T : Tx K mg) : FnOk P w K mg base CX0 1 T.is_integer.f T.is_integer.fd ["thing"] (spThing isInt) := by
  refine T.is_integer.F.ok sc_is_integer (fun vs H Q E h => ?_) (fun cdv A outer s H vs Q E hr h => ?_)
  · obtain ⟨_, v, d, rfl, _⟩ := h
    rfl
  · obtain ⟨_, v, d, rfl, r, k⟩ := h
    refine ⟨_, (pss_one (ps_ret (pe_and (pe_callB call_isi (by rfl) T.n_isinstance (by decide +kernel) (pa_cons (pv 0) (pa_cons (pe_bltn (v := .ty "int") (by rfl) T.n_int (by decide +kernel) rfl) pa_nil))) (pe_one (pe_not (pe_callB call_isi (by rfl) T.n_isinstance (by decide +kernel) (pa_cons (pv 0) (pa_cons (pe_bltn (v := .ty "bool") (by rfl) T.n_bool (by decide +kernel) rfl) pa_nil)))))))), ?_⟩
    refine ⟨_, rfl, _, _, _, _, _, rfl, .ty "int", r.ty, kit_ty (kitI d), _, rfl, ?_⟩
    cases e : isIB d with
    | false =>
      refine iteF ?_
      have : isInt d = false := by cases d <;> first | rfl | exact Bool.noConfusion e
      rw [this] at k
      exact k
    | true =>
      refine iteT ?_
      refine ⟨_, rfl, _, _, _, _, _, rfl, .ty "bool", r.ty, kit_ty (kitBo d), _, rfl, ?_⟩
      have : (!isB d) = isInt d := by cases d <;> first | rfl | exact Bool.noConfusion e
      rw [this]
      exact k
def spBtw : Sp := fun vs H Q _ => ∃ (h : Addr) (lo hi : Int) (v : V) (d : D), vs = [.int lo, .int hi, v] ∧ Rp H h v d ∧ Q (.bl (isBtw lo hi d)) H
theorem ok_is_between (T : Tx K mg) : FnOk P w K mg base CX0 2 T.is_between.f T.is_between.fd ["low", "high", "thing"] spBtw := by
  refine T.is_between.F.ok sc_is_between (fun vs H Q E h => ?_) (fun cdv A outer s H vs Q E hr h => ?_)
  · obtain ⟨_, lo, hi, v, d, rfl, _⟩ := h
    rfl
  · obtain ⟨_, lo, hi, v, d, rfl, r, k⟩ := h
    refine ⟨_, (pss_one (ps_ret (pe_and (pe_call (ok_is_integer T) (hr.mono (by decide)) rfl T.is_integer.g T.is_integer.F.kp T.is_integer.b .nil pass0 (pa_cons (pv 2) pa_nil)) (pe_one (pe_chain op_le op_le (pv 0) (pv 2) (pv 1)))))), ?_⟩
    refine ⟨_, rfl, _, v, d, rfl, r, _, rfl, ?_⟩
    cases r with
    | int i =>
      refine iteT ?_
      refine ⟨_, rfl, _, rfl, _, _, rfl, rfl, _, rfl, ?_⟩
      by_cases h1 : lo ≤ i
      · rw [decide_eq_true h1]
        refine iteT ?_
        refine ⟨_, rfl, _, _, rfl, rfl, ?_⟩
        have : isBtw lo hi (.int i) = decide (i ≤ hi) := by show (decide (lo ≤ i) && decide (i ≤ hi)) = _; rw [decide_eq_true h1]; rfl
        rw [this] at k
        exact k
      · rw [decide_eq_false h1]
        refine iteF ?_
        have : isBtw lo hi (.int i) = false := by show (decide (lo ≤ i) && decide (i ≤ hi)) = _; rw [decide_eq_false h1]; rfl
        rw [this] at k
        exact k
    | _ => exact iteF k
def isTupN (n : Int) : D → Bool | .tup ds => decide ((ds.length : Int) = n) | _ => false
def spTupN : Sp := fun vs H Q _ => ∃ (h : Addr) (n : Int) (v : V) (d : D), vs = [.int n, v] ∧ Rp H h v d ∧ Q (.bl (isTupN n d)) H
theorem int_eqd (a b : Int) : decide (V.int a = V.int b) = decide (a = b) := by
  by_cases e : a = b
  · subst e; simp
  · rw [decide_eq_false e, decide_eq_false fun z => e (V.int.inj z)]
theorem ok_is_tuple (T : Tx K mg) : FnOk P w K mg base CX0 1 T.is_tuple.f T.is_tuple.fd ["many", "thing"] spTupN := by
  refine T.is_tuple.F.ok sc_is_tuple (fun vs H Q E h => ?_) (fun cdv A outer s H vs Q E hr h => ?_)
  · obtain ⟨_, n, v, d, rfl, _⟩ := h
    rfl
  · obtain ⟨ha, n, v, d, rfl, r, k⟩ := h
    refine ⟨_, (pss_one (ps_ret (pe_and (pe_callB call_isi (by rfl) T.n_isinstance (by decide +kernel) (pa_cons (pv 1) (pa_cons (pe_bltn (v := .ty "tuple") (by rfl) T.n_tuple (by decide +kernel) rfl) pa_nil))) (pe_one (pe_cmpR op_eq (pe_callB call_len_seq (by rfl) T.n_len (by decide +kernel) (pa_cons (pv 1) pa_nil)) (pv 0) (nomark _)))))), ?_⟩
    refine ⟨_, rfl, _, _, _, _, _, rfl, .ty "tuple", r.ty, kit_ty (kitT d), _, rfl, ?_⟩
    cases r with
    | @tup _ xs ds e z ra =>
      refine iteT ?_
      refine ⟨_, rfl, _, _, rfl, .inr (SqT.of e), _, rfl, rfl, ?_⟩
      rw [int_eqd, ra.len]
      exact k
    | _ => exact iteF k
def spInts : Sp := fun vs H Q _ => ∃ (h : Addr) (n : Int) (v : V) (d : D), vs = [.int n, v] ∧ Rp H h v d ∧ ∀ H', Same H H' → Q (.bl (areInts n d)) H'
theorem areInts_tup (n : Int) (ds : List D) : areInts n (.tup ds) = (decide ((ds.length : Int) = n) && ds.all isInt) := rfl
theorem areBtw_tup (n lo hi : Int) (ds : List D) : areBtw n lo hi (.tup ds) = (decide ((ds.length : Int) = n) && ds.all (isBtw lo hi)) := rfl
theorem areRoads_tup (n : Int) (ds : List D) : areRoads n (.tup ds) = (decide (1 ≤ ds.length) && decide (ds.length ≤ 24) && ds.all (isBE n)) := rfl
theorem map_all (ds : List D) (p : D → Bool) : (ds.map p).all id = ds.all p := by rw [List.all_map]; rfl
theorem ok_are_integers (T : Tx K mg) : FnOk P w K mg base CX0 2 T.are_integers.f T.are_integers.fd ["many", "thing"] spInts := by
  refine T.are_integers.F.ok sc_are_integers (fun vs H Q E h => ?_) (fun cdv A outer s H vs Q E hr h => ?_)
  · obtain ⟨_, n, v, d, rfl, _⟩ := h
    rfl
  · obtain ⟨ha, n, v, d, rfl, r, k⟩ := h
    refine ⟨_, (pss_one (ps_ret (pe_and (pe_call (ok_is_tuple T) (hr.mono (by decide)) rfl T.is_tuple.g T.is_tuple.F.kp T.is_tuple.b .nil pass0 (pa_cons (pv 0) (pa_cons (pv 1) pa_nil))) (pe_one (pe_callB (cr_all rfl) (by rfl) T.n_all (by decide +kernel) (pa_cons (pe_lc (own := [("one", 2)]) (g := (gName 2)) (tt := tYes) rfl sc_are_integers.nd (pi_tup (pv 1)) (blkOk_by (own := [("one", 2)]) (N := ["many", "thing", "one"]) (sc := defScope s_are_integers) (by decide +kernel)) (fun _ _ _ _ _ => (pg_name (i := 2) sc_are_integers.nd rfl (Or.inl rfl))) (fun _ _ _ _ _ => pts_nil) (fun _ _ _ _ _ => (by exact (pe_call (ok_is_integer T) (hr.mono (by decide)) rfl T.is_integer.g T.is_integer.F.kp T.is_integer.b .nil pass0 (pa_cons (pv 2) pa_nil))))) pa_nil)))))), ?_⟩
    refine ⟨_, rfl, _, rfl, ha, n, v, d, rfl, r, _, rfl, ?_⟩
    cases r with
    | @tup _ xs ds e z ra =>
      show if decide ((ds.length : Int) = n) = true then _ else _
      by_cases hn : (ds.length : Int) = n
      · rw [decide_eq_true hn]
        refine iteT ?_
        refine ⟨_, rfl, _, rfl, ⟨_, SqT.of e⟩, fun A hA => all_tup e z ra isInt hA (fun x => rfl) (fun x d H' Q' _ _ rp q => ?_) (fun H' sm sl => ?_)⟩
        · exact ⟨_, rfl, ha, _, _, rfl, rp, q _ (Same.refl _)⟩
        · refine ⟨_, _, rfl, sl, ?_⟩
          rw [map_all]
          have := k H' sm
          rw [areInts_tup, decide_eq_true hn] at this
          exact this
      · rw [decide_eq_false hn]
        refine iteF ?_
        have := k H (Same.refl _)
        rw [areInts_tup, decide_eq_false hn] at this
        exact this
    | _ => exact iteF (k H (Same.refl _))
def spBtws : Sp := fun vs H Q _ => ∃ (h : Addr) (n lo hi : Int) (v : V) (d : D), vs = [.int n, .int lo, .int hi, v] ∧ Rp H h v d ∧ ∀ H', Same H H' → Q (.bl (areBtw n lo hi d)) H'
theorem btw_int (lo hi : Int) (ds : List D) : (ds.all isInt && ds.all (isBtw lo hi)) = ds.all (isBtw lo hi) := by
  cases e : ds.all (isBtw lo hi) with
  | false => rw [Bool.and_false]
  | true =>
    rw [Bool.and_true, List.all_eq_true]
    rw [List.all_eq_true] at e
    intro d hd
    have := e d hd
    cases d <;> first | rfl | exact Bool.noConfusion this
theorem ok_are_between (T : Tx K mg) : FnOk P w K mg base CX0 3 T.are_between.f T.are_between.fd ["many", "low", "high", "thing"] spBtws := by
  refine T.are_between.F.ok sc_are_between (fun vs H Q E h => ?_) (fun cdv A outer s H vs Q E hr h => ?_)
  · obtain ⟨_, n, lo, hi, v, d, rfl, _⟩ := h
    rfl
  · obtain ⟨ha, n, lo, hi, v, d, rfl, r, k⟩ := h
    refine ⟨_, (pss_one (ps_ret (pe_and (pe_call (ok_are_integers T) (hr.mono (by decide)) rfl T.are_integers.g T.are_integers.F.kp T.are_integers.b .nil pass0 (pa_cons (pv 0) (pa_cons (pv 3) pa_nil))) (pe_one (pe_callB (cr_all rfl) (by rfl) T.n_all (by decide +kernel) (pa_cons (pe_lc (own := [("one", 4)]) (g := (gName 4)) (tt := tYes) rfl sc_are_between.nd (pi_tup (pv 3)) (blkOk_by (own := [("one", 4)]) (N := ["many", "low", "high", "thing", "one"]) (sc := defScope s_are_between) (by decide +kernel)) (fun _ _ _ _ _ => (pg_name (i := 4) sc_are_between.nd rfl (Or.inl rfl))) (fun _ _ _ _ _ => pts_nil) (fun _ _ _ _ _ => (by exact (pe_chain op_le op_le (pv 1) (pv 4) (pv 2))))) pa_nil)))))), ?_⟩
    refine ⟨_, rfl, _, rfl, ha, _, _, _, rfl, r, fun H1 s1 => ⟨_, rfl, ?_⟩⟩
    cases e1 : areInts n d with
    | false =>
      refine iteF ?_
      have : areBtw n lo hi d = false := by
        cases d with
        | tup ds =>
          show (decide _ && ds.all (isBtw lo hi)) = false
          rw [← btw_int, ← Bool.and_assoc]
          have e2 : (decide ((ds.length : Int) = n) && ds.all isInt) = false := e1
          rw [e2]; rfl
        | _ => rfl
      have q := k H1 s1
      rw [this] at q
      exact q
    | true =>
      refine iteT ?_
      cases r.same s1 with
      | tup e z ra =>
        refine ⟨_, rfl, _, rfl, ⟨_, SqT.of e⟩, fun A hA => all_tup e z ra (isBtw lo hi) hA (fun x => rfl) (fun x d H' Q' hd _ rp q => ?_) (fun H' sm sl => ?_)⟩
        · have e2 := (Bool.and_eq_true_iff.mp e1).2
          rw [List.all_eq_true] at e2
          have e3 := e2 d hd
          cases rp with
          | int i =>
            refine ⟨_, rfl, _, rfl, _, _, rfl, rfl, _, rfl, ?_⟩
            by_cases h1 : lo ≤ i
            · rw [decide_eq_true h1]
              refine iteT ?_
              refine ⟨_, rfl, _, _, rfl, rfl, ?_⟩
              have : isBtw lo hi (.int i) = decide (i ≤ hi) := by show (decide (lo ≤ i) && decide (i ≤ hi)) = _; rw [decide_eq_true h1]; rfl
              have q2 := q _ (Same.refl _)
              rw [this] at q2
              exact q2
            · rw [decide_eq_false h1]
              refine iteF ?_
              have : isBtw lo hi (.int i) = false := by show (decide (lo ≤ i) && decide (i ≤ hi)) = _; rw [decide_eq_false h1]; rfl
              have q2 := q _ (Same.refl _)
              rw [this] at q2
              exact q2
          | _ => exact Bool.noConfusion e3
        · refine ⟨_, _, rfl, sl, ?_⟩
          rw [map_all]
          have := k H' (s1.trans sm)
          have e4 := (Bool.and_eq_true_iff.mp e1).1
          rw [areBtw_tup, e4] at this
          exact this
      | _ => exact Bool.noConfusion e1
def spBE : Sp := fun vs H Q _ => ∃ (h : Addr) (n : Int) (v : V) (d : D), vs = [.int n, v] ∧ Rp H h v d ∧ ∀ H', Same H H' → Q (.bl (isBE n d)) H'
theorem be_false {n : Int} {d : D} (e : areBtw 2 0 (n - 1) d = false) : isBE n d = false := by
  unfold isBE
  rw [e]; rfl
theorem be_true {n : Int} {d : D} (e : areBtw 2 0 (n - 1) d = true) : ∃ a b, d = .tup [.int a, .int b] ∧ isBE n d = !decide (a = b) := by
  have e0 := e
  cases d with
  | tup ds =>
    rw [areBtw_tup] at e
    obtain ⟨h1, h2⟩ := Bool.and_eq_true_iff.mp e
    have h3 := of_decide_eq_true h1
    match ds, h3 with
    | [x, y], _ =>
      rw [List.all_cons, List.all_cons, List.all_nil, Bool.and_true] at h2
      obtain ⟨h4, h5⟩ := Bool.and_eq_true_iff.mp h2
      cases x with
      | int a =>
        cases y with
        | int b =>
          refine ⟨a, b, rfl, ?_⟩
          unfold isBE
          rw [e0]; rfl
        | _ => exact Bool.noConfusion h5
      | _ => exact Bool.noConfusion h4
    | [], h => simp at h
    | [_], h => simp at h
    | _ :: _ :: _ :: _, h => simp at h; omega
  | _ => exact Bool.noConfusion e
theorem ok_is_begin_and_end (T : Tx K mg) : FnOk P w K mg base CX0 4 T.is_begin_and_end.f T.is_begin_and_end.fd ["houses", "thing"] spBE := by
  refine T.is_begin_and_end.F.ok sc_is_begin_and_end (fun vs H Q E h => ?_) (fun cdv A outer s H vs Q E hr h => ?_)
  · obtain ⟨_, n, v, d, rfl, _⟩ := h
    rfl
  · obtain ⟨ha, n, v, d, rfl, r, k⟩ := h
    refine ⟨_, (pss_one (ps_ret (pe_and (pe_call (ok_are_between T) (hr.mono (by decide)) rfl T.are_between.g T.are_between.F.kp T.are_between.b .nil pass0 (pa_cons pe_int (pa_cons pe_int (pa_cons (pe_op op_sub (pv 0) pe_int) (pa_cons (pv 1) pa_nil))))) (pe_one (pe_cmpR op_ne (pe_ix ix_tup (pv 1) pe_int (fun _ _ => rfl)) (pe_ix ix_tup (pv 1) pe_int (fun _ _ => rfl)) (nomark _)))))), ?_⟩
    refine ⟨_, rfl, _, _, rfl, rfl, _, rfl, ha, _, _, _, _, _, rfl, r, fun H1 s1 => ⟨_, rfl, ?_⟩⟩
    cases e1 : areBtw 2 0 (n - 1) d with
    | false =>
      refine iteF ?_
      have q := k H1 s1
      rw [be_false e1] at q
      exact q
    | true =>
      refine iteT ?_
      obtain ⟨a, b, rfl, e2⟩ := be_true e1
      have q := k H1 s1
      rw [e2] at q
      cases r.same s1 with
      | tup e z ra =>
        cases ra with
        | cons r1 ra =>
          cases ra with
          | cons r2 ra =>
            cases ra
            cases r1
            cases r2
            refine ⟨_, rfl, _, _, _, _, rfl, rfl, SqT.of e, atI_nat (j := 0) rfl, _, rfl, _, _, _, _, rfl, rfl, SqT.of e, atI_nat (j := 1) rfl, rfl, ?_⟩
            rw [int_eqd]
            exact q
def spRoads : Sp := fun vs H Q _ => ∃ (h : Addr) (n : Int) (v : V) (d : D), vs = [.int n, v] ∧ Rp H h v d ∧ ∀ H', Same H H' → Q (.bl (areRoads n d)) H'
theorem ok_are_roads (T : Tx K mg) : FnOk P w K mg base CX0 5 T.are_roads.f T.are_roads.fd ["houses", "thing"] spRoads := by
  refine T.are_roads.F.ok sc_are_roads (fun vs H Q E h => ?_) (fun cdv A outer s H vs Q E hr h => ?_)
  · obtain ⟨_, n, v, d, rfl, _⟩ := h
    rfl
  · obtain ⟨ha, n, v, d, rfl, r, k⟩ := h
    refine ⟨_, (pss_one (ps_ret (pe_and (pe_callB call_isi (by rfl) T.n_isinstance (by decide +kernel) (pa_cons (pv 1) (pa_cons (pe_bltn (v := .ty "tuple") (by rfl) T.n_tuple (by decide +kernel) rfl) pa_nil))) (pe_and (pe_chain op_le op_le pe_int (pe_callB call_len_seq (by rfl) T.n_len (by decide +kernel) (pa_cons (pv 1) pa_nil)) (pe_glob (v := .int 24) rfl T.c_MOST_ROADS.choose_spec ⟨_, rfl⟩)) (pe_one (pe_callB (cr_all rfl) (by rfl) T.n_all (by decide +kernel) (pa_cons (pe_lc (own := [("road", 2)]) (g := (gName 2)) (tt := tYes) rfl sc_are_roads.nd (pi_tup (pv 1)) (blkOk_by (own := [("road", 2)]) (N := ["houses", "thing", "road"]) (sc := defScope s_are_roads) (by decide +kernel)) (fun _ _ _ _ _ => (pg_name (i := 2) sc_are_roads.nd rfl (Or.inl rfl))) (fun _ _ _ _ _ => pts_nil) (fun _ _ _ _ _ => (by exact (pe_call (ok_is_begin_and_end T) (hr.mono (by decide)) rfl T.is_begin_and_end.g T.is_begin_and_end.F.kp T.is_begin_and_end.b .nil pass0 (pa_cons (pv 0) (pa_cons (pv 2) pa_nil)))))) pa_nil))))))), ?_⟩
    refine ⟨_, rfl, _, _, _, _, _, rfl, .ty "tuple", r.ty, kit_ty (kitT d), _, rfl, ?_⟩
    cases r with
    | @tup _ xs ds e z ra =>
      refine iteT ?_
      refine ⟨_, rfl, _, _, rfl, .inr (SqT.of e), _, _, rfl, rfl, _, rfl, ?_⟩
      rw [ra.len]
      by_cases h1 : 1 ≤ ds.length
      · rw [decide_eq_true (show (1 : Int) ≤ (ds.length : Int) by omega)]
        refine iteT ?_
        refine ⟨_, _, rfl, rfl, _, rfl, ?_⟩
        by_cases h2 : ds.length ≤ 24
        · rw [decide_eq_true (show (ds.length : Int) ≤ 24 by omega)]
          refine iteT ?_
          refine ⟨_, rfl, _, rfl, ⟨_, SqT.of e⟩, fun A hA => all_tup e z ra (isBE n) hA (fun x => rfl) (fun x d H' Q' _ _ rp q => ?_) (fun H' sm sl => ?_)⟩
          · exact ⟨_, rfl, _, rfl, ha, _, _, _, rfl, rp, q⟩
          · refine ⟨_, _, rfl, sl, ?_⟩
            rw [map_all]
            have := k H' sm
            rw [areRoads_tup, decide_eq_true h1, decide_eq_true h2] at this
            exact this
        · rw [decide_eq_false (show ¬ (ds.length : Int) ≤ 24 by omega)]
          refine iteF ?_
          have := k H (Same.refl _)
          rw [areRoads_tup, decide_eq_true h1, decide_eq_false h2] at this
          exact this
      · rw [decide_eq_false (show ¬ (1 : Int) ≤ (ds.length : Int) by omega)]
        refine iteF ?_
        have := k H (Same.refl _)
        rw [areRoads_tup, decide_eq_false h1] at this
        exact ⟨_, rfl, iteF this⟩
    | _ => exact iteF (k H (Same.refl _))
theorem btw_shape {lo hi : Int} {d : D} (e : isBtw lo hi d = true) : ∃ n, d = .int n := by
  cases d with
  | int n => exact ⟨n, rfl⟩
  | _ => exact Bool.noConfusion e
theorem roads_shape {n : Int} {d : D} (e : areRoads n d = true) : ∃ ds, d = .tup ds := by
  cases d with
  | tup ds => exact ⟨ds, rfl⟩
  | _ => exact Bool.noConfusion e
theorem tup_inv {H : Hp} {h : Addr} {v : V} {ds : List D} (r : Rp H h v (.tup ds)) : ∃ a xs, v = .ref a ∧ H a = some (.tup xs) ∧ xs.length ≤ 100000 ∧ RpA H h xs ds := by
  cases r with
  | tup e z ra => exact ⟨_, _, rfl, e, z, ra⟩
theorem int_inv {H : Hp} {h : Addr} {v : V} {i : Int} (r : Rp H h v (.int i)) : v = .int i := by
  cases r; rfl
theorem putF_lt {f : Str} {v : V} : ∀ {fs : List (Str × V)} {n : Nat}, fs.length < n → (putF f v fs).length < n + 1
  | [], n, h => by show 1 < n + 1; have : 0 < n := h; omega
  | (g, w) :: fs, n, h => by
    have h' : fs.length + 1 < n := h
    show (if g = f then (g, v) :: fs else (g, w) :: putF f v fs).length < n + 1
    by_cases e : g = f
    · rw [if_pos e]; show fs.length + 1 < n + 1; omega
    · rw [if_neg e]
      have := putF_lt (f := f) (v := v) (fs := fs) (n := n - 1) (by omega)
      show (putF f v fs).length + 1 < n + 1
      omega
/-- the error's own dict behind it -/
def spInitE (C : Addr) (f : Str) : Sp := fun vs H Q _ => ∃ (a : Addr) (y : V), vs = [.ref a, y] ∧ H a = some (exo a C none) ∧
  ∀ dx, H dx = none → dx ≠ a → Q .non (upd (upd H dx (exd dx [(f, y)])) a (exo a C (some dx)))
theorem ok_BadWeb___init (T : Tx K mg) : FnOk P w K mg base (L2.CX P w) 1 T.x_BadWeb.f T.x_BadWeb.fd ["self", "part"] (spInitE T.x_BadWeb.C "part") := by
  refine T.x_BadWeb.F.okX sc_BadWeb___init (fun vs H Q E h => ?_) (fun cdv A outer s H vs Q E hr h => ?_)
  · obtain ⟨a, y, rfl, _⟩ := h
    rfl
  · obtain ⟨a, y, rfl, ha, k⟩ := h
    refine ⟨_, pss_one (ps_ost (pv 0) (pv 1)), ?_⟩
    exact ⟨_, rfl, _, rfl, a, T.x_BadWeb.C, rfl, T.x_BadWeb.T, T.x_BadWeb.no _ (by simp), .inl ⟨ha, fun dx n ne => k dx n ne⟩⟩
def dlen : D → Nat | .tup ds => ds.length | _ => 0
def num : D → Int | .int i => i | _ => 0
/-- the first part that is not as told -/
def due (d1 d2 d3 d4 : D) : Option Str :=
  if isBtw 2 12 d1 = false then some "houses" else if areRoads (num d1) d2 = false then some "roads"
  else if areBtw (dlen d2) 1 3 d3 = false then some "rooms" else if areBtw (dlen d2) 1 3 d4 = false then some "times" else none
def webF (v1 v2 v3 v4 : V) : List (Str × V) := putF "times" v4 (putF "rooms" v3 (putF "roads" v2 (putF "houses" v1 [])))
def spWeb (C CB : Addr) : Sp := fun vs H Q E => ∃ (h p dx : Addr) (v1 v2 v3 v4 : V) (d1 d2 d3 d4 : D), vs = [.ref p, v1, v2, v3, v4] ∧ H p = some (.ins C dx []) ∧
  Rp H h v1 d1 ∧ Rp H h v2 d2 ∧ Rp H h v3 d3 ∧ Rp H h v4 d4 ∧
  (due d1 d2 d3 d4 = none → ∀ H', But p H H' → H' p = some (.ins C dx (webF v1 v2 v3 v4)) → Q .non H') ∧
  (∀ part, due d1 d2 d3 d4 = some part → ∀ H' d, Same H H' → H' d = some (.xd [("part", .str part)]) → E (.ref CB) (some d) H')
theorem err_same {H H1 : Hp} {a d C : Addr} {f : Str} {y : V} (s : Same H H1) (ha : H1 a = none) (hd : (upd H1 a (exo a C none)) d = none) (ne : d ≠ a) :
    Same H (upd (del (upd (upd (upd H1 a (exo a C none)) d (exd d [(f, y)])) a (exo a C (some d))) a) d (.xd [(f, y)])) := fun b o q => by
  have q1 := s b o q
  have n1 : b ≠ a := ne_of_none q1 ha
  have n2 : b ≠ d := fun z => by subst z; rw [upd_ne n1, q1] at hd; cases hd
  rw [upd_ne n2, del_ne n1, upd_ne n1, upd_ne n2, upd_ne n1]
  exact q1
theorem ok_Web___init (T : Tx K mg) : FnOk P w K mg base (L2.CX P w) 7 T.Web.f T.Web.fd ["self", "houses", "roads", "rooms", "times"] (spWeb T.Web.C T.x_BadWeb.C) := by
  refine T.Web.F.okX sc_Web___init (fun vs H Q E h => ?_) (fun cdv A outer s H vs Q E hr h => ?_)
  · obtain ⟨ha, p, dx, v1, v2, v3, v4, d1, d2, d3, d4, rfl, _⟩ := h
    rfl
  · obtain ⟨ha, p, dx, v1, v2, v3, v4, d1, d2, d3, d4, rfl, hp, r1, r2, r3, r4, kq, ke⟩ := h
    refine ⟨_, (pss_cons (ps_if (pt_not (pt_val (pe_call (ok_is_between T) (hr.mono (by decide)) rfl T.is_between.g T.is_between.F.kp T.is_between.b .nil pass0 (pa_cons pe_int (pa_cons (pe_glob (v := .int 12) rfl T.c_MOST_HOUSES.choose_spec ⟨_, rfl⟩) (pa_cons (pv 1) pa_nil))))))
      (pss_one (ps_raise rfl (takes_of rfl rfl rfl rfl) (pmk_oex T.x_BadWeb.T T.x_BadWeb.iC T.x_BadWeb.tI (ok_BadWeb___init T) (hr.mono (by decide)) T.x_BadWeb.b .nil passL rfl T.x_BadWeb.g (pa_cons pe_str pa_nil))))
      pss_nil)
      (pss_cons (ps_if (pt_not (pt_val (pe_call (ok_are_roads T) (hr.mono (by decide)) rfl T.are_roads.g T.are_roads.F.kp T.are_roads.b .nil pass0 (pa_cons (pv 1) (pa_cons (pv 2) pa_nil)))))
      (pss_one (ps_raise rfl (takes_of rfl rfl rfl rfl) (pmk_oex T.x_BadWeb.T T.x_BadWeb.iC T.x_BadWeb.tI (ok_BadWeb___init T) (hr.mono (by decide)) T.x_BadWeb.b .nil passL rfl T.x_BadWeb.g (pa_cons pe_str pa_nil))))
      pss_nil)
      (pss_cons (ps_if (pt_not (pt_val (pe_call (ok_are_between T) (hr.mono (by decide)) rfl T.are_between.g T.are_between.F.kp T.are_between.b .nil pass0 (pa_cons (pe_callB call_len_seq (by rfl) T.n_len (by decide +kernel) (pa_cons (pv 2) pa_nil)) (pa_cons pe_int (pa_cons (pe_glob (v := .int 3) rfl T.c_MOST_ROOMS.choose_spec ⟨_, rfl⟩) (pa_cons (pv 3) pa_nil)))))))
      (pss_one (ps_raise rfl (takes_of rfl rfl rfl rfl) (pmk_oex T.x_BadWeb.T T.x_BadWeb.iC T.x_BadWeb.tI (ok_BadWeb___init T) (hr.mono (by decide)) T.x_BadWeb.b .nil passL rfl T.x_BadWeb.g (pa_cons pe_str pa_nil))))
      pss_nil)
      (pss_cons (ps_if (pt_not (pt_val (pe_call (ok_are_between T) (hr.mono (by decide)) rfl T.are_between.g T.are_between.F.kp T.are_between.b .nil pass0 (pa_cons (pe_callB call_len_seq (by rfl) T.n_len (by decide +kernel) (pa_cons (pv 2) pa_nil)) (pa_cons pe_int (pa_cons (pe_glob (v := .int 3) rfl T.c_LONGEST_TIME.choose_spec ⟨_, rfl⟩) (pa_cons (pv 4) pa_nil)))))))
      (pss_one (ps_raise rfl (takes_of rfl rfl rfl rfl) (pmk_oex T.x_BadWeb.T T.x_BadWeb.iC T.x_BadWeb.tI (ok_BadWeb___init T) (hr.mono (by decide)) T.x_BadWeb.b .nil passL rfl T.x_BadWeb.g (pa_cons pe_str pa_nil))))
      pss_nil)
      (pss_cons (ps_fld (pv 0) (pv 1) rfl)
      (pss_cons (ps_fld (pv 0) (pv 2) rfl)
      (pss_cons (ps_fld (pv 0) (pv 3) rfl)
      (pss_one (ps_fld (pv 0) (pv 4) rfl))))))))), ?_⟩
    have raise : ∀ (part : Str) (H1 : Hp), Same H H1 → due d1 d2 d3 d4 = some part → ∀ a, H1 a = none →
        spInitE T.x_BadWeb.C "part" [.ref a, .str part] (upd H1 a (exo a T.x_BadWeb.C none)) (fun v H2 => v = .non ∧ ∃ (d : Addr) (fs : List (Str × V)), H2 a = some (exo a T.x_BadWeb.C (some d)) ∧ H2 d = some (exd d fs) ∧ H1 d = none ∧
          E (.ref T.x_BadWeb.C) (some d) (upd (del H2 a) d (.xd fs))) (fun _ _ _ => False) := by
      intro part H1 s1 hdue a hA
      refine ⟨a, _, rfl, upd_same, fun d hd nd => ⟨rfl, d, [("part", .str part)], upd_same, ?_, ?_, ?_⟩⟩
      · rw [upd_ne nd, upd_same]
      · rw [upd_ne nd] at hd; exact hd
      · exact ke part hdue _ d (err_same s1 hA hd nd) upd_same
    refine ⟨_, rfl, ha, _, _, _, _, rfl, r1, _, rfl, ?_⟩
    cases e1 : isBtw 2 12 d1 with
    | false =>
      refine iteT ⟨by show 1 ≤ 1000; decide, fun a hA => raise _ H (Same.refl _) (if_pos e1) a hA⟩
    | true =>
    refine iteF ?_
    have x1 : ¬ isBtw 2 12 d1 = false := by rw [e1]; decide
    obtain ⟨n, rfl⟩ := btw_shape e1
    cases r1
    refine ⟨_, rfl, _, rfl, ha, _, _, _, rfl, r2, fun H1 s1 => ⟨_, rfl, ?_⟩⟩
    cases e2 : areRoads n d2 with
    | false =>
      refine iteT ⟨by show 1 ≤ 1000; decide, fun a hA => raise _ H1 s1 ((if_neg x1).trans (if_pos e2)) a hA⟩
    | true =>
    refine iteF ?_
    have x2 : ¬ areRoads (num (.int n)) d2 = false := by show ¬ areRoads n d2 = false; rw [e2]; decide
    obtain ⟨ds, rfl⟩ := roads_shape e2
    obtain ⟨pa, xs, rfl, ea, za, ra⟩ := tup_inv r2
    refine ⟨_, rfl, _, _, rfl, .inr (SqT.of (s1 _ _ ea)), _, rfl, ha, _, _, _, _, _, rfl, r3.same s1, fun H2 s2 => ⟨_, rfl, ?_⟩⟩
    rw [ra.len]
    cases e3 : areBtw (ds.length : Int) 1 3 d3 with
    | false =>
      refine iteT ⟨by show 1 ≤ 1000; decide, fun a hA => raise _ H2 (s1.trans s2) ((if_neg x1).trans ((if_neg x2).trans (if_pos e3))) a hA⟩
    | true =>
    refine iteF ?_
    have x3 : ¬ areBtw (dlen (.tup ds)) 1 3 d3 = false := by show ¬ areBtw (ds.length : Int) 1 3 d3 = false; rw [e3]; decide
    refine ⟨_, rfl, _, _, rfl, .inr (SqT.of (s2 _ _ (s1 _ _ ea))), _, rfl, ha, _, _, _, _, _, rfl, (r4.same s1).same s2, fun H3 s3 => ⟨_, rfl, ?_⟩⟩
    rw [ra.len]
    cases e4 : areBtw (ds.length : Int) 1 3 d4 with
    | false =>
      refine iteT ⟨by show 1 ≤ 1000; decide, fun a hA => raise _ H3 ((s1.trans s2).trans s3) ((if_neg x1).trans ((if_neg x2).trans ((if_neg x3).trans (if_pos e4)))) a hA⟩
    | true =>
    refine iteF ?_
    have x4 : ¬ areBtw (dlen (.tup ds)) 1 3 d4 = false := by show ¬ areBtw (ds.length : Int) 1 3 d4 = false; rw [e4]; decide
    have sm := (s1.trans s2).trans s3
    have no : ∀ f ∈ (["houses", "roads", "rooms", "times"] : List Str), NoAttr K T.Web.C f := T.Web.no
    refine ⟨_, rfl, _, rfl, p, T.Web.C, dx, _, rfl, sm _ _ hp, T.Web.cl, no _ (by simp), (by decide), ?_⟩
    refine ⟨_, rfl, _, rfl, p, T.Web.C, dx, _, rfl, upd_same, T.Web.cl, no _ (by simp), (putF_lt (n := 999) (by decide)), ?_⟩
    refine ⟨_, rfl, _, rfl, p, T.Web.C, dx, _, rfl, upd_same, T.Web.cl, no _ (by simp), (putF_lt (n := 999) (putF_lt (n := 998) (by decide))), ?_⟩
    refine ⟨_, rfl, _, rfl, p, T.Web.C, dx, _, rfl, upd_same, T.Web.cl, no _ (by simp), (putF_lt (n := 999) (putF_lt (n := 998) (putF_lt (n := 997) (by decide)))), ?_⟩
    refine kq ((if_neg x1).trans ((if_neg x2).trans ((if_neg x3).trans (if_neg x4)))) _ (fun b o q n => ?_) upd_same
    rw [upd_ne n, upd_ne n, upd_ne n, upd_ne n]
    exact sm _ _ q
end
end Hc

set_option Elab.async false
set_option linter.all false
set_option maxRecDepth 100000
set_option maxHeartbeats 4000000
set_option autoImplicit false
namespace Hc
open PySem L2
/-- the hand: the script's cells at c, and four numbers -/
def HandAt (H : Hp) (h c : Addr) : Prop := ∃ (ns : List Int) (i d s t : Int), H h = some (.lst [.ref c, .int i, .int d, .int s, .int t]) ∧ H c = some (.lst (ns.map V.int)) ∧ 0 ≤ i ∧ c ≠ h
theorem HandAt.lst {H : Hp} {h c : Addr} (a : HandAt H h c) : IsLst H h := by
  obtain ⟨ns, i, d, s, t, e, _⟩ := a
  exact ⟨_, e⟩
theorem HandAt.ne {H : Hp} {h c : Addr} (a : HandAt H h c) {D : Addr} (hD : H D = none) : D ≠ h ∧ D ≠ c := by
  obtain ⟨ns, i, d, s, t, e, hc, _⟩ := a
  exact ⟨fun z => ne_of_none e hD z.symm, fun z => ne_of_none hc hD z.symm⟩
theorem HandAt.upd {H : Hp} {h c : Addr} (a : HandAt H h c) {D : Addr} {o : HO} (h1 : D ≠ h) (h2 : D ≠ c) : HandAt (upd H D o) h c := by
  obtain ⟨ns, i, d, s, t, e, hc, hi, hn⟩ := a
  exact ⟨ns, i, d, s, t, by rw [upd_ne (Ne.symm h1)]; exact e, by rw [upd_ne (Ne.symm h2)]; exact hc, hi, hn⟩
theorem HandAt.mono {H H' : Hp} {h c : Addr} (a : HandAt H h c) (k : Same H H') : HandAt H' h c := by
  obtain ⟨ns, i, d, s, t, e, hc, hi, hn⟩ := a
  exact ⟨ns, i, d, s, t, k _ _ e, k _ _ hc, hi, hn⟩
theorem But.upd {h D : Addr} {H H' : Hp} {o : HO} (k : But h H H') (hD : H D = none) : But h H (upd H' D o) := fun b u e n => by
  rw [upd_ne (ne_of_none e hD)]
  exact k _ _ e n
section
variable {P : Program} {w : World} {K : PySem.W.Frag} {mg : Str → Option Value} {base : Heap}
def spDraw : Sp := fun vs H Q _ => ∃ (h c : Addr) (m : Int), vs = [.ref h, .int m] ∧ HandAt H h c ∧ 0 < m ∧ m < 1000000 ∧
  ∀ n H', 0 ≤ n → n < m → HandAt H' h c → But h H H' → Q (.int n) H'
theorem mod_range (x : Int) {m : Int} (h : 0 < m) : 0 ≤ x.fmod m ∧ x.fmod m < m := by
  rw [Int.fmod_eq_emod_of_nonneg x (by omega)]
  exact ⟨Int.emod_nonneg x (by omega), Int.emod_lt_of_pos x h⟩
theorem ok__law_draw (T : Tx K mg) : FnOk P w K mg base CX0 1 T._law_draw.f T._law_draw.fd ["_law_hand_here", "_law_many"] spDraw := by
  refine T._law_draw.F.ok sc_law_draw (fun vs H Q E h => ?_) (fun cdv A outer s H vs Q E hr h => ?_)
  · obtain ⟨h, c, m, rfl, _⟩ := h
    rfl
  · obtain ⟨h, c, m, rfl, hA, m0, m1, k⟩ := h
    refine ⟨_, (C8.pss_cut (ps_if (PW.pt (pw_and (pt_cmpR op_eq (pe_ix ix_list (pv 0) pe_int (fun _ _ => rfl)) pe_int (nomark _)) (pw_and1 (pt_cmpR op_lt (pe_ix ix_list (pv 0) pe_int (fun _ _ => rfl)) (pe_callB call_len_seq (by rfl) T.n_len (by decide +kernel) (pa_cons (pe_ix ix_list (pv 0) pe_int (fun _ _ => rfl)) pa_nil)) (nomark _)))))
      (pss_cons (ps_set (i := 2) sc_law_draw.nd rfl (Or.inl rfl) (pe_ix ix_list (pe_ix ix_list (pv 0) pe_int (fun _ _ => rfl)) (pe_ix ix_list (pv 0) pe_int (fun _ _ => rfl)) (fun _ _ => rfl)))
      (pss_cons (ps_asg (pe_op op_add (pe_ix ix_list (pv 0) pe_int (fun _ _ => rfl)) pe_int) (pg_sub (pv 0) pe_int set_list))
      (pss_cons (ps_asg (pe_op op_modN (pe_callTy call_int1 (by rfl) T.n_int (by decide +kernel) (pa_cons (pe_op op_add (pe_op op_add (pe_op op_mul (pe_ix ix_list (pv 0) pe_int (fun _ _ => rfl)) pe_int) (pv 2)) pe_int) pa_nil)) pe_int) (pg_sub (pv 0) pe_int set_list))
      (pss_one (ps_if (pt_cmpR op_ge (pv 2) (pe_op op_pow pe_int pe_int) (nomark _))
      (pss_one (ps_asg (pv 2) (pg_sub (pv 0) pe_int set_list)))
      pss_nil)))))
      pss_nil)
      (pss_cons (ps_if (pt_cmpR op_gt (pe_ix ix_list (pv 0) pe_int (fun _ _ => rfl)) pe_int (nomark _))
      (pss_cons (ps_set (i := 3) sc_law_draw.nd rfl (Or.inl rfl) (pe_op op_modN (pe_callTy call_int1 (by rfl) T.n_int (by decide +kernel) (pa_cons (pe_ix ix_list (pv 0) pe_int (fun _ _ => rfl)) pa_nil)) (pv 1)))
      (pss_cons (ps_asg (pe_op op_fdivN (pe_ix ix_list (pv 0) pe_int (fun _ _ => rfl)) (pv 1)) (pg_sub (pv 0) pe_int set_list))
      (pss_one (ps_ret (pv 3)))))
      pss_nil)
      (pss_cons (ps_asg (pe_op op_add (pe_ix ix_list (pv 0) pe_int (fun _ _ => rfl)) pe_int) (pg_sub (pv 0) pe_int set_list))
      (pss_cons (ps_set (i := 4) sc_law_draw.nd rfl (Or.inl rfl) (pe_op op_modN (pe_callTy call_int1 (by rfl) T.n_int (by decide +kernel) (pa_cons (pe_op op_mul (pe_callTy call_int1 (by rfl) T.n_int (by decide +kernel) (pa_cons (pe_op op_add (pe_ix ix_list (pv 0) pe_int (fun _ _ => rfl)) (pe_op op_mul pe_int (pe_ix ix_list (pv 0) pe_int (fun _ _ => rfl)))) pa_nil)) pe_int) pa_nil)) pe_int))
      (pss_cons (ps_set (i := 4) sc_law_draw.nd rfl (Or.inl rfl) (pe_op op_modN (pe_callTy call_int1 (by rfl) T.n_int (by decide +kernel) (pa_cons (pe_op op_mul (pv 4) (pe_op op_add (pe_op op_fdivN (pv 4) pe_int) pe_int)) pa_nil)) pe_int))
      (pss_cons (ps_set (i := 4) sc_law_draw.nd rfl (Or.inl rfl) (pe_op op_modN (pe_callTy call_int1 (by rfl) T.n_int (by decide +kernel) (pa_cons (pe_op op_mul (pv 4) (pe_op op_add (pe_op op_fdivN (pv 4) pe_int) pe_int)) pa_nil)) pe_int))
      (pss_one (ps_ret (pe_op op_modN (pe_callTy call_int1 (by rfl) T.n_int (by decide +kernel) (pa_cons (pe_op op_fdivN (pv 4) pe_int) pa_nil)) (pv 1)))))))))), ?_⟩
    refine ⟨fun σ' H' => ∃ cv : Option V, σ' = [some (.ref h), some (.int m), cv, none, none] ∧ HandAt H' h c ∧ But h H H', ?_, ?_⟩
    · obtain ⟨ns, i, d, s, t, hh, hc, hi, hn⟩ := id hA
      refine ⟨_, rfl, h, _, _, _, rfl, rfl, SqL.of hh, atI_nat (j := 2) rfl, rfl, _, rfl, ?_⟩
      rw [int_eqd]
      by_cases h0 : d = 0
      · rw [decide_eq_true h0]
        refine iteT ?_
        refine ⟨_, rfl, h, _, _, _, rfl, rfl, SqL.of hh, atI_nat (j := 1) rfl, _, rfl, h, _, _, _, rfl, rfl, SqL.of hh, atI_nat (j := 0) rfl, c, _, rfl, .inl (SqL.of hc), _, _, rfl, rfl, _, rfl, ?_⟩
        rw [List.length_map]
        by_cases h1 : i < ns.length
        · rw [decide_eq_true h1]
          refine iteT ?_
          obtain ⟨j, rfl⟩ := Int.eq_ofNat_of_zero_le hi
          have hj : j < ns.length := by omega
          have hx : (ns.map V.int)[j]? = some (.int ns[j]) := by rw [List.getElem?_map, List.getElem?_eq_getElem hj]; rfl
          refine ⟨_, rfl, h, _, _, _, rfl, rfl, SqL.of hh, atI_nat (j := 0) rfl, _, rfl, h, _, _, _, rfl, rfl, SqL.of hh, atI_nat (j := 1) rfl, c, _, _, _, rfl, rfl, SqL.of hc, atI_nat hx, ?_⟩
          -- hand[1] = hand[1] + 1
          refine ⟨_, rfl, h, _, _, _, rfl, rfl, SqL.of hh, atI_nat (j := 1) rfl, _, _, rfl, rfl, _, rfl, h, _, 1, 1, rfl, rfl, hh, rfl, ?_⟩
          -- hand[3] = ..
          refine ⟨_, rfl, h, _, _, _, rfl, rfl, SqL.of upd_same, atI_nat (j := 3) rfl, _, _, rfl, rfl, .inr ⟨by decide, by decide⟩, _, rfl, _, _, rfl, rfl, _, _, rfl, rfl, .inl ⟨_, rfl, _, _, rfl, rfl, (show (2147483629 : Int) ≠ 0 by decide), _, rfl, h, _, 3, 3, rfl, rfl, upd_same, rfl, ?_⟩⟩
          refine ⟨_, rfl, _, _, rfl, rfl, ⟨by decide, by decide, by decide⟩, _, _, rfl, rfl, _, rfl, ?_⟩
          have bt : ∀ {H1 : Hp} {xs}, But h H H1 → But h H (upd H1 h xs) := fun b => b.trans but_upd
          refine ite2 (fun _ => ?_) (fun _ => ?_)
          · refine ⟨_, rfl, _, rfl, h, _, 2, 2, rfl, rfl, upd_same, rfl, ?_⟩
            exact ⟨_, rfl, ⟨ns, _, _, _, _, upd_same, (bt (bt (bt (But.refl h H)))) _ _ hc hn, by omega, hn⟩, bt (bt (bt (But.refl h H)))⟩
          · exact ⟨_, rfl, ⟨ns, _, _, _, _, upd_same, (bt (bt (But.refl h H))) _ _ hc hn, by omega, hn⟩, bt (bt (But.refl h H))⟩
        · rw [decide_eq_false h1]
          exact iteF ⟨_, rfl, hA, But.refl h H⟩
      · rw [decide_eq_false h0]
        exact iteF (iteF ⟨_, rfl, hA, But.refl h H⟩)
    · rintro σ' H1 ⟨cv, rfl, hA1, b1⟩
      obtain ⟨ns, i, d, s, t, hh, hc, hi, hn⟩ := id hA1
      have bt : ∀ {H2 : Hp} {xs}, But h H H2 → But h H (upd H2 h xs) := fun b => b.trans but_upd
      have bu : ∀ {H2 : Hp} {xs}, But h H1 H2 → But h H1 (upd H2 h xs) := fun b => b.trans but_upd
      refine ⟨_, rfl, h, _, _, _, rfl, rfl, SqL.of hh, atI_nat (j := 2) rfl, _, _, rfl, rfl, _, rfl, ?_⟩
      refine ite2 (fun _ => ?_) (fun _ => ?_)
      · refine ⟨_, rfl, h, _, _, _, rfl, rfl, SqL.of hh, atI_nat (j := 2) rfl, .inl ⟨_, rfl, _, rfl, _, _, rfl, rfl, by omega, ?_⟩⟩
        refine ⟨_, rfl, h, _, _, _, rfl, rfl, SqL.of hh, atI_nat (j := 2) rfl, _, rfl, _, _, rfl, rfl, ⟨by omega, by omega⟩, _, rfl, h, _, 2, 2, rfl, rfl, hh, rfl, ?_⟩
        obtain ⟨q1, q2⟩ := mod_range d m0
        exact ⟨_, rfl, k _ _ q1 q2 ⟨ns, _, _, _, _, upd_same, (bu (But.refl h H1)) _ _ hc hn, hi, hn⟩ (bt b1)⟩
      · refine ⟨_, rfl, h, _, _, _, rfl, rfl, SqL.of hh, atI_nat (j := 4) rfl, _, _, rfl, rfl, _, rfl, h, _, 4, 4, rfl, rfl, hh, rfl, ?_⟩
        refine ⟨_, rfl, h, _, _, _, rfl, rfl, SqL.of upd_same, atI_nat (j := 3) rfl, _, rfl, h, _, _, _, rfl, rfl, SqL.of upd_same, atI_nat (j := 4) rfl, _, _, rfl, rfl, .inl ⟨by decide, by decide⟩, _, _, rfl, rfl, .inl ⟨_, rfl, _, _, rfl, rfl, .inr ⟨by decide, by decide⟩, .inl ⟨_, rfl, _, _, rfl, rfl, (show (2147483647 : Int) ≠ 0 by decide), ?_⟩⟩⟩
        obtain ⟨u1, u2⟩ := mod_range ((s + 7919 * (t + 1)) * 48271) (m := 2147483647) (by decide)
        obtain ⟨x, hx⟩ : ∃ x, x = ((s + 7919 * (t + 1)) * 48271).fmod 2147483647 := ⟨_, rfl⟩
        rw [← hx] at u1 u2
        refine ⟨_, rfl, _, rfl, _, _, rfl, rfl, ⟨by decide, by decide⟩, _, _, rfl, rfl, _, _, rfl, rfl, .inl ⟨by rw [← hx]; omega, by rw [← hx]; omega⟩, .inl ⟨_, rfl, _, _, rfl, rfl, (show (2147483647 : Int) ≠ 0 by decide), ?_⟩⟩
        rw [← hx]
        obtain ⟨u1, u2⟩ := mod_range (x * (x.fdiv 1009 + 69621)) (m := 2147483647) (by decide)
        obtain ⟨y, hy⟩ : ∃ y, y = (x * (x.fdiv 1009 + 69621)).fmod 2147483647 := ⟨_, rfl⟩
        rw [← hy] at u1 u2
        refine ⟨_, rfl, _, rfl, _, _, rfl, rfl, ⟨by decide, by decide⟩, _, _, rfl, rfl, _, _, rfl, rfl, .inl ⟨by rw [← hy]; omega, by rw [← hy]; omega⟩, .inl ⟨_, rfl, _, _, rfl, rfl, (show (2147483399 : Int) ≠ 0 by decide), ?_⟩⟩
        rw [← hy]
        refine ⟨_, rfl, _, _, rfl, rfl, ⟨by decide, by decide⟩, .inl ⟨_, rfl, _, rfl, _, _, rfl, rfl, by omega, ?_⟩⟩
        obtain ⟨q1, q2⟩ := mod_range (((y * (y.fdiv 2003 + 40692)).fmod 2147483399).fdiv 16) m0
        exact k _ _ q1 q2 ⟨ns, _, _, _, _, upd_same, (bu (But.refl h H1)) _ _ hc hn, hi, hn⟩ (bt b1)
end
end Hc

set_option Elab.async false
set_option linter.all false
set_option maxRecDepth 100000
set_option maxHeartbeats 4000000
set_option autoImplicit false
namespace Hc
open PySem L2
theorem But.del {h p : Addr} {H H' : Hp} (k : But h H H') : But h (del H p) (del H' p) := fun b o e n => by
  by_cases z : b = p
  · subst z; rw [del_same] at e; cases e
  · rw [del_ne z] at e ⊢; exact k _ _ e n
theorem del_upd {H : Hp} {p : Addr} {o : HO} : del (upd H p o) p = del H p := by
  funext b
  by_cases z : b = p
  · subst z; rw [del_same, del_same]
  · rw [del_ne z, del_ne z, upd_ne z]
theorem del_sub {H : Hp} {p : Addr} : Same (del H p) H := fun b o e => by
  by_cases z : b = p
  · subst z; rw [del_same] at e; cases e
  · rw [del_ne z] at e; exact e
theorem del_new {H : Hp} {p q : Addr} {o : HO} (hq : H q = none) : Same (del H p) (del (upd H q o) p) := fun b u e => by
  by_cases z : b = p
  · subst z; rw [del_same] at e; cases e
  · rw [del_ne z] at e ⊢
    rw [upd_ne (ne_of_none e hq)]; exact e
theorem btw_of {lo hi i : Int} (a : lo ≤ i) (b : i ≤ hi) : isBtw lo hi (.int i) = true := by
  show (decide (lo ≤ i) && decide (i ≤ hi)) = true
  rw [decide_eq_true a, decide_eq_true b]; rfl
theorem RpA.ints {H : Hp} {h : Addr} : ∀ ns : List Int, RpA H h (ns.map V.int) (ns.map D.int)
  | [] => .nil
  | n :: r => .cons (.int n) (RpA.ints r)
theorem RpA.rep {H : Hp} {h : Addr} {v : V} {d : D} (r : Rp H h v d) : ∀ n : Nat, RpA H h (List.replicate n [v]).flatten (List.replicate n d)
  | 0 => .nil
  | n + 1 => by
    rw [List.replicate_succ, List.replicate_succ, List.flatten_cons]
    exact .cons r (RpA.rep r n)
theorem tyes {σ : St} {H : Hp} {A B : Hp → Prop} (h : A H) : tYes σ H (fun b H3 => if b = true then A H3 else B H3) := by
  unfold tYes
  show if true = true then A H else B H
  rw [if_pos rfl]
  exact h
theorem RpA.snoc_inv {H : Hp} {h : Addr} {d : D} : ∀ {ds : List D} {vs : List V}, RpA H h vs (ds ++ [d]) → ∃ vs' v, vs = vs' ++ [v] ∧ Rp H h v d
  | [], _, .cons r .nil => ⟨[], _, rfl, r⟩
  | e :: ds, _, .cons r q => by
    obtain ⟨vs', v, rfl, k⟩ := RpA.snoc_inv (ds := ds) q
    exact ⟨_ :: vs', v, rfl, k⟩
section
variable {P : Program} {w : World} {K : PySem.W.Frag} {mg : Str → Option Value} {base : Heap}
def spCounts : Sp := fun vs H Q _ => ∃ (h c : Addr) (m : Int), vs = [.ref h, .int m] ∧ HandAt H h c ∧ 0 < m ∧ m ≤ 1000 ∧
  ∀ v d H', HandAt H' h c → But h H H' → Rp H' h v d → areBtw m 1 3 d = true → Q v H'
theorem ok__law_counts (T : Tx K mg) : FnOk P w K mg base CX0 2 T._law_counts.f T._law_counts.fd ["_law_hand_here", "_law_many"] spCounts := by
  refine T._law_counts.F.ok sc_law_counts (fun vs H Q E h => ?_) (fun cdv A outer s H vs Q E hr h => ?_)
  · obtain ⟨h, c, m, rfl, _⟩ := h
    rfl
  · obtain ⟨h, c, m, rfl, hA, m0, m1, k⟩ := h
    refine ⟨_, (pss_cons (ps_if (pt_cmpR op_gt (pe_call (ok__law_draw T) (hr.mono (by decide)) rfl T._law_draw.g T._law_draw.F.kp T._law_draw.b .nil pass0 (pa_cons (pv 0) (pa_cons pe_int pa_nil))) pe_int (nomark _))
      (pss_one (ps_ret (pe_op op_repA (pe_tup (pa_cons pe_int pa_nil)) (pv 1))))
      pss_nil)
      (pss_one (ps_ret (pe_callTy call_tuple_of (by rfl) T.n_tuple (by decide +kernel) (pa_cons (pe_lc (own := [("_law_road", 2)]) (g := (gName 2)) (tt := tYes) rfl sc_law_counts.nd (pi_range1 (by rfl) T.n_range (pa_cons (pv 1) pa_nil)) (blkOk_by (own := [("_law_road", 2)]) (N := ["_law_hand_here", "_law_many", "_law_road"]) (sc := defScope s_law_counts) (by decide +kernel)) (fun _ _ _ _ _ => (pg_name (i := 2) sc_law_counts.nd rfl (Or.inl rfl))) (fun _ _ _ _ _ => pts_nil) (fun _ _ _ _ _ => (by exact (pe_op op_add pe_int (pe_call (ok__law_draw T) (hr.mono (by decide)) rfl T._law_draw.g T._law_draw.F.kp T._law_draw.b .nil pass0 (pa_cons (pv 0) (pa_cons pe_int pa_nil))))))) pa_nil))))), ?_⟩
    refine ⟨_, rfl, h, c, 3, rfl, hA, by decide, by decide, fun x H1 x0 x1 hA1 b1 => ⟨_, _, rfl, rfl, _, rfl, ite2 (fun _ => ?_) (fun _ => ?_)⟩⟩
    · refine ⟨by show 1 ≤ sizeLine; decide, fun p hp => ⟨_, rfl, p, m, _, rfl, rfl, SqT.of upd_same, by simp, by omega, m1, by simp, fun e => ?_, fun e q hq => ?_⟩⟩
      · subst e
        obtain ⟨n1, n2⟩ := hA1.ne hp
        refine k _ (.tup [.int 1]) _ (hA1.upd n1 n2) (b1.upd (b1.free n1 hp)) (.tup upd_same (by simp) (.cons (.int 1) .nil)) (by decide)
      · obtain ⟨n1, n2⟩ := hA1.ne hp
        have hA2 : HandAt (upd H1 p (.tup [V.int 1])) h c := hA1.upd n1 n2
        obtain ⟨n3, n4⟩ := hA2.ne hq
        have b2 : But h H (upd H1 p (.tup [V.int 1])) := b1.upd (b1.free n1 hp)
        refine k _ (.tup (List.replicate m.toNat (.int 1))) _ (hA2.upd n3 n4) (b2.upd (b2.free n3 hq)) (.tup upd_same ?_ (RpA.rep (.int 1) _)) ?_
        · simp; omega
        · rw [areBtw_tup, List.length_replicate, decide_eq_true (by omega), Bool.true_and, List.all_eq_true]
          intro d hd
          rw [List.eq_of_mem_replicate hd]
          decide
    · refine ⟨_, rfl, m, rfl, by omega, by omega, fun D hD => ?_⟩
      obtain ⟨n1, n2⟩ := hA1.ne hD
      have hD0 := b1.free n1 hD
      refine lc_range (lo := 0) (n := m.toNat) (fun i H' => ∃ ns : List Int, ns.length = i ∧ (∀ x ∈ ns, 1 ≤ x ∧ x ≤ 3) ∧ H' D = some (.lst (ns.map V.int)) ∧ HandAt H' h c ∧ But h H H')
        ⟨[], rfl, fun _ z => (nomatch z), upd_same, hA1.upd n1 n2, b1.upd hD0⟩ ?_ ?_
      · rintro i H2 hi ⟨ns, hl, hn, hd, hA2, b2⟩
        refine ⟨rfl, tyes ⟨_, rfl, h, c, 3, rfl, hA2, by decide, by decide, fun y H3 y0 y1 hA3 b3 => ⟨_, _, rfl, rfl, _, b3 _ _ hd n1, ?_, ns ++ [1 + y], ?_, ?_, ?_, hA3.upd n1 n2, (b2.trans b3).upd hD0⟩⟩⟩
        · rw [List.length_map]; exact line_lt (by omega)
        · rw [List.length_append, hl]; rfl
        · intro z hz
          rcases List.mem_append.mp hz with q | q
          · exact hn z q
          · rw [List.mem_singleton] at q; subst q; omega
        · rw [upd_same, List.map_append]; rfl
      · rintro H2 ⟨ns, hl, hn, hd, hA2, b2⟩
        refine ⟨_, _, rfl, .inl ⟨SqL.of hd, fun q hq => ?_⟩⟩
        obtain ⟨n3, n4⟩ := hA2.ne hq
        refine k _ (.tup (ns.map Hc.D.int)) _ (hA2.upd n3 n4) (b2.upd (b2.free n3 hq)) (.tup upd_same (by rw [List.length_map]; omega) (RpA.ints ns)) ?_
        rw [areBtw_tup, List.length_map, decide_eq_true (by omega), Bool.true_and, List.all_eq_true]
        intro d hd
        obtain ⟨x, hx, rfl⟩ := List.mem_map.mp hd
        exact btw_of (hn x hx).1 (hn x hx).2
/-- a drawn web -/
structure WebD (towns most : Int) (d : D) : Prop where
  ex : ∃ (n : Int) (ds : List D) (rm tm : D), d = .tup [.int n, .tup ds, rm, tm] ∧ 2 ≤ n ∧ n ≤ towns ∧ 1 ≤ ds.length ∧ (ds.length : Int) ≤ most ∧ ds.all (isBE n) = true ∧ areBtw ds.length 1 3 rm = true ∧ areBtw ds.length 1 3 tm = true
def spWebL : Sp := fun vs H Q _ => ∃ (h c : Addr) (towns most : Int), vs = [.ref h, .int towns, .int most] ∧ HandAt H h c ∧ 2 ≤ towns ∧ towns ≤ 1000 ∧ 1 ≤ most ∧ most ≤ 1000 ∧
  ∀ v d H', HandAt H' h c → But h H H' → Rp H' h v d → WebD towns most d → Q v H'
theorem be_of {n a b : Int} (a0 : 0 ≤ a) (a1 : a < n) (b0 : 0 ≤ b) (b1 : b < n) (ne : a ≠ b) : isBE n (.tup [.int a, .int b]) = true := by
  unfold isBE
  rw [areBtw_tup, List.all_cons, List.all_cons, List.all_nil, btw_of a0 (by omega), btw_of b0 (by omega)]
  show (decide (((2 : Nat) : Int) = 2) && (true && (true && true)) && !decide (a = b)) = true
  rw [decide_eq_false ne]; decide
theorem be_full {n : Int} {d : D} (e : isBE n d = true) : ∃ a b, d = .tup [.int a, .int b] ∧ 0 ≤ a ∧ a < n ∧ 0 ≤ b ∧ b < n ∧ a ≠ b := by
  have e1 := (Bool.and_eq_true_iff.mp e).1
  obtain ⟨a, b, rfl, e2⟩ := be_true e1
  rw [e] at e2
  have ne : a ≠ b := fun z => by rw [decide_eq_true z] at e2; cases e2
  rw [areBtw_tup, List.all_cons, List.all_cons, List.all_nil, Bool.and_true] at e1
  obtain ⟨_, e3⟩ := Bool.and_eq_true_iff.mp e1
  obtain ⟨h4, h5⟩ := Bool.and_eq_true_iff.mp e3
  obtain ⟨p1, p2⟩ := Bool.and_eq_true_iff.mp (show (decide (0 ≤ a) && decide (a ≤ n - 1)) = true from h4)
  obtain ⟨p3, p4⟩ := Bool.and_eq_true_iff.mp (show (decide (0 ≤ b) && decide (b ≤ n - 1)) = true from h5)
  have q1 := of_decide_eq_true p1
  have q2 := of_decide_eq_true p2
  have q3 := of_decide_eq_true p3
  have q4 := of_decide_eq_true p4
  exact ⟨a, b, rfl, q1, by omega, q3, by omega, ne⟩
theorem ring_ne {b x n : Int} (b0 : 0 ≤ b) (b1 : b < n) (x0 : 0 ≤ x) (x1 : x < n - 1) : b ≠ (b + 1 + x).fmod n := by
  rw [Int.fmod_eq_emod_of_nonneg _ (by omega)]
  by_cases h : b + 1 + x < n
  · rw [Int.emod_eq_of_lt (by omega) h]; omega
  · have e : (b + 1 + x) % n = b + 1 + x - n := by
      rw [← Int.sub_emod_right, Int.emod_eq_of_lt (by omega) (by omega)]
    rw [e]; omega
theorem ok__law_web (T : Tx K mg) : FnOk P w K mg base CX0 3 T._law_web.f T._law_web.fd ["_law_hand_here", "_law_towns", "_law_most"] spWebL := by
  refine T._law_web.F.ok sc_law_web (fun vs H Q E h => ?_) (fun cdv A outer s H vs Q E hr h => ?_)
  · obtain ⟨h, c, m, n, rfl, _⟩ := h
    rfl
  · obtain ⟨h, c, to, mo, rfl, hA, t0, t1, m0, m1, k⟩ := h
    refine ⟨_, (pss_cons (ps_set (i := 3) sc_law_web.nd rfl (Or.inl rfl) (pe_op op_add pe_int (pe_call (ok__law_draw T) (hr.mono (by decide)) rfl T._law_draw.g T._law_draw.F.kp T._law_draw.b .nil pass0 (pa_cons (pv 0) (pa_cons (pe_op op_sub (pv 1) pe_int) pa_nil)))))
      (pss_cons (ps_set (i := 4) sc_law_web.nd rfl (Or.inl rfl) (pe_op op_add pe_int (pe_call (ok__law_draw T) (hr.mono (by decide)) rfl T._law_draw.g T._law_draw.F.kp T._law_draw.b .nil pass0 (pa_cons (pv 0) (pa_cons (pv 2) pa_nil)))))
      (pss_cons (ps_set (i := 5) sc_law_web.nd rfl (Or.inl rfl) (pe_call (ok__law_draw T) (hr.mono (by decide)) rfl T._law_draw.g T._law_draw.F.kp T._law_draw.b .nil pass0 (pa_cons (pv 0) (pa_cons pe_int pa_nil))))
      (pss_cons (ps_set (i := 6) sc_law_web.nd rfl (Or.inl rfl) (pe_lst pa_nil))
      (pss_cons (ps_for PassesOwn.never rfl (pi_range1 (by rfl) T.n_range (pa_cons (pv 4) pa_nil)) (pg_name (i := 7) sc_law_web.nd rfl (Or.inl rfl))
      (pss_cons (ps_set (i := 8) sc_law_web.nd rfl (Or.inl rfl) (pe_call (ok__law_draw T) (hr.mono (by decide)) rfl T._law_draw.g T._law_draw.F.kp T._law_draw.b .nil pass0 (pa_cons (pv 0) (pa_cons (pv 3) pa_nil))))
      (C8.pss_cut (ps_if (PW.pt (pw_and (pt_cmpR op_eq (pv 5) pe_int (nomark _)) (pw_and (pt_cmpR op_gt (pv 7) pe_int (nomark _)) (pw_and1 (pt_cmpR op_gt (pe_call (ok__law_draw T) (hr.mono (by decide)) rfl T._law_draw.g T._law_draw.F.kp T._law_draw.b .nil pass0 (pa_cons (pv 0) (pa_cons pe_int pa_nil))) pe_int (nomark _))))))
      (pss_one (ps_set (i := 8) sc_law_web.nd rfl (Or.inl rfl) (pe_ix ix_tup (pe_ix ix_list (pv 6) (pe_un un_neg pe_int) (fun _ _ => rfl)) pe_int (fun _ _ => rfl))))
      pss_nil)
      (pss_one (ps_expr (pe_bm PySem.F.plainAttrs_list PySem.F.slot_list_append PySem.F.type_list_append mt_append (pv 6) (pa_cons (pe_tup (pa_cons (pv 8) (pa_cons (pe_op op_modN (pe_callTy call_int1 (by rfl) T.n_int (by decide +kernel) (pa_cons (pe_op op_add (pe_op op_add (pv 8) pe_int) (pe_call (ok__law_draw T) (hr.mono (by decide)) rfl T._law_draw.g T._law_draw.F.kp T._law_draw.b .nil pass0 (pa_cons (pv 0) (pa_cons (pe_op op_sub (pv 3) pe_int) pa_nil)))) pa_nil)) (pv 3)) pa_nil))) pa_nil)))))))
      (pss_one (ps_ret (pe_tup (pa_cons (pv 3) (pa_cons (pe_callTy call_tuple_of (by rfl) T.n_tuple (by decide +kernel) (pa_cons (pv 6) pa_nil)) (pa_cons (pe_call (ok__law_counts T) (hr.mono (by decide)) rfl T._law_counts.g T._law_counts.F.kp T._law_counts.b .nil pass0 (pa_cons (pv 0) (pa_cons (pv 4) pa_nil))) (pa_cons (pe_call (ok__law_counts T) (hr.mono (by decide)) rfl T._law_counts.g T._law_counts.F.kp T._law_counts.b .nil pass0 (pa_cons (pv 0) (pa_cons (pv 4) pa_nil))) pa_nil)))))))))))), ?_⟩
    refine ⟨_, rfl, _, rfl, _, _, rfl, rfl, h, c, to - 1, rfl, hA, by omega, by omega, fun x H1 x0 x1 hA1 b1 => ⟨_, _, rfl, rfl, ?_⟩⟩
    refine ⟨_, rfl, _, rfl, h, c, mo, rfl, hA1, by omega, by omega, fun y H2 y0 y1 hA2 b2 => ⟨_, _, rfl, rfl, ?_⟩⟩
    refine ⟨_, rfl, h, c, 2, rfl, hA2, by decide, by decide, fun z H3 z0 z1 hA3 b3 => ?_⟩
    refine ⟨by show 0 ≤ sizeLine; decide, fun p hp => ?_⟩
    obtain ⟨n1, n2⟩ := hA3.ne hp
    have bH3 := (b1.trans b2).trans b3
    have p0 := bH3.free n1 hp
    refine ⟨_, rfl, 1 + y, rfl, by omega, by omega, for_range (lo := 0) (n := (1 + y).toNat) (fun i σ' H' => ∃ (rv bv : Option V) (vs : List V) (ds : List D),
      σ' = [some (.ref h), some (.int to), some (.int mo), some (.int (2 + x)), some (.int (1 + y)), some (.int z), some (.ref p), rv, bv] ∧ HandAt H' h c ∧ But h H H' ∧
      H' p = some (.lst vs) ∧ RpA (del H' p) h vs ds ∧ ds.length = i ∧ ds.all (isBE (2 + x)) = true)
      ⟨none, none, [], [], rfl, hA3.upd n1 n2, bH3.upd p0, upd_same, .nil, rfl, rfl⟩ ?_ ?_⟩
    · rintro i σ' H4 hi ⟨rv, bv, vs, ds, rfl, hA4, b4, hp4, ra, hl, hall⟩
      refine ⟨_, rfl, _, rfl, h, c, 2 + x, rfl, hA4, by omega, by omega, fun b H5 c0 c1 hA5 b5 => ?_⟩
      have ra5 : RpA (del H5 p) h vs ds := ra.mono (by obtain ⟨zs, e⟩ := hA4.lst; exact ⟨zs, by rw [del_ne n1.symm]; exact e⟩) b5.del
      refine ⟨fun σ'' H' => ∃ (b' : Int), σ'' = [some (.ref h), some (.int to), some (.int mo), some (.int (2 + x)), some (.int (1 + y)), some (.int z), some (.ref p), some (.int (0 + i)), some (.int b')] ∧
        0 ≤ b' ∧ b' < 2 + x ∧ HandAt H' h c ∧ But h H H' ∧ H' p = some (.lst vs) ∧ RpA (del H' p) h vs ds, ?_, ?_⟩
      · have stay : ∀ H', HandAt H' h c → But h H5 H' → ∃ (b' : Int), ([some (.ref h), some (.int to), some (.int mo), some (.int (2 + x)), some (.int (1 + y)), some (.int z), some (.ref p), some (.int (0 + i)), some (.int b)] : St) = [some (.ref h), some (.int to), some (.int mo), some (.int (2 + x)), some (.int (1 + y)), some (.int z), some (.ref p), some (.int (0 + i)), some (.int b')] ∧
            0 ≤ b' ∧ b' < 2 + x ∧ HandAt H' h c ∧ But h H H' ∧ H' p = some (.lst vs) ∧ RpA (del H' p) h vs ds := fun H' hA' b' =>
          ⟨b, rfl, c0, c1, hA', (b4.trans b5).trans b', b' _ _ (b5 _ _ hp4 n1) n1, ra5.mono (by obtain ⟨zs, e⟩ := hA5.lst; exact ⟨zs, by rw [del_ne n1.symm]; exact e⟩) b'.del⟩
        refine ⟨_, rfl, rfl, _, rfl, ?_⟩
        rw [int_eqd]
        by_cases h0 : z = 1
        · rw [decide_eq_true h0]
          refine iteT ⟨_, rfl, _, _, rfl, rfl, _, rfl, ?_⟩
          by_cases h1 : (0 : Int) < 0 + (i : Int)
          · rw [decide_eq_true h1]
            refine iteT ⟨_, rfl, h, c, 4, rfl, hA5, by decide, by decide, fun u H6 u0 u1 hA6 b6 => ⟨_, _, rfl, rfl, _, rfl, ite2 (fun _ => ?_) (fun _ => stay H6 hA6 b6)⟩⟩
            obtain ⟨c', h3, c2, c3, c4, c5, c6, c7⟩ := stay H6 hA6 b6
            rcases List.eq_nil_or_concat ds with e | ⟨ds', d, e⟩
            · subst e; simp at hl; omega
            · rw [List.concat_eq_append] at e
              subst e
              obtain ⟨vs', v, rfl, rl⟩ := RpA.snoc_inv c7
              rw [List.all_append, Bool.and_eq_true, List.all_cons, List.all_nil, Bool.and_true] at hall
              obtain ⟨aa, bb, rfl, q1, q2, q3, q4, q5⟩ := be_full hall.2
              obtain ⟨qa, xs, rfl, ea, za, rA⟩ := tup_inv rl
              cases rA with
              | cons r1 rA =>
                cases rA with
                | cons r2 rA =>
                  cases rA
                  cases r1
                  cases r2
                  refine ⟨_, rfl, _, rfl, p, _, _, _, rfl, rfl, SqL.of c6, atI_last _ _, qa, _, _, _, rfl, rfl, SqT.of (del_sub _ _ ea), atI_nat (j := 1) rfl, ?_⟩
                  exact ⟨bb, rfl, q3, q4, c4, c5, c6, c7⟩
          · rw [decide_eq_false h1]
            exact iteF (iteF (stay H5 hA5 (But.refl h H5)))
        · rw [decide_eq_false h0]
          exact iteF (iteF (stay H5 hA5 (But.refl h H5)))
      · rintro σ'' H6 ⟨b', rfl, c0', c1', hA6, b6, hp6, ra6⟩
        refine ⟨_, rfl, .inl ⟨rfl, _, SqL.of hp6⟩, _, rfl, _, rfl, _, _, rfl, rfl, _, rfl, _, rfl, _, _, rfl, rfl, h, c, 2 + x - 1, rfl, hA6, by omega, by omega, fun u H7 u0 u1 hA7 b7 => ?_⟩
        refine ⟨_, _, rfl, rfl, .inl ⟨_, rfl, _, rfl, _, _, rfl, rfl, by omega, by show 2 ≤ sizeLine; decide, fun q hq => ?_⟩⟩
        obtain ⟨n3, n4⟩ := hA7.ne hq
        have hp7 := b7 _ _ hp6 n1
        have nqp : q ≠ p := (ne_of_none hp7 hq).symm
        have b8 := b6.trans b7
        have ra7 : RpA (del H7 p) h vs ds := ra6.mono (by obtain ⟨zs, e⟩ := hA6.lst; exact ⟨zs, by rw [del_ne n1.symm]; exact e⟩) b7.del
        have hvl := ra7.len
        refine ⟨p, vs, _, rfl, rfl, by rw [upd_ne nqp.symm]; exact hp7, line_lt (by omega), ?_⟩
        obtain ⟨f0, f1⟩ := mod_range (b' + 1 + u) (m := 2 + x) (by omega)
        refine ⟨_, _, _, ds ++ [.tup [.int b', .int ((b' + 1 + u).fmod (2 + x))]], rfl, (hA7.upd n3 n4).upd n1 n2, (b8.upd (b8.free n3 hq)).upd p0, upd_same, ?_, by rw [List.length_append, hl]; rfl, ?_⟩
        · rw [del_upd]
          exact (ra7.same (del_new hq)).app (.cons (.tup (by rw [del_ne nqp]; exact upd_same) (by show 2 ≤ 100000; decide) (.cons (.int _) (.cons (.int _) .nil))) .nil)
        · rw [List.all_append, hall, Bool.true_and, List.all_cons, List.all_nil, Bool.and_true]
          exact be_of c0' c1' f0 f1 (ring_ne c0' c1' u0 (by omega))
    · rintro σ' H4 ⟨rv, bv, vs, ds, rfl, hA4, b4, hp4, ra, hl, hall⟩
      have hvl := ra.len
      have ra4 := ra.same (del_sub (p := p))
      refine ⟨_, rfl, _, rfl, p, vs, rfl, .inl ⟨SqL.of hp4, fun q hq => ?_⟩⟩
      obtain ⟨n3, n4⟩ := hA4.ne hq
      have hA5 : HandAt (upd H4 q (.tup vs)) h c := hA4.upd n3 n4
      have b5 : But h H (upd H4 q (.tup vs)) := b4.upd (b4.free n3 hq)
      have r5 : Rp (upd H4 q (.tup vs)) h (.ref q) (.tup ds) := .tup upd_same (by omega) (ra4.same (same_upd hq))
      refine ⟨_, rfl, _, rfl, h, c, 1 + y, rfl, hA5, by omega, by omega, fun rmv rm H6 hA6 b6 r6 e6 => ?_⟩
      refine ⟨_, rfl, _, rfl, h, c, 1 + y, rfl, hA6, by omega, by omega, fun tmv tm H7 hA7 b7 r7 e7 => ?_⟩
      refine ⟨by show 4 ≤ sizeLine; decide, fun t ht => ?_⟩
      obtain ⟨n5, n6⟩ := hA7.ne ht
      have b8 := (b5.trans b6).trans b7
      have el : 1 + y = (ds.length : Int) := by omega
      refine k _ (.tup [.int (2 + x), .tup ds, rm, tm]) _ (hA7.upd n5 n6) (b8.upd (b8.free n5 ht)) (.tup upd_same (by show 4 ≤ 100000; decide) (.cons (.int _) (.cons ((r5.mono hA5.lst (b6.trans b7)).same (same_upd ht)) (.cons ((r6.mono hA6.lst b7).same (same_upd ht)) (.cons (r7.same (same_upd ht)) .nil)))))
        ⟨2 + x, ds, rm, tm, rfl, by omega, by omega, by omega, by omega, hall, by rw [← el]; exact e6, by rw [← el]; exact e7⟩
end
end Hc

set_option Elab.async false
set_option linter.all false
set_option maxRecDepth 100000
set_option maxHeartbeats 4000000
set_option autoImplicit false
namespace Hc
open PySem L2
section
variable {P : Program} {w : World} {K : PySem.W.Frag} {mg : Str → Option Value} {base : Heap}
def spHand (K : PySem.W.Frag) : Sp := fun vs H Q _ => ∃ (a : Addr) (ns : List Int), vs = [.ref a] ∧ SqL K H a (ns.map V.int) ∧ ns.length ≤ 63 ∧
  ∀ h c H', Same H H' → HandAt H' h c → Q (.ref h) H'
theorem cutV_ints (ns : List Int) (lo hi : Option Int) : ∃ ms : List Int, cutV (ns.map V.int) lo hi = ms.map V.int ∧ ms.length ≤ ns.length := by
  refine ⟨(ns.drop (HT.sIx ns.length 0 lo)).take (HT.sIx ns.length ns.length hi - HT.sIx ns.length 0 lo), ?_, ?_⟩
  · unfold cutV
    rw [List.length_map, List.map_take, List.map_drop]
  · rw [List.length_take, List.length_drop]; omega
theorem ok__law_hand (T : Tx K mg) : FnOk P w K mg base CX0 1 T._law_hand.f T._law_hand.fd ["_law_script"] (spHand K) := by
  refine T._law_hand.F.ok sc_law_hand (fun vs H Q E h => ?_) (fun cdv A outer s H vs Q E hr h => ?_)
  · obtain ⟨a, ns, rfl, _⟩ := h
    rfl
  · obtain ⟨a, ns, rfl, hS, hl, k⟩ := h
    refine ⟨_, (pss_cons (ps_setLc (i := 1) (own := [("_law_cell", 2)]) (g := (gName 2)) (tt := tYes) rfl sc_law_hand.nd rfl rfl (sw_true rfl rfl rfl (by decide +kernel)) (pi_list (pe_slice sl_list (pv 0) po_none (po_some pe_int))) (blkOk_by (own := [("_law_cell", 2)]) (N := ["_law_script", "_law_cells", "_law_cell"]) (sc := defScope s_law_hand) (by decide +kernel)) (fun _ _ _ _ _ => (pg_name (i := 2) sc_law_hand.nd rfl (Or.inl rfl))) (fun _ _ _ _ _ => pts_nil) (fun _ _ _ _ _ => (by exact (pe_callB call_abs (by rfl) T.n_abs (by decide +kernel) (pa_cons (pe_callTy call_int1 (by rfl) T.n_int (by decide +kernel) (pa_cons (pv 2) pa_nil)) pa_nil)))))
      (pss_one (ps_ret (pe_lst (pa_cons (pv 1) (pa_cons pe_int (pa_cons pe_int (pa_cons (pe_op op_add pe_int (pe_callB call_len_seq (by rfl) T.n_len (by decide +kernel) (pa_cons (pv 1) pa_nil))) (pa_cons pe_int pa_nil))))))))), ?_⟩
    obtain ⟨ms, em, lm⟩ := cutV_ints ns none (some 63)
    refine ⟨_, rfl, _, rfl, a, _, rfl, hS, fun p hp => ?_⟩
    rw [em]
    refine ⟨p, rfl, ⟨_, SqL.of upd_same⟩, fun D hD => ?_⟩
    have s1 : Same H (upd H p (.lst (ms.map V.int))) := same_upd hp
    have npD : p ≠ D := ne_of_none upd_same hD
    refine lc_list (K := K) (a := p) (xs := ms.map V.int) (fun i H' => ∃ ys : List Int, H' D = some (.lst (ys.map V.int)) ∧ ys.length = i ∧ H' p = some (.lst (ms.map V.int)) ∧ ∀ b o, H b = some o → H' b = some o)
      ⟨[], upd_same, rfl, by rw [upd_ne npD]; exact upd_same, fun b o q => by rw [upd_ne (ne_of_none (s1 _ _ q) hD)]; exact s1 _ _ q⟩ (fun i H' _ ⟨_, _, _, q, _⟩ => SqL.of q) ?_ ?_
    · rintro i x H' hx ⟨ys, hd, hy, hp', sm⟩
      have hi : i < (ms.map V.int).length := (List.getElem?_eq_some_iff.mp hx).1
      rw [List.length_map] at hi
      obtain ⟨z, rfl⟩ : ∃ z, x = V.int z := by
        rw [List.getElem?_map] at hx
        cases e : ms[i]? with
        | none => rw [e] at hx; cases hx
        | some z => rw [e] at hx; exact ⟨z, (Option.some.inj hx).symm⟩
      refine ⟨rfl, tyes ⟨_, rfl, .inl ⟨_, rfl, _, rfl, _, hd, ?_, ys ++ [if z < 0 then -z else z], ?_, ?_, ?_, ?_⟩⟩⟩
      · rw [List.length_map]; exact line_lt (by omega)
      · rw [upd_same, List.map_append]; rfl
      · rw [List.length_append, hy]; rfl
      · rw [upd_ne npD]; exact hp'
      · intro b o q
        have := s1 _ _ q
        rw [upd_ne (ne_of_none this hD)]
        exact sm _ _ q
    · rintro H' ⟨ys, hd, hy, hp', sm⟩
      refine ⟨_, rfl, _, rfl, _, _, rfl, .inl (SqL.of hd), _, _, rfl, rfl, by show 5 ≤ sizeLine; decide, fun hh nh => ?_⟩
      have nD : D ≠ hh := ne_of_none hd nh
      exact k hh D _ (fun b o q => by rw [upd_ne (ne_of_none (sm _ _ q) nh)]; exact sm _ _ q) ⟨ys, 0, 0, _, 0, upd_same, by rw [upd_ne nD]; exact hd, by decide, nD⟩
end
end Hc

set_option Elab.async false
set_option linter.all false
set_option maxRecDepth 100000
set_option maxHeartbeats 4000000
set_option autoImplicit false
namespace Hc
open PySem L2
theorem new_facts {H H2 : Hp} {h c p : Addr} {o : HO} (hA : HandAt H h c) (hp : H p = none) (e : upd H p o = H2) : Same H H2 ∧ H2 p = some o ∧ p ≠ h ∧ p ≠ c ∧ HandAt H2 h c := by
  subst e
  obtain ⟨n1, n2⟩ := hA.ne hp
  exact ⟨same_upd hp, upd_same, n1, n2, hA.upd n1 n2⟩
theorem RpA.of {H : Hp} {h : Addr} {xs : List V} {ds : List D} (r : RpA H h xs ds) {n : Int} (n0 : 0 ≤ n) (n1 : n < (xs.length : Int)) : ∃ v d, atI xs n = some v ∧ d ∈ ds ∧ Rp H h v d := by
  obtain ⟨j, rfl⟩ := Int.eq_ofNat_of_zero_le n0
  have hj : j < xs.length := by omega
  obtain ⟨d, h1, h2⟩ := r.get (List.getElem?_eq_getElem hj)
  exact ⟨_, d, atI_nat (List.getElem?_eq_getElem hj), List.mem_of_getElem? h1, h2⟩
theorem RpA.cut {H : Hp} {h : Addr} {xs : List V} {ds : List D} (r : RpA H h xs ds) (lo hi : Option Int) : ∃ es : List D, RpA H h (cutV xs lo hi) es ∧ es.length ≤ ds.length :=
  ⟨_, RpA.take _ (RpA.drop _ r), by rw [List.length_take, List.length_drop]; omega⟩
theorem slA_rp {K : PySem.W.Frag} {H : Hp} {h c : Addr} {x : V} {lo hi : Option Int} {Q : VK} {ds : List D} (hA : HandAt H h c) (r : Rp H h x (.tup ds))
    (k : ∀ v ds' H', Same H H' → HandAt H' h c → Rp H' h v (.tup ds') → ds'.length ≤ ds.length → Q v H') : rSlA K x lo hi H Q := by
  obtain ⟨a, xs, rfl, e, z, ra⟩ := tup_inv r
  refine ⟨a, xs, rfl, SqT.of e, fun _ => k _ ds _ (Same.refl _) hA r (Nat.le_refl _), fun _ p hp => ?_⟩
  obtain ⟨s2, e2, n2, n3, hA2⟩ := new_facts (o := .tup (cutV xs lo hi)) hA hp rfl
  obtain ⟨es, re, ze⟩ := ra.cut lo hi
  exact k _ es _ s2 hA2 (.tup e2 (Nat.le_trans (cutV_length _ _ _) z) (re.same s2)) ze
theorem catA_rp {K : PySem.W.Frag} {H : Hp} {h c : Addr} {x y : V} {Q : VK} {ds es : List D} (hA : HandAt H h c) (r1 : Rp H h x (.tup ds)) (r2 : Rp H h y (.tup es)) (z : ds.length + es.length ≤ 50000)
    (k : ∀ v H', Same H H' → HandAt H' h c → Rp H' h v (.tup (ds ++ es)) → Q v H') : rCatA K x y H Q := by
  obtain ⟨a, xs, rfl, e1, z1, ra⟩ := tup_inv r1
  obtain ⟨b, ys, rfl, e2, z2, rb⟩ := tup_inv r2
  have l1 := ra.len
  have l2 := rb.len
  refine ⟨a, b, xs, ys, rfl, rfl, SqT.of e1, SqT.of e2, line_le (by omega), fun ex => ?_, fun _ ey => ?_, fun _ _ p hp => ?_⟩
  · subst ex
    cases ra
    exact k _ _ (Same.refl _) hA r2
  · subst ey
    cases rb
    refine k _ _ (Same.refl _) hA ?_
    rw [List.append_nil]
    exact r1
  · obtain ⟨s3, e3, n2, n3, hA3⟩ := new_facts (o := .tup (xs ++ ys)) hA hp rfl
    exact k _ _ s3 hA3 (.tup e3 (by rw [List.length_append]; omega) ((ra.app rb).same s3))
theorem repA_rp {K : PySem.W.Frag} {H : Hp} {h c : Addr} {x : V} {n : Int} {Q : VK} {ds : List D} (hA : HandAt H h c) (r : Rp H h x (.tup ds)) (n0 : 1 ≤ n) (n1 : n ≤ 100) (d0 : ds ≠ []) (d1 : ds.length ≤ 1000)
    (k : ∀ v es H', Same H H' → HandAt H' h c → Rp H' h v (.tup es) → Q v H') : rRepA K x (.int n) H Q := by
  obtain ⟨a, xs, rfl, e1, z1, ra⟩ := tup_inv r
  have l1 := ra.len
  have rep : ∀ m : Nat, ∃ es, RpA H h (List.replicate m xs).flatten es := fun m => by
    induction m with
    | zero => exact ⟨_, .nil⟩
    | succ m ih =>
      obtain ⟨es, ih⟩ := ih
      rw [List.replicate_succ, List.flatten_cons]
      exact ⟨_, ra.app ih⟩
  refine ⟨a, n, xs, rfl, rfl, SqT.of e1, fun z => d0 (List.eq_nil_of_length_eq_zero (by rw [← l1, z]; rfl)), n0, by omega, by omega, fun _ => k _ _ _ (Same.refl _) hA r, fun _ p hp => ?_⟩
  obtain ⟨s3, e3, n2, n3, hA3⟩ := new_facts (o := .tup (List.replicate n.toNat xs).flatten) hA hp rfl
  obtain ⟨es, re⟩ := rep n.toNat
  refine k _ es _ s3 hA3 (.tup e3 ?_ (re.same s3))
  rw [PyProof.Rows.lm_len_rep_flat]
  have a1 : n.toNat * xs.length ≤ 100 * 1000 := Nat.mul_le_mul (by omega) (by omega)
  omega
structure BW (h : Addr) (H H' : Hp) : Prop where
  b : But h H H'
/-- no longer than what a sort of the law's takes -/
def short : D → Prop | .tup ds => ds.length ≤ 60 | _ => True
/-- some short thing -/
def RpX (H : Hp) (h : Addr) (v : V) : Prop := ∃ d, Rp H h v d ∧ short d
def RpXA (H : Hp) (h : Addr) (vs : List V) : Prop := ∃ ds, RpA H h vs ds ∧ ∀ d ∈ ds, short d
section
variable {H H' : Hp} {h : Addr}
theorem RpX.non : RpX H h .non := ⟨_, .non, trivial⟩
theorem RpX.bl (b : Bool) : RpX H h (.bl b) := ⟨_, .bl b, trivial⟩
theorem RpX.int (i : Int) : RpX H h (.int i) := ⟨_, .int i, trivial⟩
theorem RpX.str (s : Str) : RpX H h (.str s) := ⟨_, .str s, trivial⟩
theorem RpX.tup {a : Addr} {xs : List V} (e : H a = some (.tup xs)) (z : xs.length ≤ 60) (r : RpXA H h xs) : RpX H h (.ref a) := by
  obtain ⟨ds, r, _⟩ := r
  refine ⟨_, .tup e (by omega) r, ?_⟩
  show ds.length ≤ 60
  rw [← r.len]; exact z
theorem RpX.lst {a : Addr} {xs : List V} (e : H a = some (.lst xs)) (n : a ≠ h) : RpX H h (.ref a) := ⟨_, .lst e n, trivial⟩
theorem RpX.dct {a : Addr} {kvs : List (Key × V)} (e : H a = some (.dK kvs)) : RpX H h (.ref a) := ⟨_, .dct e, trivial⟩
theorem RpX.same {v : V} (s : Same H H') (r : RpX H h v) : RpX H' h v := by
  obtain ⟨d, r, q⟩ := r
  exact ⟨d, r.same s, q⟩
theorem RpX.monoB {c : Addr} {v : V} (s : But h H H') (l : HandAt H h c) (r : RpX H h v) : RpX H' h v := by
  obtain ⟨d, r, q⟩ := r
  exact ⟨d, r.mono l.lst s, q⟩
theorem Rp.monoB {c : Addr} {v : V} {d : D} (s : But h H H') (l : HandAt H h c) (r : Rp H h v d) : Rp H' h v d := r.mono l.lst s
theorem RpXA.nil : RpXA H h [] := ⟨_, .nil, fun _ z => nomatch z⟩
theorem RpXA.cons {v : V} {vs : List V} (r : RpX H h v) (q : RpXA H h vs) : RpXA H h (v :: vs) := by
  obtain ⟨d, r, s⟩ := r
  obtain ⟨ds, q, t⟩ := q
  exact ⟨_, .cons r q, fun e he => by
    rcases List.mem_cons.mp he with rfl | he
    · exact s
    · exact t e he⟩
theorem RpXA.app {vs ws : List V} (r : RpXA H h vs) (q : RpXA H h ws) : RpXA H h (vs ++ ws) := by
  obtain ⟨ds, r, s⟩ := r
  obtain ⟨es, q, t⟩ := q
  exact ⟨_, r.app q, fun e he => by
    rcases List.mem_append.mp he with he | he
    · exact s e he
    · exact t e he⟩
theorem RpXA.same {vs : List V} (s : Same H H') (r : RpXA H h vs) : RpXA H' h vs := by
  obtain ⟨d, r, q⟩ := r
  exact ⟨d, r.same s, q⟩
theorem RpXA.monoB {c : Addr} {vs : List V} (s : But h H H') (l : HandAt H h c) (r : RpXA H h vs) : RpXA H' h vs := by
  obtain ⟨d, r, q⟩ := r
  exact ⟨d, r.mono l.lst s, q⟩
theorem RpXA.at {xs : List V} (r : RpXA H h xs) {i : Nat} {x : V} (e : xs[i]? = some x) : RpX H h x := by
  obtain ⟨ds, r, t⟩ := r
  obtain ⟨d, h1, h2⟩ := r.get e
  exact ⟨d, h2, t d (List.mem_of_getElem? h1)⟩
theorem RpXA.get {xs : List V} (r : RpXA H h xs) {n : Int} (n0 : 0 ≤ n) (n1 : n < (xs.length : Int)) : ∃ v, atI xs n = some v ∧ RpX H h v := by
  obtain ⟨ds, r, t⟩ := r
  obtain ⟨v, d, h1, h3, h2⟩ := r.of n0 n1
  exact ⟨v, h1, d, h2, t d h3⟩
end
end Hc
local macro_rules | `(tactic| walk_at "gen") => `(tactic| (generalize hE : L2.upd _ _ _ = H2; have q := Hc.new_facts (by assumption) (by assumption) hE; clear hE; obtain ⟨s2, e2, n2, n3, hA2⟩ := q))
local macro_rules | `(tactic| walk_at "rp") => `(tactic| first
  | assumption
  | exact Hc.RpX.non | exact Hc.RpX.bl _ | exact Hc.RpX.int _ | exact Hc.RpX.str _
  | exact Hc.RpXA.nil
  | (refine Hc.RpXA.cons ?_ ?_ <;> walk_at "rp")
  | (refine Hc.RpX.tup (by assumption) (by simp) ?_; walk_at "rp")
  | exact Hc.RpX.lst (by assumption) (by assumption)
  | exact Hc.RpX.dct (by assumption)
  | (refine Hc.RpX.same (by assumption) ?_; walk_at "rp")
  | (refine Hc.RpX.monoB (by assumption) (by assumption) ?_; walk_at "rp"))
local macro_rules | `(tactic| walk_at "rr") => `(tactic| first
  | assumption
  | (refine Hc.Rp.same (by assumption) ?_; walk_at "rr")
  | (refine Hc.Rp.monoB (by assumption) (by assumption) ?_; walk_at "rr"))
local macro_rules | `(tactic| walk_at "bt") => `(tactic| first
  | assumption
  | exact Hc.But.refl _ _
  | (refine Hc.But.trans ?_ (Hc.But.of (by assumption)); walk_at "bt")
  | (refine Hc.But.trans ?_ (by assumption); walk_at "bt"))
local macro_rules | `(tactic| walk_at "at") => `(tactic| first
  | assumption
  | (refine (by assumption : L2.Same _ _) _ _ ?_; walk_at "at")
  | (refine (by assumption : Hc.But _ _ _) _ _ ?_ (by assumption); walk_at "at"))
namespace Hc
open PySem L2
section
variable {P : Program} {w : World} {K : PySem.W.Frag} {mg : Str → Option Value} {base : Heap}
def spOdd : Sp := fun vs H Q _ => ∃ (h c : Addr), vs = [.ref h] ∧ HandAt H h c ∧ ∀ v H', HandAt H' h c → But h H H' → RpX H' h v → Q v H'
theorem ok__law_odd (T : Tx K mg) : FnOk P w K mg base CX0 2 T._law_odd.f T._law_odd.fd ["_law_hand_here"] spOdd := by
  refine T._law_odd.F.ok sc_law_odd (fun vs H Q E h => ?_) (fun cdv A outer s H vs Q E hr h => ?_)
  · obtain ⟨h, c, rfl, _⟩ := h
    rfl
  · obtain ⟨h, c, rfl, hA, k⟩ := h
    refine ⟨_, (pss_cons (ps_set (i := 1) sc_law_odd.nd rfl (Or.inl rfl) (pe_lst (pa_cons pe_non pa_nil)))
      (pss_cons (ps_for PassesOwn.never rfl (pi_range1 (by rfl) T.n_range (pa_cons pe_int pa_nil)) (pg_name (i := 2) sc_law_odd.nd rfl (Or.inl rfl))
      (pss_one (ps_set (i := 1) sc_law_odd.nd rfl (Or.inl rfl) (pe_lst (pa_cons (pv 1) pa_nil)))))
      (pss_cons (ps_set (i := 3) sc_law_odd.nd rfl (Or.inl rfl) (pe_lst (pa_cons pe_non (pa_cons pe_bl (pa_cons pe_bl (pa_cons pe_str (pa_cons pe_str (pa_cons (pe_lst (pa_cons pe_str pa_nil)) (pa_cons (pe_disp (pps_cons pe_str pe_str pps_nil) (by rfl) (by rfl) (fun z => by cases z) (by decide)) (pa_cons (pe_lst pa_nil) (pa_cons pe_dnewK (pa_cons (pe_tup (pa_cons (pe_tup pa_nil) pa_nil)) (pa_cons (pe_tup (pa_cons pe_str pa_nil)) (pa_cons (pv 1) (pa_cons (pe_tup (pa_cons pe_non pa_nil)) (pa_cons (pe_un un_neg pe_int) (pa_cons (pe_lst (pa_cons pe_int pa_nil)) (pa_cons (pe_tup (pa_cons pe_bl pa_nil)) pa_nil))))))))))))))))))
      (pss_one (ps_ret (pe_ix ix_list (pv 3) (pe_call (ok__law_draw T) (hr.mono (by decide)) rfl T._law_draw.g T._law_draw.F.kp T._law_draw.b .nil pass0 (pa_cons (pv 0) (pa_cons (pe_callB call_len_seq (by rfl) T.n_len (by decide +kernel) (pa_cons (pv 3) pa_nil)) pa_nil))) (fun _ _ => rfl))))))), ?_⟩
    refine ⟨by show 1 ≤ sizeLine; decide, fun p hp => ?_⟩
    walk_at "gen"
    rename_i H1 s1 e1 n1 _ hA1
    refine ⟨18, rfl, by decide, by decide, for_range (lo := 0) (n := 18) (fun i σ' H' => ∃ (q : Addr) (xs : List V) (tv : Option V), σ' = [some (.ref h), some (.ref q), tv, none] ∧ HandAt H' h c ∧ Same H H' ∧ H' q = some (.lst xs) ∧ q ≠ h)
      ⟨p, _, none, rfl, hA1, s1, e1, n1⟩ ?_ ?_⟩
    · rintro i σ' H2 hi ⟨q, xs, tv, rfl, hA2, s2, e2, n2⟩
      refine ⟨_, rfl, by show 1 ≤ sizeLine; decide, fun p2 hp2 => ?_⟩
      walk_at "gen"
      exact ⟨p2, _, _, rfl, by assumption, s2.trans (by assumption), by assumption, by assumption⟩
    · rintro σ' H2 ⟨q, xs, tv, rfl, hA2, s2, e2, n2⟩
      clear hA1 s1 e1 n1
      refine ⟨by show 1 ≤ sizeLine; decide, fun p1 hp1 => ?_⟩
      walk_at "gen"
      refine fun p2 hp2 => ⟨upd_same, [(Sum.inr "a", .str "b")], rfl, by decide, ?_⟩
      rw [upd_upd]
      walk_at "gen"
      refine ⟨by show 0 ≤ sizeLine; decide, fun p3 hp3 => ?_⟩
      walk_at "gen"
      refine fun p4 hp4 => ?_
      walk_at "gen"
      refine ⟨by show 0 ≤ sizeLine; decide, fun p5 hp5 => ?_⟩
      walk_at "gen"
      refine ⟨by show 1 ≤ sizeLine; decide, fun p6 hp6 => ?_⟩
      walk_at "gen"
      refine ⟨by show 1 ≤ sizeLine; decide, fun p7 hp7 => ?_⟩
      walk_at "gen"
      refine ⟨_, rfl, by show 1 ≤ sizeLine; decide, fun p8 hp8 => ?_⟩
      walk_at "gen"
      refine ⟨_, rfl, by show 1 ≤ sizeLine; decide, fun p9 hp9 => ?_⟩
      walk_at "gen"
      refine ⟨by show 1 ≤ sizeLine; decide, fun p10 hp10 => ?_⟩
      walk_at "gen"
      refine ⟨by show 16 ≤ sizeLine; decide, fun p11 hp11 => ?_⟩
      walk_at "gen"
      rename_i H3 s3 e3 n3 _ hA3
      have ra : RpXA H3 h [.non, .bl true, .bl false, .str "1", .str "A b", .ref p1, .ref p2, .ref p3, .ref p4, .ref p6, .ref p7, .ref q, .ref p8, .int (-1), .ref p9, .ref p10] := by walk_at "rp"
      have b3 : But h H H3 := by walk_at "bt"
      refine ⟨_, rfl, _, rfl, _, rfl, p11, _, rfl, .inl (SqL.of e3), h, c, 16, rfl, hA3, by decide, by decide, fun n H4 m0 m1 hA4 b4 => ?_⟩
      obtain ⟨v, g1, g2⟩ := ra.get m0 m1
      exact ⟨p11, _, n, v, rfl, rfl, SqL.of (b4 _ _ e3 n3), g1, k v H4 hA4 (b3.trans b4) (g2.monoB b4 hA3)⟩
end
end Hc

set_option Elab.async false
set_option linter.all false
set_option maxRecDepth 100000
set_option maxHeartbeats 1000000
set_option autoImplicit false
namespace Hc
open PySem L2
def bg : D → Int | .tup (.int a :: _) => a | _ => 0
def en : D → Int | .tup (_ :: .int b :: _) => b | _ => 0
def dAt (ds : List D) (i : Int) : D := ds.getD i.toNat .non
/-- neighbours -/
def adj (R : Int → Int → Bool) (ns : List Int) : Bool := (List.range (ns.length - 1)).all fun j => R (ns.getD j 0) (ns.getD (j + 1) 0)
def nums : D → List Int | .tup ds => ds.map num | _ => []
def isRoad (rds : List D) (d : D) : Bool := isBtw 0 ((rds.length : Int) - 1) d
def isWay (rds : List D) : D → Bool
  | .tup ds => decide (1 ≤ ds.length) && decide (ds.length ≤ 8) && ds.all (isRoad rds) && adj (fun a b => decide (en (dAt rds a) = bg (dAt rds b))) (ds.map num)
  | _ => false
def isLot (rds : List D) : D → Bool
  | .tup ds => ds.all (isRoad rds) && adj (fun a b => decide (a < b)) (ds.map num)
  | _ => false
def nextL (rds : List D) (r : Int) : List Nat := (List.range rds.length).filter fun j => decide (bg (rds.getD j .non) = en (dAt rds r))
/-- a web's object at p -/
structure WebO (C : Addr) (H : Hp) (h p : Addr) (n : Int) (rds : List D) : Prop where
  ex : ∃ (dx : Addr) (v1 v2 v3 v4 : V), H p = some (.ins C dx (webF v1 v2 v3 v4)) ∧ Rp H h v2 (.tup rds)
  all : rds.all (isBE n) = true
  l1 : 1 ≤ rds.length
  l2 : rds.length ≤ 24
theorem WebO.same {C : Addr} {H H' : Hp} {h p : Addr} {n : Int} {rds : List D} (w : WebO C H h p n rds) (s : Same H H') : WebO C H' h p n rds := by
  obtain ⟨⟨dx, v1, v2, v3, v4, e, r⟩, a, b, c⟩ := w
  exact ⟨⟨dx, v1, v2, v3, v4, s _ _ e, r.same s⟩, a, b, c⟩
theorem WebO.but {C : Addr} {H H' : Hp} {h c p : Addr} {n : Int} {rds : List D} (w : WebO C H h p n rds) (k : But h H H') (hA : HandAt H h c) : WebO C H' h p n rds := by
  obtain ⟨⟨dx, v1, v2, v3, v4, e, r⟩, a, b, c⟩ := w
  refine ⟨⟨dx, v1, v2, v3, v4, k _ _ e ?_, r.monoB k hA⟩, a, b, c⟩
  obtain ⟨zs, q⟩ := hA.lst
  exact ne_of e q (by intro z; cases z)
theorem webN {a b : Str} (h : ¬ a = b) : ¬ a = b := h
theorem wF_r (v1 v2 v3 v4 : V) : (webF v1 v2 v3 v4).lookup ("roads" : Str) = some v2 := by
  have h1 : ¬ (("roads" : Str) = "rooms") := by decide +kernel
  have h2 : ¬ (("roads" : Str) = "times") := by decide +kernel
  unfold webF
  rw [lookup_putF, if_neg h2, lookup_putF, if_neg h1, lookup_putF, if_pos rfl]
/-- the road i of a web's roads -/
theorem RpA.road {H : Hp} {h : Addr} {xs : List V} {rds : List D} {n : Int} (r : RpA H h xs rds) (hall : rds.all (isBE n) = true) {j : Nat} (hj : j < rds.length) :
    ∃ q a b, xs[j]? = some (.ref q) ∧ H q = some (.tup [.int a, .int b]) ∧ bg (rds.getD j .non) = a ∧ en (rds.getD j .non) = b := by
  have hx : j < xs.length := by rw [r.len]; exact hj
  obtain ⟨d, h1, h2⟩ := r.get (List.getElem?_eq_getElem hx)
  rw [List.all_eq_true] at hall
  obtain ⟨a, b, rfl, _⟩ := be_full (hall d (List.mem_of_getElem? h1))
  obtain ⟨q, ys, e1, e2, _, ra⟩ := tup_inv h2
  have eg : rds.getD j .non = .tup [.int a, .int b] := by rw [List.getD_eq_getElem?_getD, h1]; rfl
  cases ra with
  | cons r1 ra =>
    cases ra with
    | cons r2 ra =>
      cases ra
      cases r1
      cases r2
      exact ⟨q, a, b, by rw [List.getElem?_eq_getElem hx, e1], e2, by rw [eg]; rfl, by rw [eg]; rfl⟩
theorem road_in {rds : List D} {d : D} (e : isRoad rds d = true) : ∃ j : Nat, d = .int j ∧ j < rds.length := by
  cases d with
  | int i =>
    have e1 : (decide (0 ≤ i) && decide (i ≤ (rds.length : Int) - 1)) = true := e
    rw [Bool.and_eq_true] at e1
    have h1 := of_decide_eq_true e1.1
    have h2 := of_decide_eq_true e1.2
    exact ⟨i.toNat, by rw [Int.toNat_of_nonneg h1], by omega⟩
  | _ => exact Bool.noConfusion e
/-- a tuple of numbers of roads -/
theorem roads_in {H : Hp} {h : Addr} {rds : List D} : ∀ {xs : List V} {ds : List D}, RpA H h xs ds → ds.all (isRoad rds) = true → ∃ ns : List Nat, ds = ns.map (fun j => .int (j : Nat)) ∧ xs = ns.map (fun j => V.int (j : Nat)) ∧ ∀ j ∈ ns, j < rds.length
  | _, _, .nil, _ => ⟨[], rfl, rfl, fun _ z => nomatch z⟩
  | _, _, .cons r q, e => by
    rw [List.all_cons, Bool.and_eq_true] at e
    obtain ⟨j, rfl, hj⟩ := road_in e.1
    obtain ⟨ns, rfl, rfl, hn⟩ := roads_in q e.2
    cases r
    exact ⟨j :: ns, rfl, rfl, fun k hk => by
      rcases List.mem_cons.mp hk with rfl | hk
      · exact hj
      · exact hn k hk⟩
theorem sl1 {K : PySem.W.Frag} {H : Hp} {a : Addr} {xs : List V} {Q : VK} (e : H a = some (.tup xs)) (k : ∀ b H', Same H H' → H' b = some (.tup (xs.drop 1)) → Q (.ref b) H') : rSlA K (.ref a) (some 1) none H Q := by
  have s1 : HT.sIx xs.length 0 (some 1) = min 1 xs.length := by
    show (if (1 : Int) < 0 then ((1 : Int) + (xs.length : Int)).toNat else min (1 : Int).toNat xs.length) = _
    rw [if_neg (by decide)]; rfl
  have s2 : HT.sIx xs.length xs.length none = xs.length := rfl
  have cut : cutV xs (some 1) none = xs.drop 1 := by
    unfold cutV
    rw [s1, s2]
    by_cases h : xs.length = 0
    · have : xs = [] := List.eq_nil_of_length_eq_zero h
      subst this; rfl
    · have m : min 1 xs.length = 1 := by omega
      rw [m]
      exact List.take_of_length_le (by rw [List.length_drop]; exact Nat.le_refl _)
  refine ⟨a, xs, rfl, SqT.of e, fun hw => ?_, fun _ p hp => ?_⟩
  · have h0 : xs.length = 0 := by
      rw [s1] at hw; omega
    have : xs = [] := List.eq_nil_of_length_eq_zero h0
    subst this
    exact k a H (Same.refl H) e
  · exact k p _ (same_upd hp) (by rw [upd_same, cut])
/-- [.. for i, x in enumerate(t) ..] -/
theorem lc_enumT {K : PySem.W.Frag} {a : Addr} {xs : List V} {g : TG} {tt : TT} {te : TE} {vs : List Nat} {σ : St} {H1 : Hp} {D : Addr} {Qd : Hp → Prop} (Pv : Nat → Hp → Prop) (h0 : Pv 0 (upd H1 D (.lst [])))
    (hl : ∀ i H, Pv i H → SqT K H a xs)
    (hs : ∀ (i : Nat) (x : V) (T : Addr) (H : Hp), xs[i]? = some x → H T = none → Pv i H → g (.ref T) (wipe σ vs) (upd H T (.tup [.int (i : Nat), x])) fun σ2 H2 => wipe σ2 vs = wipe σ vs ∧ tt σ2 H2 fun b H3 =>
      if b = true then te σ2 H3 fun y H4 => ∃ acc, H4 D = some (.lst acc) ∧ acc.length < sizeLine ∧ Pv (i + 1) (upd H4 D (.lst (acc ++ [y]))) else Pv (i + 1) H3) (hd : ∀ H, Pv xs.length H → Qd H) :
    ∃ W : Nat → Nat → Hp → Prop, (∃ m, W 0 m (upd H1 D (.lst []))) ∧ ∀ i m H, W i m H →
      ((IteT K a).stop i H ∧ Qd H) ∨ ((IteT K a).go i H ∧ ∃ Nx : Hp → Prop, (∀ H', Nx H' → ∃ m', m' < m ∧ W (i + 1) m' H') ∧ ∀ x H', (IteT K a).yld i H x H' → g x (wipe σ vs) H' fun σ2 H2 => wipe σ2 vs = wipe σ vs ∧ tt σ2 H2 fun b H3 =>
        if b = true then te σ2 H3 fun y H4 => ∃ acc, H4 D = some (.lst acc) ∧ acc.length < sizeLine ∧ Nx (upd H4 D (.lst (acc ++ [y]))) else Nx H3) := by
  refine ⟨fun i m H => m = xs.length - i ∧ i ≤ xs.length ∧ Pv i H, ⟨_, rfl, Nat.zero_le _, h0⟩, ?_⟩
  rintro i m H ⟨rfl, hi, p⟩
  have q := hl i H p
  by_cases hlt : i < xs.length
  · refine .inr ⟨⟨xs, _, q, List.getElem?_eq_getElem hlt⟩, Pv (i + 1), fun H' p' => ⟨xs.length - (i + 1), by omega, rfl, hlt, p'⟩, fun v H' y => ?_⟩
    obtain ⟨T, x', rfl, hT, rfl, f1⟩ := y
    exact hs i x' T H (f1 xs q) hT p
  · have e : i = xs.length := by omega
    subst e
    exact .inl ⟨⟨xs, q, Nat.le_refl _⟩, hd H p⟩
section
variable {P : Program} {w : World} {K : PySem.W.Frag} {mg : Str → Option Value} {base : Heap}
theorem ok_NoRoad___init (T : Tx K mg) : FnOk P w K mg base (L2.CX P w) 1 T.x_NoRoad.f T.x_NoRoad.fd ["self"] spInitN := by
  refine T.x_NoRoad.F.okX sc_NoRoad___init (fun vs H Q E h => ?_) (fun cdv A outer s H vs Q E hr h => ?_)
  · obtain ⟨a, rfl, _⟩ := h
    rfl
  · obtain ⟨a, rfl, k⟩ := h
    exact ⟨_, pss_one ps_pass, k⟩
def spIsRoad (C : Addr) : Sp := fun vs H Q _ => ∃ (h p : Addr) (n : Int) (rds : List D) (v : V) (d : D), vs = [.ref p, v] ∧ WebO C H h p n rds ∧ Rp H h v d ∧ Q (.bl (isRoad rds d)) H
theorem ok_is_road (T : Tx K mg) : FnOk P w K mg base CX0 3 T.is_road.f T.is_road.fd ["web", "thing"] (spIsRoad T.Web.C) := by
  refine T.is_road.F.ok sc_is_road (fun vs H Q E h => ?_) (fun cdv A outer s H vs Q E hr h => ?_)
  · obtain ⟨_, p, n, rds, v, d, rfl, _⟩ := h
    rfl
  · obtain ⟨h, p, n, rds, v, d, rfl, W, r, k⟩ := h
    obtain ⟨dx, v1, v2, v3, v4, hp, r2⟩ := W.ex
    obtain ⟨pa, xs, rfl, ea, za, ra⟩ := tup_inv r2
    refine ⟨_, (pss_one (ps_ret (pe_call (ok_is_between T) (hr.mono (by decide)) rfl T.is_between.g T.is_between.F.kp T.is_between.b .nil pass0 (pa_cons pe_int (pa_cons (pe_op op_sub (pe_callB call_len_seq (by rfl) T.n_len (by decide +kernel) (pa_cons (pe_fld (pv 0) rfl) pa_nil)) pe_int) (pa_cons (pv 1) pa_nil)))))), ?_⟩
    refine ⟨_, rfl, p, T.Web.C, dx, _, _, rfl, hp, T.Web.cl, T.Web.no _ (by simp), wF_r _ _ _ _, pa, xs, rfl, .inr (SqT.of ea), _, _, rfl, rfl, _, rfl, h, 0, _, v, d, rfl, r, ?_⟩
    rw [ra.len]
    exact k
def spNext (C CN : Addr) : Sp := fun vs H Q E => ∃ (h p : Addr) (n : Int) (rds : List D) (v : V) (d : D), vs = [.ref p, v] ∧ WebO C H h p n rds ∧ Rp H h v d ∧
  (isRoad rds d = false → E (.ref CN) none H) ∧ (isRoad rds d = true → ∀ a H', Same H H' → H' a = some (.tup ((nextL rds (num d)).map fun j => V.int (j : Nat))) → Q (.ref a) H')
theorem ok_next_roads (T : Tx K mg) : FnOk P w K mg base (L2.CX P w) 4 T.next_roads.f T.next_roads.fd ["web", "road"] (spNext T.Web.C T.x_NoRoad.C) := by
  refine T.next_roads.F.okX sc_next_roads (fun vs H Q E h => ?_) (fun cdv A outer s H vs Q E hr h => ?_)
  · obtain ⟨_, p, n, rds, v, d, rfl, _⟩ := h
    rfl
  · obtain ⟨h, p, n, rds, v, d, rfl, W, r, kn, ky⟩ := h
    refine ⟨_, (pss_cons (ps_if (pt_not (pt_val (pe_call (ok_is_road T) (hr.mono (by decide)) rfl T.is_road.g T.is_road.F.kp T.is_road.b .nil pass0 (pa_cons (pv 0) (pa_cons (pv 1) pa_nil)))))
      (pss_one (ps_raise rfl (takes_of rfl rfl rfl rfl) (pmk_oexN T.x_NoRoad.T T.x_NoRoad.iC T.x_NoRoad.tI (ok_NoRoad___init T) (hr.mono (by decide)) T.x_NoRoad.b passL rfl T.x_NoRoad.g)))
      pss_nil)
      (pss_cons (ps_set (i := 2) sc_next_roads.nd rfl (Or.inr rfl) (pe_ix ix_tup (pe_ix ix_tup (pe_fld (pv 0) rfl) (pv 1) (fun _ _ => rfl)) pe_int (fun _ _ => rfl)))
      (pss_one (ps_ret (pe_callTy call_tuple_of (by rfl) T.n_tuple (by decide +kernel) (pa_cons (pe_lc (own := [("number", 3), ("begin", 4), ("_", 5)]) (g := (gTup K 2 (gCons (gName 3) (gCons (gTup K 2 (gCons (gName 4) (gCons (gName 5) gNil))) gNil))))  rfl sc_next_roads.nd (pi_enumT (by rfl) T.n_enumerate (pa_cons (pe_fld (pv 0) rfl) pa_nil)) (blkOk_by (own := [("number", 3), ("begin", 4), ("_", 5)]) (N := ["web", "road", "end", "number", "begin", "_"]) (sc := defScope s_next_roads) (by decide +kernel)) (fun _ _ _ _ _ => (pg_tup (by rfl) (pgs_cons (pg_name (i := 3) sc_next_roads.nd rfl (Or.inl rfl)) (pgs_cons (by exact (pg_tup (by rfl) (pgs_cons (pg_name (i := 4) sc_next_roads.nd rfl (Or.inl rfl)) (pgs_cons (pg_name (i := 5) sc_next_roads.nd rfl (Or.inl rfl)) pgs_nil)))) pgs_nil)))) (fun _ _ _ _ _ => (pts_one (by exact (pt_cmpR op_eq (pv 4) (pv 2) (nomark _))))) (fun _ _ _ _ _ => (by exact (pv 3)))) pa_nil)))))), ?_⟩
    refine ⟨_, rfl, _, rfl, h, p, n, rds, v, d, rfl, W, r, _, rfl, ?_⟩
    cases e : isRoad rds d with
    | false => exact iteT (kn e)
    | true =>
    refine iteF ?_
    obtain ⟨j, rfl, hj⟩ := road_in e
    have ky := ky e
    cases r
    obtain ⟨dx, v1, v2, v3, v4, hp, r2⟩ := W.ex
    obtain ⟨pa, xs, rfl, ea, za, ra⟩ := tup_inv r2
    obtain ⟨q, a, b, x1, x2, x3, x4⟩ := ra.road W.all hj
    refine ⟨_, rfl, p, T.Web.C, dx, _, _, rfl, hp, T.Web.cl, T.Web.no _ (by simp), wF_r _ _ _ _, _, rfl, pa, xs, j, _, rfl, rfl, SqT.of ea, atI_nat x1, q, _, 1, _, rfl, rfl, SqT.of x2, atI_nat (j := 1) rfl, ?_⟩
    refine ⟨_, rfl, p, T.Web.C, dx, _, _, rfl, hp, T.Web.cl, T.Web.no _ (by simp), wF_r _ _ _ _, pa, xs, rfl, SqT.of ea, fun A hA => ?_⟩
    have hl := ra.len
    have sm0 : ∀ {H' : Hp}, (∀ b o, H b = some o → H' b = some o) → Same H H' := fun q => q
    refine lc_enumT (xs := xs) (fun i H' => Same H H' ∧ H' A = some (.lst (((List.range i).filter fun j' => decide (bg (rds.getD j' .non) = en (dAt rds j))).map fun j' => V.int (j' : Nat))))
      ⟨same_upd hA, upd_same⟩ (fun i H' ⟨s, _⟩ => SqT.of (s _ _ ea)) ?_ ?_
    · rintro i x TT H' hx hT ⟨s, hacc⟩
      have hi : i < rds.length := by rw [← hl]; exact (List.getElem?_eq_some_iff.mp hx).1
      obtain ⟨q', a', b', y1, y2, y3, y4⟩ := ra.road W.all hi
      have ex : x = .ref q' := by rw [hx] at y1; exact Option.some.inj y1
      subst ex
      have s1 : Same H' (upd H' TT (.tup [.int (i : Nat), .ref q'])) := same_upd hT
      refine ⟨TT, _, rfl, SqT.of upd_same, rfl, _, _, rfl, _, _, rfl, ⟨q', _, rfl, SqT.of (s1 _ _ (s _ _ y2)), rfl, _, _, rfl, _, _, rfl, rfl, rfl, rfl, _, rfl, _, rfl, rfl, _, rfl, ?_⟩⟩
      have en1 : en (dAt rds (j : Nat)) = b := by unfold dAt; rw [Int.toNat_natCast]; exact x4
      have nAT : A ≠ TT := ne_of_none hacc hT
      rw [int_eqd]
      have step : ∀ (c : Bool), decide (bg (rds.getD i .non) = en (dAt rds j)) = c → (List.range (i + 1)).filter (fun j' => decide (bg (rds.getD j' .non) = en (dAt rds j))) = (List.range i).filter (fun j' => decide (bg (rds.getD j' .non) = en (dAt rds j))) ++ (if c = true then [i] else []) := fun c hc => by
        rw [List.range_succ, List.filter_append]
        congr 1
        rw [List.filter_cons, hc]
        rfl
      by_cases h : a' = b
      · rw [decide_eq_true h]
        have st := step true (by rw [y3, en1]; exact decide_eq_true h)
        refine iteT ⟨_, rfl, _, s1 _ _ hacc, ?_, fun b o q => ?_, ?_⟩
        · rw [List.length_map]
          have := List.length_filter_le (fun j' => decide (bg (rds.getD j' .non) = en (dAt rds j))) (List.range i)
          rw [List.length_range] at this
          exact line_lt (by omega)
        · rw [upd_ne (ne_of_none q hA)]
          exact s1 _ _ (s _ _ q)
        · rw [upd_same, st, List.map_append]; rfl
      · rw [decide_eq_false h]
        have st := step false (by rw [y3, en1]; exact decide_eq_false h)
        refine iteF ⟨s.trans s1, ?_⟩
        rw [s1 _ _ hacc, st]
        rw [if_neg (by decide), List.append_nil]
    · rintro H' ⟨s, hacc⟩
      rw [hl] at hacc
      refine ⟨A, _, rfl, .inl ⟨SqL.of hacc, fun l hL => ?_⟩⟩
      have en1 : en (dAt rds (j : Nat)) = b := by unfold dAt; rw [Int.toNat_natCast]; exact x4
      exact ky l _ (s.trans (same_upd hL)) (by rw [upd_same]; rfl)
theorem isWay_tup (rds : List D) (ds : List D) : isWay rds (.tup ds) = (decide (1 ≤ ds.length) && decide (ds.length ≤ 8) && ds.all (isRoad rds) && adj (fun a b => decide (en (dAt rds a) = bg (dAt rds b))) (ds.map num)) := rfl
theorem isLot_tup (rds : List D) (ds : List D) : isLot rds (.tup ds) = (ds.all (isRoad rds) && adj (fun a b => decide (a < b)) (ds.map num)) := rfl
theorem map_range_all (n : Nat) (f : Nat → Bool) : ((List.range n).map f).all id = (List.range n).all f := by rw [List.all_map]; rfl
theorem nums_map (ns : List Nat) : (ns.map fun j => D.int (j : Nat)).map num = ns.map fun (j : Nat) => (j : Int) := by rw [List.map_map]; rfl
theorem getD_map (ns : List Nat) {i : Nat} (h : i < ns.length) : (ns.map fun (j : Nat) => (j : Int)).getD i 0 = (ns[i] : Nat) := by
  rw [List.getD_eq_getElem?_getD, List.getElem?_map, List.getElem?_eq_getElem h]; rfl
def spJudge (C : Addr) (g : List D → D → Bool) : Sp := fun vs H Q _ => ∃ (h p : Addr) (n : Int) (rds : List D) (v : V) (d : D), vs = [.ref p, v] ∧ WebO C H h p n rds ∧ Rp H h v d ∧ ∀ H', Same H H' → Q (.bl (g rds d)) H'
/-- [r(a, b) for a, b in zip(t, t[1:])] over a tuple of numbers -/
theorem lc_next {K : PySem.W.Frag} {H H0 : Hp} {a b A : Addr} {ns : List Nat} {i1 i2 : Nat} {te : TE} {vs : List Nat} {σ : St} {Qd : Hp → Prop} (R : Int → Int → Bool) (s0 : Same H0 H) (hA : H A = none)
    (e1 : H a = some (.tup (ns.map fun j => V.int (j : Nat)))) (e2 : H b = some (.tup ((ns.map fun j => V.int (j : Nat)).drop 1))) (hz : ns.length ≤ 100000)
    (hw : ∀ x y, wipe (((wipe σ vs).set i1 (some x)).set i2 (some y)) vs = wipe σ vs)
    (hs : ∀ (i : Nat) (hi : i + 1 < ns.length) H' (Q : VK), Same H H' → (∀ H4, Same H' H4 → Q (.bl (R (ns[i]'(by omega) : Nat) (ns[i + 1] : Nat))) H4) → te (((wipe σ vs).set i1 (some (.int (ns[i]'(by omega) : Nat)))).set i2 (some (.int (ns[i + 1] : Nat)))) H' Q)
    (hd : ∀ H', Same H0 H' → SqL K H' A (((List.range (ns.length - 1)).map fun j => R ((ns.map fun (j : Nat) => (j : Int)).getD j 0) ((ns.map fun (j : Nat) => (j : Int)).getD (j + 1) 0)).map V.bl) → Qd H') :
    ∃ W : Nat → Nat → Hp → Prop, (∃ m, W 0 m (upd H A (.lst []))) ∧ ∀ i m H, W i m H →
      ((RZ.ItzT K a b).stop i H ∧ Qd H) ∨ ((RZ.ItzT K a b).go i H ∧ ∃ Nx : Hp → Prop, (∀ H', Nx H' → ∃ m', m' < m ∧ W (i + 1) m' H') ∧ ∀ x H', (RZ.ItzT K a b).yld i H x H' → (gTup K 2 (gCons (gName i1) (gCons (gName i2) gNil))) x (wipe σ vs) H' fun σ2 H2 => wipe σ2 vs = wipe σ vs ∧ tYes σ2 H2 fun b H3 =>
        if b = true then te σ2 H3 fun y H4 => ∃ acc, H4 A = some (.lst acc) ∧ acc.length < sizeLine ∧ Nx (upd H4 A (.lst (acc ++ [y]))) else Nx H3) := by
  refine lc_zipT (xs := ns.map fun j => V.int (j : Nat)) (ys := (ns.map fun j => V.int (j : Nat)).drop 1) (fun i H' => Same H (fun b => if b = A then none else H' b) ∧ H' A = some (.lst (((List.range i).map fun j => R ((ns.map fun (j : Nat) => (j : Int)).getD j 0) ((ns.map fun (j : Nat) => (j : Int)).getD (j + 1) 0)).map V.bl)))
    ⟨fun b o q => ?_, upd_same⟩ (fun i H' ⟨s, _⟩ => ?_) ?_ ?_
  · have n := ne_of_none q hA
    show (if b = A then none else upd H A _ b) = _
    rw [if_neg n, upd_ne n]; exact q
  · have q1 := s _ _ e1
    have q2 := s _ _ e2
    simp only [if_neg (ne_of_none e1 hA)] at q1
    simp only [if_neg (ne_of_none e2 hA)] at q2
    exact ⟨SqT.of q1, SqT.of q2⟩
  · intro i x y TT H' hx hy ⟨s, hacc⟩ hT
    have sm : Same H H' := fun b o q => by
      have r := s b o q
      simp only [if_neg (ne_of_none q hA)] at r
      exact r
    have hi : i + 1 < ns.length := by
      have := (List.getElem?_eq_some_iff.mp hy).1
      rw [List.length_drop, List.length_map] at this
      omega
    have ex : x = .int (ns[i]'(by omega) : Nat) := by
      rw [List.getElem?_map, List.getElem?_eq_getElem (by omega)] at hx
      exact (Option.some.inj hx).symm
    have ey : y = .int (ns[i + 1] : Nat) := by
      rw [List.getElem?_drop, List.getElem?_map, show 1 + i = i + 1 by omega, List.getElem?_eq_getElem hi] at hy
      exact (Option.some.inj hy).symm
    subst ex ey
    have sT : Same H' (upd H' TT (.tup [.int (ns[i]'(by omega) : Nat), .int (ns[i + 1] : Nat)])) := same_upd hT
    refine ⟨TT, _, rfl, SqT.of upd_same, rfl, _, _, rfl, _, _, rfl, rfl, hw _ _, tyes (hs i hi _ _ (sm.trans sT) fun H4 s4 => ⟨_, s4 _ _ (sT _ _ hacc), ?_, fun b o q => ?_, ?_⟩)⟩
    · rw [List.length_map, List.length_map, List.length_range]; exact line_lt (by omega)
    · have n := ne_of_none q hA
      show (if b = A then none else upd H4 A _ b) = _
      rw [if_neg n, upd_ne n]
      exact s4 _ _ (sT _ _ (sm _ _ q))
    · rw [upd_same, List.range_succ, List.map_append, List.map_append, List.map_cons, List.map_nil, List.map_cons, List.map_nil, getD_map ns (by omega), getD_map ns hi]
  · intro H' ⟨s, hacc⟩
    have sm : Same H H' := fun b o q => by
      have r := s b o q
      simp only [if_neg (ne_of_none q hA)] at r
      exact r
    have m : min (ns.map fun j => V.int (j : Nat)).length ((ns.map fun j => V.int (j : Nat)).drop 1).length = ns.length - 1 := by
      rw [List.length_drop, List.length_map]; omega
    rw [m] at hacc
    exact hd H' (s0.trans sm) (SqL.of hacc)
theorem ok_is_lot (T : Tx K mg) : FnOk P w K mg base CX0 4 T.is_lot.f T.is_lot.fd ["web", "thing"] (spJudge T.Web.C isLot) := by
  refine T.is_lot.F.ok sc_is_lot (fun vs H Q E h => ?_) (fun cdv A outer s H vs Q E hr h => ?_)
  · obtain ⟨_, p, n, rds, v, d, rfl, _⟩ := h
    rfl
  · obtain ⟨h, p, n, rds, v, d, rfl, W, r, k⟩ := h
    refine ⟨_, (pss_one (ps_ret (pe_and (pe_callB call_isi (by rfl) T.n_isinstance (by decide +kernel) (pa_cons (pv 1) (pa_cons (pe_bltn (v := .ty "tuple") (by rfl) T.n_tuple (by decide +kernel) rfl) pa_nil))) (pe_and (pe_callB (cr_all rfl) (by rfl) T.n_all (by decide +kernel) (pa_cons (pe_lc (own := [("road", 2)]) (g := (gName 2)) (tt := tYes) rfl sc_is_lot.nd (pi_tup (pv 1)) (blkOk_by (own := [("road", 2)]) (N := ["web", "thing", "road", "after"]) (sc := defScope s_is_lot) (by decide +kernel)) (fun _ _ _ _ _ => (pg_name (i := 2) sc_is_lot.nd rfl (Or.inl rfl))) (fun _ _ _ _ _ => pts_nil) (fun _ _ _ _ _ => (by exact (pe_call (ok_is_road T) (hr.mono (by decide)) rfl T.is_road.g T.is_road.F.kp T.is_road.b .nil pass0 (pa_cons (pv 0) (pa_cons (pv 2) pa_nil)))))) pa_nil)) (pe_one (pe_callB (cr_all rfl) (by rfl) T.n_all (by decide +kernel) (pa_cons (pe_lc (own := [("road", 2), ("after", 3)]) (g := (gTup K 2 (gCons (gName 2) (gCons (gName 3) gNil)))) (tt := tYes) rfl sc_is_lot.nd (RZ.pi_zipA (by rfl) T.n_zip (pa_cons (pv 1) (pa_cons (pe_slice sl_tupA (pv 1) (po_some pe_int) po_none) pa_nil))) (blkOk_by (own := [("road", 2), ("after", 3)]) (N := ["web", "thing", "road", "after"]) (sc := defScope s_is_lot) (by decide +kernel)) (fun _ _ _ _ _ => (pg_tup (by rfl) (pgs_cons (pg_name (i := 2) sc_is_lot.nd rfl (Or.inl rfl)) (pgs_cons (pg_name (i := 3) sc_is_lot.nd rfl (Or.inl rfl)) pgs_nil)))) (fun _ _ _ _ _ => pts_nil) (fun _ _ _ _ _ => (by exact (pe_cmpR op_lt (pv 2) (pv 3) (nomark _))))) pa_nil))))))), ?_⟩
    refine ⟨_, rfl, _, _, _, _, _, rfl, .ty "tuple", r.ty, kit_ty (kitT d), _, rfl, ?_⟩
    cases r with
    | @tup pa xs ds e z ra =>
      refine iteT ?_
      refine ⟨_, rfl, _, rfl, ⟨_, SqT.of e⟩, fun A hA => all_tup e z ra (isRoad rds) hA (fun x => rfl) (fun x d H' Q' _ s1 rp q => ?_) (fun H' sm sl => ?_)⟩
      · exact ⟨_, rfl, _, rfl, h, p, n, rds, _, _, rfl, W.same s1, rp, q _ (Same.refl _)⟩
      · refine ⟨_, _, rfl, sl, _, rfl, ?_⟩
        rw [map_all]
        cases e1 : ds.all (isRoad rds) with
        | false =>
          refine iteF ?_
          have := k H' sm
          rw [isLot_tup, e1] at this
          exact this
        | true =>
          refine iteT ?_
          obtain ⟨ns, rfl, rfl, hn⟩ := roads_in ra e1
          rw [List.length_map] at z
          refine ⟨_, rfl, _, rfl, _, rfl, ?_⟩
          delta tNoPart
          refine sl1 (sm _ _ e) fun b H1 s1 eb => ?_
          refine ⟨_, _, _, _, rfl, .inr ⟨SqT.of (s1 _ _ (sm _ _ e)), SqT.of eb, fun A2 hA2 => lc_next (fun a b => decide (a < b)) (sm.trans s1) hA2 (s1 _ _ (sm _ _ e)) eb z (fun x y => rfl) (fun i hi H2 Q' s2 q => ?_) (fun H2 s2 sl2 => ?_)⟩⟩
          · exact ⟨_, rfl, _, rfl, _, _, rfl, rfl, q _ (Same.refl _)⟩
          · refine ⟨_, _, rfl, sl2, ?_⟩
            rw [map_range_all]
            have := k H2 s2
            rw [isLot_tup, e1, Bool.true_and, nums_map] at this
            unfold adj at this
            rw [List.length_map] at this
            exact this
    | _ => exact iteF (k H (Same.refl _))
theorem ok_is_way (T : Tx K mg) : FnOk P w K mg base CX0 4 T.is_way.f T.is_way.fd ["web", "thing"] (spJudge T.Web.C isWay) := by
  refine T.is_way.F.ok sc_is_way (fun vs H Q E h => ?_) (fun cdv A outer s H vs Q E hr h => ?_)
  · obtain ⟨_, p, n, rds, v, d, rfl, _⟩ := h
    rfl
  · obtain ⟨h, p, n, rds, v, d, rfl, W, r, k⟩ := h
    refine ⟨_, (pss_one (ps_ret (pe_and (pe_callB call_isi (by rfl) T.n_isinstance (by decide +kernel) (pa_cons (pv 1) (pa_cons (pe_bltn (v := .ty "tuple") (by rfl) T.n_tuple (by decide +kernel) rfl) pa_nil))) (pe_and (pe_chain op_le op_le pe_int (pe_callB call_len_seq (by rfl) T.n_len (by decide +kernel) (pa_cons (pv 1) pa_nil)) (pe_glob (v := .int 8) rfl T.c_LONGEST_WAY.choose_spec ⟨_, rfl⟩)) (pe_and (pe_callB (cr_all rfl) (by rfl) T.n_all (by decide +kernel) (pa_cons (pe_lc (own := [("road", 2)]) (g := (gName 2)) (tt := tYes) rfl sc_is_way.nd (pi_tup (pv 1)) (blkOk_by (own := [("road", 2)]) (N := ["web", "thing", "road", "after"]) (sc := defScope s_is_way) (by decide +kernel)) (fun _ _ _ _ _ => (pg_name (i := 2) sc_is_way.nd rfl (Or.inl rfl))) (fun _ _ _ _ _ => pts_nil) (fun _ _ _ _ _ => (by exact (pe_call (ok_is_road T) (hr.mono (by decide)) rfl T.is_road.g T.is_road.F.kp T.is_road.b .nil pass0 (pa_cons (pv 0) (pa_cons (pv 2) pa_nil)))))) pa_nil)) (pe_one (pe_callB (cr_all rfl) (by rfl) T.n_all (by decide +kernel) (pa_cons (pe_lc (own := [("road", 2), ("after", 3)]) (g := (gTup K 2 (gCons (gName 2) (gCons (gName 3) gNil)))) (tt := tYes) (te := (tOp rEq (tOp (rIxT K) (tOp (rIxT K) (tFld K (tVar 0) "roads") (tVar 2)) (tC (.int 1))) (tOp (rIxT K) (tOp (rIxT K) (tFld K (tVar 0) "roads") (tVar 3)) (tC (.int 0))))) rfl sc_is_way.nd (RZ.pi_zipA (by rfl) T.n_zip (pa_cons (pv 1) (pa_cons (pe_slice sl_tupA (pv 1) (po_some pe_int) po_none) pa_nil))) (blkOk_by (own := [("road", 2), ("after", 3)]) (N := ["web", "thing", "road", "after"]) (sc := defScope s_is_way) (by decide +kernel)) (fun _ _ _ _ _ => (pg_tup (by rfl) (pgs_cons (pg_name (i := 2) sc_is_way.nd rfl (Or.inl rfl)) (pgs_cons (pg_name (i := 3) sc_is_way.nd rfl (Or.inl rfl)) pgs_nil)))) (fun _ _ _ _ _ => pts_nil) (fun _ _ _ _ _ => (by exact (pe_cmpR op_eq (pe_ix ix_tup (pe_ix ix_tup (pe_fld (pv 0) rfl) (pv 2) (fun _ _ => rfl)) pe_int (fun _ _ => rfl)) (pe_ix ix_tup (pe_ix ix_tup (pe_fld (pv 0) rfl) (pv 3) (fun _ _ => rfl)) pe_int (fun _ _ => rfl)) (nomark _))))) pa_nil)))))))), ?_⟩
    refine ⟨_, rfl, _, _, _, _, _, rfl, .ty "tuple", r.ty, kit_ty (kitT d), _, rfl, ?_⟩
    cases r with
    | @tup pa xs ds e z ra =>
      refine iteT ?_
      refine ⟨_, rfl, _, _, rfl, .inr (SqT.of e), _, _, rfl, rfl, _, rfl, ?_⟩
      rw [ra.len]
      by_cases h1 : 1 ≤ ds.length
      · rw [decide_eq_true (show (1 : Int) ≤ (ds.length : Int) by omega)]
        refine iteT ?_
        refine ⟨_, _, rfl, rfl, _, rfl, ?_⟩
        by_cases h2 : ds.length ≤ 8
        · rw [decide_eq_true (show (ds.length : Int) ≤ 8 by omega)]
          refine iteT ?_
          refine ⟨_, rfl, _, rfl, ⟨_, SqT.of e⟩, fun A hA => all_tup e z ra (isRoad rds) hA (fun x => rfl) (fun x d H' Q' _ s1 rp q => ?_) (fun H' sm sl => ?_)⟩
          · exact ⟨_, rfl, _, rfl, h, p, n, rds, _, _, rfl, W.same s1, rp, q _ (Same.refl _)⟩
          · refine ⟨_, _, rfl, sl, _, rfl, ?_⟩
            rw [map_all]
            cases e1 : ds.all (isRoad rds) with
            | false =>
              refine iteF ?_
              have := k H' sm
              rw [isWay_tup, e1, decide_eq_true h1, decide_eq_true h2] at this
              exact this
            | true =>
              refine iteT ?_
              obtain ⟨ns, rfl, rfl, hn⟩ := roads_in ra e1
              rw [List.length_map] at z
              refine ⟨_, rfl, _, rfl, _, rfl, ?_⟩
              delta tNoPart
              refine sl1 (sm _ _ e) fun b H1 s1 eb => ?_
              refine ⟨_, _, _, _, rfl, .inr ⟨SqT.of (s1 _ _ (sm _ _ e)), SqT.of eb, fun A2 hA2 => lc_next (fun a b => decide (en (dAt rds a) = bg (dAt rds b))) (sm.trans s1) hA2 (s1 _ _ (sm _ _ e)) eb z (fun x y => rfl) (fun i hi H2 Q' s2 q => ?_) (fun H2 s2 sl2 => ?_)⟩⟩
              · obtain ⟨dx, v1, v2, v3, v4, hp, r2⟩ := (W.same (sm.trans (s1.trans s2))).ex
                obtain ⟨pw, xw, rfl, ew, zw, rw_⟩ := tup_inv r2
                obtain ⟨q1, a1, b1, y1, y2, y3, y4⟩ := rw_.road W.all (hn _ (List.getElem_mem (show i < ns.length by omega)))
                obtain ⟨q2, a2, b2, w1, w2, w3, w4⟩ := rw_.road W.all (hn _ (List.getElem_mem hi))
                refine ⟨_, rfl, p, T.Web.C, dx, _, _, rfl, hp, T.Web.cl, T.Web.no _ (by simp), wF_r _ _ _ _, _, rfl, pw, xw, _, _, rfl, rfl, SqT.of ew, atI_nat y1, q1, _, 1, _, rfl, rfl, SqT.of y2, atI_nat (j := 1) rfl, ?_⟩
                refine ⟨_, rfl, p, T.Web.C, dx, _, _, rfl, hp, T.Web.cl, T.Web.no _ (by simp), wF_r _ _ _ _, _, rfl, pw, xw, _, _, rfl, rfl, SqT.of ew, atI_nat w1, q2, _, 0, _, rfl, rfl, SqT.of w2, atI_nat (j := 0) rfl, rfl, ?_⟩
                rw [int_eqd, ← y4, ← w3]
                exact q _ (Same.refl _)
              · refine ⟨_, _, rfl, sl2, ?_⟩
                rw [map_range_all]
                have := k H2 s2
                rw [isWay_tup, e1, decide_eq_true h1, decide_eq_true h2, Bool.true_and, Bool.true_and, Bool.true_and, nums_map] at this
                unfold adj at this
                rw [List.length_map] at this
                exact this
        · rw [decide_eq_false (show ¬ (ds.length : Int) ≤ 8 by omega)]
          refine iteF ?_
          have := k H (Same.refl _)
          rw [isWay_tup, decide_eq_true h1, decide_eq_false h2] at this
          exact this
      · rw [decide_eq_false (show ¬ (1 : Int) ≤ (ds.length : Int) by omega)]
        refine iteF ⟨_, rfl, iteF ?_⟩
        have := k H (Same.refl _)
        rw [isWay_tup, decide_eq_false h1] at this
        exact this
    | _ => exact iteF (k H (Same.refl _))
end
end Hc

set_option Elab.async false
set_option linter.all false
set_option maxRecDepth 100000
set_option maxHeartbeats 1000000
set_option autoImplicit false
namespace Hc
open PySem L2
/-- a drawn web as the law holds it -/
structure WebL (H : Hp) (h : Addr) (v : V) (n : Int) (rds : List D) : Prop where
  ex : ∃ rm tm, Rp H h v (.tup [.int n, .tup rds, rm, tm])
  all : rds.all (isBE n) = true
  l1 : 1 ≤ rds.length
  l2 : rds.length ≤ 24
theorem WebL.same {H H' : Hp} {h : Addr} {v : V} {n : Int} {rds : List D} (w : WebL H h v n rds) (s : Same H H') : WebL H' h v n rds := by
  obtain ⟨⟨rm, tm, r⟩, a, b, c⟩ := w
  exact ⟨⟨rm, tm, r.same s⟩, a, b, c⟩
theorem WebL.but {H H' : Hp} {h c : Addr} {v : V} {n : Int} {rds : List D} (w : WebL H h v n rds) (k : But h H H') (hA : HandAt H h c) : WebL H' h v n rds := by
  obtain ⟨⟨rm, tm, r⟩, a, b, d⟩ := w
  exact ⟨⟨rm, tm, r.monoB k hA⟩, a, b, d⟩
theorem WebL.inv {H : Hp} {h : Addr} {v : V} {n : Int} {rds : List D} (w : WebL H h v n rds) : ∃ p q x3 x4 xs, v = .ref p ∧ H p = some (.tup [.int n, .ref q, x3, x4]) ∧ H q = some (.tup xs) ∧ RpA H h xs rds := by
  obtain ⟨⟨rm, tm, r⟩, _⟩ := w
  obtain ⟨p, ys, rfl, e, _, ra⟩ := tup_inv r
  cases ra with
  | cons r1 ra =>
  cases ra with
  | cons r2 ra =>
  cases ra with
  | cons r3 ra =>
  cases ra with
  | cons r4 ra =>
  cases ra
  cases r1
  obtain ⟨q, xs, rfl, e2, _, r2'⟩ := tup_inv r2
  exact ⟨p, q, _, _, xs, rfl, e, e2, r2'⟩
/-- a tuple of natural numbers -/
def nD (ns : List Nat) : D := .tup (ns.map fun j => .int (j : Nat))
theorem nD_inv {H : Hp} {h : Addr} {v : V} {ns : List Nat} (r : Rp H h v (nD ns)) : ∃ a, v = .ref a ∧ H a = some (.tup (ns.map fun j => V.int (j : Nat))) ∧ ns.length ≤ 100000 := by
  obtain ⟨a, xs, rfl, e, z, ra⟩ := tup_inv r
  have key : ∀ {xs : List V} {ns : List Nat}, RpA H h xs (ns.map fun j => D.int (j : Nat)) → xs = ns.map fun j => V.int (j : Nat) := by
    intro xs ns
    induction ns generalizing xs with
    | nil => intro r; cases r; rfl
    | cons n ns ih =>
      intro r
      cases r with
      | cons r1 r2 => cases r1; rw [ih r2]; rfl
  have := key ra
  subst this
  rw [List.length_map] at z
  exact ⟨a, rfl, e, z⟩
theorem nD_mk {H : Hp} {h : Addr} {a : Addr} {ns : List Nat} (e : H a = some (.tup (ns.map fun j => V.int (j : Nat)))) (z : ns.length ≤ 100000) : Rp H h (.ref a) (nD ns) := by
  refine .tup e (by rw [List.length_map]; exact z) ?_
  clear e z
  induction ns with
  | nil => exact .nil
  | cons n ns ih => exact .cons (.int _) ih
section
variable {P : Program} {w : World} {K : PySem.W.Frag} {mg : Str → Option Value} {base : Heap}
def spNextL : Sp := fun vs H Q _ => ∃ (h : Addr) (v : V) (n : Int) (rds : List D) (j : Nat), vs = [v, .int j] ∧ WebL H h v n rds ∧ j < rds.length ∧
  ∀ a H', Same H H' → H a = none → H' a = some (.lst ((nextL rds j).map fun j => V.int (j : Nat))) → Q (.ref a) H'
theorem ok__law_next (T : Tx K mg) : FnOk P w K mg base CX0 1 T._law_next.f T._law_next.fd ["_law_web_here", "_law_road"] spNextL := by
  refine T._law_next.F.ok sc_law_next (fun vs H Q E h => ?_) (fun cdv A outer s H vs Q E hr h => ?_)
  · obtain ⟨_, v, n, rds, j, rfl, _⟩ := h
    rfl
  · obtain ⟨h, v, n, rds, j, rfl, W, hj, k⟩ := h
    obtain ⟨p, q, x3, x4, xs, rfl, e1, e2, ra⟩ := W.inv
    have hl := ra.len
    refine ⟨_, (pss_one (ps_ret (pe_lc (own := [("_law_other", 2)]) (g := (gName 2))  (tt := (tTest (tOp rEq (tOp (rIxT K) (tOp (rIxT K) (tOp (rIxT K) (tVar 0) (tC (.int 1))) (tVar 2)) (tC (.int 0))) (tOp (rIxT K) (tOp (rIxT K) (tOp (rIxT K) (tVar 0) (tC (.int 1))) (tVar 1)) (tC (.int 1)))))) rfl sc_law_next.nd (pi_range1 (by rfl) T.n_range (pa_cons (pe_callB call_len_seq (by rfl) T.n_len (by decide +kernel) (pa_cons (pe_ix ix_tup (pv 0) pe_int (fun _ _ => rfl)) pa_nil)) pa_nil)) (blkOk_by (own := [("_law_other", 2)]) (N := ["_law_web_here", "_law_road", "_law_other"]) (sc := defScope s_law_next) (by decide +kernel)) (fun _ _ _ _ _ => (pg_name (i := 2) sc_law_next.nd rfl (Or.inl rfl))) (fun _ _ _ _ _ => (pts_one (by exact (pt_cmpR op_eq (pe_ix ix_tup (pe_ix ix_tup (pe_ix ix_tup (pv 0) pe_int (fun _ _ => rfl)) (pv 2) (fun _ _ => rfl)) pe_int (fun _ _ => rfl)) (pe_ix ix_tup (pe_ix ix_tup (pe_ix ix_tup (pv 0) pe_int (fun _ _ => rfl)) (pv 1) (fun _ _ => rfl)) pe_int (fun _ _ => rfl)) (nomark _))))) (fun _ _ _ _ _ => (by exact (pv 2)))))), ?_⟩
    have l2 := W.l2
    refine ⟨_, rfl, _, _, 1, _, rfl, rfl, SqT.of e1, atI_nat (j := 1) rfl, q, xs, rfl, .inr (SqT.of e2), (xs.length : Int), rfl, by omega, by omega, fun A hA => ?_⟩
    obtain ⟨qj, aj, bj, y1, y2, y3, y4⟩ := ra.road W.all hj
    have en1 : en (dAt rds (j : Nat)) = bj := by unfold dAt; rw [Int.toNat_natCast]; exact y4
    refine lc_range (lo := 0) (n := (xs.length : Int).toNat) (fun i H' => (∀ b o, H b = some o → H' b = some o) ∧ H' A = some (.lst (((List.range i).filter fun j' => decide (bg (rds.getD j' .non) = en (dAt rds j))).map fun j' => V.int (j' : Nat))))
      ⟨same_upd hA, upd_same⟩ ?_ ?_
    · rintro i H' hi ⟨s, hacc⟩
      have hi' : i < rds.length := by omega
      obtain ⟨q', a', b', z1, z2, z3, z4⟩ := ra.road W.all hi'
      refine ⟨rfl, _, rfl, _, _, 1, _, rfl, rfl, SqT.of (s _ _ e1), atI_nat (j := 1) rfl, _, rfl, q, xs, _, _, rfl, rfl, SqT.of (s _ _ e2), at_of (by omega) z1, q', _, 0, _, rfl, rfl, SqT.of (s _ _ z2), atI_nat (j := 0) rfl, ?_⟩
      refine ⟨_, rfl, _, _, 1, _, rfl, rfl, SqT.of (s _ _ e1), atI_nat (j := 1) rfl, _, rfl, q, xs, _, _, rfl, rfl, SqT.of (s _ _ e2), atI_nat y1, qj, _, 1, _, rfl, rfl, SqT.of (s _ _ y2), atI_nat (j := 1) rfl, rfl, _, rfl, ?_⟩
      rw [int_eqd]
      have step : ∀ (c : Bool), decide (bg (rds.getD i .non) = en (dAt rds j)) = c → (List.range (i + 1)).filter (fun j' => decide (bg (rds.getD j' .non) = en (dAt rds j))) = (List.range i).filter (fun j' => decide (bg (rds.getD j' .non) = en (dAt rds j))) ++ (if c = true then [i] else []) := fun c hc => by
        rw [List.range_succ, List.filter_append]
        congr 1
        rw [List.filter_cons, hc]
        rfl
      by_cases g : a' = bj
      · rw [decide_eq_true g]
        have st := step true (by rw [z3, en1]; exact decide_eq_true g)
        refine iteT ⟨_, rfl, _, hacc, ?_, fun b o q => ?_, ?_⟩
        · rw [List.length_map]
          have := List.length_filter_le (fun j' => decide (bg (rds.getD j' .non) = en (dAt rds j))) (List.range i)
          rw [List.length_range] at this
          exact line_lt (by omega)
        · rw [upd_ne (ne_of_none q hA)]
          exact s _ _ q
        · rw [upd_same, st, List.map_append, if_pos rfl, List.map_cons, List.map_nil, Int.zero_add]
      · rw [decide_eq_false g]
        have st := step false (by rw [z3, en1]; exact decide_eq_false g)
        refine iteF ⟨s, ?_⟩
        rw [hacc, st, if_neg (by decide), List.append_nil]
    · rintro H' ⟨s, hacc⟩
      have : (xs.length : Int).toNat = rds.length := by omega
      rw [this] at hacc
      exact k A H' s hA hacc
def spIsRoadL : Sp := fun vs H Q _ => ∃ (h : Addr) (w v : V) (n : Int) (rds : List D) (d : D), vs = [w, v] ∧ WebL H h w n rds ∧ Rp H h v d ∧ Q (.bl (isRoad rds d)) H
theorem ok__law_is_road (T : Tx K mg) : FnOk P w K mg base CX0 1 T._law_is_road.f T._law_is_road.fd ["_law_web_here", "_law_thing"] spIsRoadL := by
  refine T._law_is_road.F.ok sc_law_is_road (fun vs H Q E h => ?_) (fun cdv A outer s H vs Q E hr h => ?_)
  · obtain ⟨_, w, v, n, rds, d, rfl, _⟩ := h
    rfl
  · obtain ⟨h, w, v, n, rds, d, rfl, W, r, k⟩ := h
    obtain ⟨p, q, x3, x4, xs, rfl, e1, e2, ra⟩ := W.inv
    refine ⟨_, (pss_one (ps_ret (pe_and (pe_callB call_isi (by rfl) T.n_isinstance (by decide +kernel) (pa_cons (pv 1) (pa_cons (pe_bltn (v := .ty "int") (by rfl) T.n_int (by decide +kernel) rfl) pa_nil))) (pe_and (pe_not (pe_callB call_isi (by rfl) T.n_isinstance (by decide +kernel) (pa_cons (pv 1) (pa_cons (pe_bltn (v := .ty "bool") (by rfl) T.n_bool (by decide +kernel) rfl) pa_nil)))) (pe_one (pe_chain op_le op_lt pe_int (pv 1) (pe_callB call_len_seq (by rfl) T.n_len (by decide +kernel) (pa_cons (pe_ix ix_tup (pv 0) pe_int (fun _ _ => rfl)) pa_nil)))))))), ?_⟩
    refine ⟨_, rfl, _, _, _, _, _, rfl, .ty "int", r.ty, kit_ty (kitI d), _, rfl, ?_⟩
    cases r with
    | int i =>
      refine iteT ?_
      refine ⟨_, rfl, _, _, _, _, _, rfl, .ty "bool", Rp.ty (h := 0) (H := H) (.int i), kit_ty (kitBo (.int i)), _, rfl, _, rfl, iteT ?_⟩
      refine ⟨_, rfl, _, _, rfl, rfl, _, rfl, ?_⟩
      have hd : isRoad rds (.int i) = (decide (0 ≤ i) && decide (i ≤ (rds.length : Int) - 1)) := rfl
      by_cases h1 : 0 ≤ i
      · rw [decide_eq_true h1]
        refine iteT ⟨_, rfl, _, _, 1, _, rfl, rfl, SqT.of e1, atI_nat (j := 1) rfl, q, xs, rfl, .inr (SqT.of e2), _, _, rfl, rfl, ?_⟩
        rw [ra.len]
        rw [hd, decide_eq_true h1, Bool.true_and] at k
        have : decide (i < (rds.length : Int)) = decide (i ≤ (rds.length : Int) - 1) := by
          by_cases h2 : i < (rds.length : Int)
          · rw [decide_eq_true h2, decide_eq_true (by omega)]
          · rw [decide_eq_false h2, decide_eq_false (by omega)]
        rw [← this] at k
        exact k
      · rw [decide_eq_false h1]
        refine iteF ?_
        rw [hd, decide_eq_false h1] at k
        exact k
    | bl b =>
      refine iteT ?_
      exact ⟨_, rfl, _, _, _, _, _, rfl, .ty "bool", Rp.ty (h := 0) (H := H) (.bl b), kit_ty (kitBo (.bl b)), _, rfl, _, rfl, iteF k⟩
    | _ => exact iteF k
end
end Hc

set_option Elab.async false
set_option linter.all false
set_option maxRecDepth 100000
set_option maxHeartbeats 1000000
set_option autoImplicit false
local macro_rules | `(tactic| walk_at "gen") => `(tactic| (generalize hE : L2.upd _ _ _ = H2; have q := Hc.new_facts (by assumption) (by assumption) hE; clear hE; obtain ⟨s2, e2, n2, n3, hA2⟩ := q))
namespace Hc
open PySem L2
section
variable {P : Program} {w : World} {K : PySem.W.Frag} {mg : Str → Option Value} {base : Heap}
def spWayL : Sp := fun vs H Q _ => ∃ (h c : Addr) (v : V) (n : Int) (rds : List D) (mo : Int), vs = [.ref h, v, .int mo] ∧ HandAt H h c ∧ WebL H h v n rds ∧ 1 ≤ mo ∧ mo ≤ 1000 ∧
  ∀ v' ns H', HandAt H' h c → But h H H' → Rp H' h v' (nD ns) → 1 ≤ ns.length → (ns.length : Int) ≤ mo → (∀ j ∈ ns, j < rds.length) → Q v' H'
theorem ok__law_way (T : Tx K mg) : FnOk P w K mg base CX0 2 T._law_way.f T._law_way.fd ["_law_hand_here", "_law_web_here", "_law_most"] spWayL := by
  refine T._law_way.F.ok sc_law_way (fun vs H Q E h => ?_) (fun cdv A outer s H vs Q E hr h => ?_)
  · obtain ⟨h, c, v, n, rds, mo, rfl, _⟩ := h
    rfl
  · obtain ⟨h, c, v, n, rds, mo, rfl, hA, W, mo0, mo1, k⟩ := h
    obtain ⟨p, q, x3, x4, xs, rfl, e1, e2, ra⟩ := W.inv
    have hl := ra.len
    have l1 := W.l1
    have l2 := W.l2
    refine ⟨_, (pss_cons (ps_set (i := 3) sc_law_way.nd rfl (Or.inl rfl) (pe_tup (pa_cons (pe_call (ok__law_draw T) (hr.mono (by decide)) rfl T._law_draw.g T._law_draw.F.kp T._law_draw.b .nil pass0 (pa_cons (pv 0) (pa_cons (pe_callB call_len_seq (by rfl) T.n_len (by decide +kernel) (pa_cons (pe_ix ix_tup (pv 1) pe_int (fun _ _ => rfl)) pa_nil)) pa_nil))) pa_nil)))
      (pss_cons (ps_for PassesOwn.never rfl (pi_range1 (by rfl) T.n_range (pa_cons (pe_call (ok__law_draw T) (hr.mono (by decide)) rfl T._law_draw.g T._law_draw.F.kp T._law_draw.b .nil pass0 (pa_cons (pv 0) (pa_cons (pv 2) pa_nil))) pa_nil)) (pg_name (i := 4) sc_law_way.nd rfl (Or.inl rfl))
      (pss_cons (ps_set (i := 5) sc_law_way.nd rfl (Or.inl rfl) (pe_call (ok__law_next T) (hr.mono (by decide)) rfl T._law_next.g T._law_next.F.kp T._law_next.b .nil pass0 (pa_cons (pv 1) (pa_cons (pe_ix ix_tup (pv 3) (pe_un un_neg pe_int) (fun _ _ => rfl)) pa_nil))))
      (pss_one (ps_if (pt_cmpR op_gt (pe_callB call_len_seq (by rfl) T.n_len (by decide +kernel) (pa_cons (pv 5) pa_nil)) pe_int (nomark _))
      (pss_one (ps_set (i := 3) sc_law_way.nd rfl (Or.inl rfl) (pe_op op_catA (pv 3) (pe_tup (pa_cons (pe_ix ix_list (pv 5) (pe_call (ok__law_draw T) (hr.mono (by decide)) rfl T._law_draw.g T._law_draw.F.kp T._law_draw.b .nil pass0 (pa_cons (pv 0) (pa_cons (pe_callB call_len_seq (by rfl) T.n_len (by decide +kernel) (pa_cons (pv 5) pa_nil)) pa_nil))) (fun _ _ => rfl)) pa_nil)))))
      pss_nil))))
      (pss_one (ps_ret (pv 3))))), ?_⟩
    refine ⟨_, rfl, _, rfl, _, _, 1, _, rfl, rfl, SqT.of e1, atI_nat (j := 1) rfl, q, xs, rfl, .inr (SqT.of e2), h, c, _, rfl, hA, by omega, by omega, fun m H1 m0 m1 hA1 b1 => ⟨by show 1 ≤ sizeLine; decide, fun p1 hp1 => ?_⟩⟩
    have W1 := W.but b1 hA
    walk_at "gen"
    rename_i H2 s2 e2' n2 _ hA2
    have W2 := W1.same s2
    obtain ⟨m', rfl⟩ := Int.eq_ofNat_of_zero_le m0
    refine ⟨_, rfl, _, rfl, h, c, mo, rfl, hA2, by omega, by omega, fun kk H3 k0 k1 hA3 b3 => ⟨kk, rfl, by omega, by omega, for_range (lo := 0) (n := kk.toNat) (fun i σ' H' => ∃ (wv : V) (ns : List Nat) (tv bv : Option V),
      σ' = [some (.ref h), some (.ref p), some (.int mo), some wv, tv, bv] ∧ HandAt H' h c ∧ But h H H' ∧ Rp H' h wv (nD ns) ∧ 1 ≤ ns.length ∧ ns.length ≤ i + 1 ∧ (∀ j ∈ ns, j < rds.length) ∧ WebL H' h (.ref p) n rds)
      ⟨.ref p1, [m'], none, none, rfl, hA3, (b1.trans (But.of s2)).trans b3, nD_mk (b3 _ _ e2' n2) (by simp), by simp, by simp, fun j hj => by rw [List.mem_singleton] at hj; omega, W2.but b3 hA2⟩ ?_ ?_⟩⟩
    · rintro i σ' H4 hi ⟨wv, ns, tv, bv, rfl, hA4, b4, r4, n1, n2', hn, W4⟩
      obtain ⟨wa, rfl, ew, zw⟩ := nD_inv r4
      rcases List.eq_nil_or_concat ns with e | ⟨ns', jl, e⟩
      · subst e; simp at n1
      rw [List.concat_eq_append] at e
      have hjl : jl < rds.length := hn jl (by rw [e]; simp)
      have ela : atI (ns.map fun j => V.int (j : Nat)) (-1) = some (.int (jl : Nat)) := by
        rw [e, List.map_append]
        exact atI_last _ _
      refine ⟨_, rfl, _, rfl, _, rfl, wa, _, _, _, rfl, rfl, SqT.of ew, ela, h, .ref p, n, rds, jl, rfl, W4, hjl, fun b H5 s5 fb e5 => ?_⟩
      have hA5 := hA4.mono s5
      have nb := (hA4.ne fb).1
      have W5 := W4.same s5
      have r5 := r4.same s5
      refine ⟨_, rfl, b, _, rfl, .inl (SqL.of e5), _, _, rfl, rfl, _, rfl, ?_⟩
      have zl := List.length_filter_le (fun j' => decide (bg (rds.getD j' .non) = en (dAt rds jl))) (List.range rds.length)
      rw [List.length_range] at zl
      have zl' : (nextL rds jl).length ≤ rds.length := zl
      rw [List.length_map]
      by_cases g : (0 : Int) < ((nextL rds jl).length : Int)
      · rw [decide_eq_true g]
        refine iteT ⟨_, rfl, _, rfl, _, rfl, _, rfl, b, _, rfl, .inl (SqL.of e5), h, c, _, rfl, hA5, by rw [List.length_map]; exact g, by rw [List.length_map]; omega, fun x H6 x0 x1 hA6 b6 => ?_⟩
        rw [List.length_map] at x1
        obtain ⟨x', rfl⟩ := Int.eq_ofNat_of_zero_le x0
        have hx' : x' < (nextL rds jl).length := by omega
        have ex : ((nextL rds jl).map fun j => V.int (j : Nat))[x']? = some (.int ((nextL rds jl)[x'] : Nat)) := by rw [List.getElem?_map, List.getElem?_eq_getElem hx']; rfl
        have hin : (nextL rds jl)[x'] < rds.length := by
          have := List.getElem_mem hx'
          have := (List.mem_filter.mp this).1
          exact List.mem_range.mp this
        refine ⟨b, _, _, _, rfl, rfl, SqL.of (b6 _ _ e5 nb), atI_nat ex, by show 1 ≤ sizeLine; decide, fun p7 hp7 => ?_⟩
        have r6 := r5.monoB b6 hA5
        have W6 := W5.but b6 hA5
        walk_at "gen"
        rename_i H7 s7 e7 n7 _ hA7
        refine catA_rp (es := [.int ((nextL rds jl)[x'] : Nat)]) hA7 (r6.same s7) (.tup e7 (by simp) (.cons (.int _) .nil)) (by rw [List.length_map]; simp; omega) fun v8 H8 s8 hA8 r8 => ?_
        refine ⟨v8, ns ++ [(nextL rds jl)[x']], _, _, rfl, hA8, b4.trans ((But.of s5).trans (b6.trans (But.of (s7.trans s8)))), ?_, ?_, ?_, ?_, (W6.same s7).same s8⟩
        · unfold nD
          rw [List.map_append]
          exact r8
        · rw [List.length_append]; omega
        · rw [List.length_append, List.length_singleton]; omega
        · intro j hj
          rcases List.mem_append.mp hj with hj | hj
          · exact hn j hj
          · rw [List.mem_singleton] at hj
            subst hj
            exact hin
      · rw [decide_eq_false g]
        exact iteF ⟨_, ns, _, _, rfl, hA5, b4.trans (But.of s5), r5, n1, by omega, hn, W5⟩
    · rintro σ' H4 ⟨wv, ns, tv, bv, rfl, hA4, b4, r4, n1, n2', hn, W4⟩
      exact ⟨_, rfl, k wv ns H4 hA4 b4 r4 n1 (by omega) hn⟩
end
end Hc

set_option Elab.async false
set_option linter.all false
set_option maxRecDepth 100000
set_option maxHeartbeats 1000000
set_option autoImplicit false
namespace Hc
open PySem L2
/-! ### sorted lists -/
theorem srt_eq : ∀ {l m : List Int}, l.Pairwise (· < ·) → m.Pairwise (· < ·) → (∀ x, x ∈ l ↔ x ∈ m) → l = m
  | [], [], _, _, _ => rfl
  | [], b :: m, _, _, h => by have := (h b).mpr List.mem_cons_self; cases this
  | a :: l, [], _, _, h => by have := (h a).mp List.mem_cons_self; cases this
  | a :: l, b :: m, hl, hm, h => by
    rw [List.pairwise_cons] at hl hm
    have e : a = b := by
      rcases List.mem_cons.mp ((h a).mp List.mem_cons_self) with e | e
      · exact e
      · rcases List.mem_cons.mp ((h b).mpr List.mem_cons_self) with e' | e'
        · exact e'.symm
        · have h1 := hm.1 a e
          have h2 := hl.1 b e'
          omega
    subst e
    have := srt_eq hl.2 hm.2 fun x => by
      constructor
      · intro hx
        rcases List.mem_cons.mp ((h x).mp (List.mem_cons_of_mem _ hx)) with e | e
        · have := hl.1 x hx; omega
        · exact e
      · intro hx
        rcases List.mem_cons.mp ((h x).mpr (List.mem_cons_of_mem _ hx)) with e | e
        · have := hm.1 x hx; omega
        · exact e
    rw [this]
theorem adj_pw : ∀ {l : List Int}, adj (fun a b => decide (a < b)) l = true ↔ l.Pairwise (· < ·)
  | [] => by simp [adj]
  | [a] => by simp [adj]
  | a :: b :: r => by
    have ih := adj_pw (l := b :: r)
    have st : adj (fun a b => decide (a < b)) (a :: b :: r) = (decide (a < b) && adj (fun a b => decide (a < b)) (b :: r)) := by
      unfold adj
      rw [show (a :: b :: r).length - 1 = r.length + 1 by simp, show (b :: r).length - 1 = r.length by simp, List.range_succ_eq_map, List.all_cons, List.all_map]
      rfl
    rw [st, Bool.and_eq_true, ih, decide_eq_true_iff]
    constructor
    · rintro ⟨h1, h2⟩
      refine List.pairwise_cons.mpr ⟨fun x hx => ?_, h2⟩
      rcases List.mem_cons.mp hx with e | e
      · subst e; exact h1
      · have := (List.pairwise_cons.mp h2).1 x e
        omega
    · intro hp
      obtain ⟨h1, h2⟩ := List.pairwise_cons.mp hp
      exact ⟨h1 b List.mem_cons_self, h2⟩
theorem eqv_ints : ∀ l m : List Int, PyData.eqvAll (l.map .int) (m.map .int) = decide (l = m)
  | [], [] => rfl
  | [], b :: m => rfl
  | a :: l, [] => rfl
  | a :: l, b :: m => by
    show (a == b && PyData.eqvAll (l.map .int) (m.map .int)) = _
    rw [eqv_ints l m]
    by_cases h : a = b
    · subst h
      by_cases h2 : l = m
      · subst h2; simp
      · simp [h2]
    · simp [h]
theorem dpl_ints {K : PySem.W.Frag} {H : Hp} : ∀ l : List Int, DpAll K H (l.map V.int) (l.map .int)
  | [] => .nil
  | a :: l => .cons (.int a) (dpl_ints l)
theorem lay_int (l : List Int) : PyData.canLayAll0 (l.map .int) = true ∧ PyData.depthAll (l.map .int) = 0 := by
  induction l with
  | nil => exact ⟨rfl, rfl⟩
  | cons a l ih =>
    constructor
    · show (true && PyData.canLayAll0 (l.map .int)) = true
      rw [ih.1]; rfl
    · show max 0 (PyData.depthAll (l.map .int)) = 0
      rw [ih.2]; rfl
theorem shaped_l (l : List Int) : SeqAt.shaped (.list (l.map .int)) = true := by
  have h := lay_int l
  show (PyData.canLayAll0 (l.map .int) && decide (PyData.depthAll (l.map .int) + 1 ≤ 64)) = true
  rw [h.1, h.2]; rfl
theorem shaped_t (l : List Int) : SeqAt.shaped (.tuple (l.map .int)) = true := by
  have h := lay_int l
  show (PyData.canLayAll0 (l.map .int) && decide (PyData.depthAll (l.map .int) + 1 ≤ 64)) = true
  rw [h.1, h.2]; rfl
theorem vnat (ns : List Nat) : (ns.map fun j => V.int (j : Nat)) = (ns.map fun (j : Nat) => (j : Int)).map V.int := by rw [List.map_map]; rfl
section
variable {P : Program} {w : World} {K : PySem.W.Frag} {mg : Str → Option Value} {base : Heap}
def spJudgeL (g : List D → D → Bool) : Sp := fun vs H Q _ => ∃ (h : Addr) (wv v : V) (n : Int) (rds : List D) (d : D), vs = [wv, v] ∧ WebL H h wv n rds ∧ Rp H h v d ∧ short d ∧ ∀ H', Same H H' → Q (.bl (g rds d)) H'
theorem ok__law_is_lot (T : Tx K mg) : FnOk P w K mg base CX0 2 T._law_is_lot.f T._law_is_lot.fd ["_law_web_here", "_law_thing"] (spJudgeL isLot) := by
  refine T._law_is_lot.F.ok sc_law_is_lot (fun vs H Q E h => ?_) (fun cdv A outer s H vs Q E hr h => ?_)
  · obtain ⟨_, w, v, n, rds, d, rfl, _⟩ := h
    rfl
  · obtain ⟨h, wv, v, n, rds, d, rfl, W, r, sh, k⟩ := h
    refine ⟨_, (pss_cons (ps_if (PW.pt (pw_or (pt_not (pt_val (pe_callB call_isi (by rfl) T.n_isinstance (by decide +kernel) (pa_cons (pv 1) (pa_cons (pe_bltn (v := .ty "tuple") (by rfl) T.n_tuple (by decide +kernel) rfl) pa_nil))))) (pw_or1 (pt_cmpR op_gt (pe_callB call_len_seq (by rfl) T.n_len (by decide +kernel) (pa_cons (pe_lc (own := [("_law_road", 2)]) (g := (gName 2))  rfl sc_law_is_lot.nd (pi_tup (pv 1)) (blkOk_by (own := [("_law_road", 2)]) (N := ["_law_web_here", "_law_thing", "_law_road"]) (sc := defScope s_law_is_lot) (by decide +kernel)) (fun _ _ _ _ _ => (pg_name (i := 2) sc_law_is_lot.nd rfl (Or.inl rfl))) (fun _ _ _ _ _ => (pts_one (by exact (pt_not (pt_val (pe_call (ok__law_is_road T) (hr.mono (by decide)) rfl T._law_is_road.g T._law_is_road.F.kp T._law_is_road.b .nil pass0 (pa_cons (pv 0) (pa_cons (pv 2) pa_nil)))))))) (fun _ _ _ _ _ => (by exact (pv 2)))) pa_nil)) pe_int (nomark _)))))
      (pss_one (ps_ret pe_bl))
      pss_nil)
      (pss_one (ps_ret (pe_cmpR (op_eqD hr.units) (pe_callB (cr_sortedSet rfl) (by rfl) T.n_sorted (by decide +kernel) (pa_cons (pe_callTy (cr_setT rfl) (by rfl) T.n_set (by decide +kernel) (pa_cons (pv 1) pa_nil)) pa_nil)) (pe_callTy call_list_of (by rfl) T.n_list (by decide +kernel) (pa_cons (pv 1) pa_nil)) (nomark _))))), ?_⟩
    refine ⟨_, rfl, _, _, _, _, _, rfl, .ty "tuple", r.ty, kit_ty (kitT d), _, rfl, ?_⟩
    cases r with
    | @tup pa xs ds e z ra =>
      refine iteF ?_
      refine ⟨_, rfl, _, rfl, ⟨_, SqT.of e⟩, fun A hA => none_tup e z ra (isRoad rds) hA (fun x => rfl) (fun x d H' Q' _ s1 rp q => ?_) (fun x H' Q' sm q => ?_) (fun H' acc sm sl hl hi => ?_)⟩
      · exact ⟨_, rfl, _, rfl, h, _, _, n, rds, _, rfl, W.same s1, rp, _, rfl, q _ (Same.refl _)⟩
      · exact ⟨_, rfl, q _⟩
      · refine ⟨_, _, rfl, .inl sl, _, _, rfl, rfl, _, rfl, ?_⟩
        by_cases h0 : acc.length = 0
        · rw [decide_eq_false (show ¬ (0 : Int) < (acc.length : Int) by omega)]
          refine iteF ?_
          have e1 := hi.mp h0
          obtain ⟨ns, rfl, rfl, hn⟩ := roads_in ra e1
          have zs : ns.length ≤ 60 := by
            have : (ns.map fun (j : Nat) => D.int (j : Nat)).length ≤ 60 := sh
            rw [List.length_map] at this; exact this
          have e' : H' pa = some (.tup ((ns.map fun (j : Nat) => (j : Int)).map V.int)) := by rw [← vnat]; exact sm _ _ e
          refine ⟨_, rfl, pa, _, rfl, SqT.of e', by rw [List.length_map]; omega, fun a1 n1 hn1 ha1 => ⟨a1, _, n1, rfl, upd_same, by rw [List.length_map] at hn1; omega, fun ms p hp1 hp2 hp3 hp4 => ?_⟩⟩
          have s2 : Same H' (upd (upd H' a1 (SetO w a1 (fun j => decide (j ∈ ns.map fun (j : Nat) => (j : Int))) n1)) p (.lst (ms.map V.int))) := fun b o q => by
            have q1 := same_upd (o := SetO w a1 (fun j => decide (j ∈ ns.map fun (j : Nat) => (j : Int))) n1) ha1 b o q
            rw [upd_ne (ne_of_none q1 hp4)]
            exact q1
          refine ⟨_, rfl, pa, _, rfl, .inr (SqT.of (s2 _ _ e')), fun l hl2 => ?_⟩
          refine ⟨.list (ms.map .int), .list ((ns.map fun (j : Nat) => (j : Int)).map .int), .lst (SqL.of (by rw [upd_ne (ne_of_none upd_same hl2)]; exact upd_same)) (dpl_ints _), .lst (SqL.of upd_same) (dpl_ints _), shaped_l _, shaped_l _, ?_⟩
          have ev : PyData.eqv (.list (ms.map .int)) (.list ((ns.map fun (j : Nat) => (j : Int)).map .int)) = adj (fun a b => decide (a < b)) (ns.map fun (j : Nat) => (j : Int)) := by
            show PyData.eqvAll _ _ = _
            rw [eqv_ints]
            by_cases hm : ms = ns.map fun (j : Nat) => (j : Int)
            · rw [decide_eq_true hm, adj_pw.mpr (by rw [← hm]; exact hp1)]
            · rw [decide_eq_false hm]
              cases e9 : adj (fun a b => decide (a < b)) (ns.map fun (j : Nat) => (j : Int)) with
              | false => rfl
              | true =>
                refine absurd (srt_eq hp1 (adj_pw.mp e9) fun x => ?_) hm
                rw [hp2]
                exact decide_eq_true_iff
          rw [ev]
          have := k _ (sm.trans (s2.trans (same_upd (o := .lst ((ns.map fun (j : Nat) => (j : Int)).map V.int)) hl2)))
          rw [isLot_tup, e1, Bool.true_and, nums_map] at this
          exact this
        · rw [decide_eq_true (show (0 : Int) < (acc.length : Int) by omega)]
          refine iteT ?_
          have := k H' sm
          have e2 : ds.all (isRoad rds) = false := by
            cases e3 : ds.all (isRoad rds) with
            | false => rfl
            | true => exact absurd (hi.mpr e3) h0
          rw [isLot_tup, e2] at this
          exact this
    | _ => exact iteT (iteT (k H (Same.refl _)))
theorem ok__law_is_way (T : Tx K mg) : FnOk P w K mg base CX0 2 T._law_is_way.f T._law_is_way.fd ["_law_web_here", "_law_thing"] (spJudgeL isWay) := by
  refine T._law_is_way.F.ok sc_law_is_way (fun vs H Q E h => ?_) (fun cdv A outer s H vs Q E hr h => ?_)
  · obtain ⟨_, w, v, n, rds, d, rfl, _⟩ := h
    rfl
  · obtain ⟨h, wv, v, n, rds, d, rfl, W, r, sh, k⟩ := h
    refine ⟨_, (pss_cons (ps_if (PW.pt (pw_or (pt_not (pt_val (pe_callB call_isi (by rfl) T.n_isinstance (by decide +kernel) (pa_cons (pv 1) (pa_cons (pe_bltn (v := .ty "tuple") (by rfl) T.n_tuple (by decide +kernel) rfl) pa_nil))))) (pw_or1 (pt_not (pt_chain op_le op_le pe_int (pe_callB call_len_seq (by rfl) T.n_len (by decide +kernel) (pa_cons (pv 1) pa_nil)) pe_int)))))
      (pss_one (ps_ret pe_bl))
      pss_nil)
      (pss_cons (ps_if (pt_cmpR op_gt (pe_callB call_len_seq (by rfl) T.n_len (by decide +kernel) (pa_cons (pe_lc (own := [("_law_road", 2)]) (g := (gName 2))  rfl sc_law_is_way.nd (pi_tup (pv 1)) (blkOk_by (own := [("_law_road", 2)]) (N := ["_law_web_here", "_law_thing", "_law_road", "_law_at"]) (sc := defScope s_law_is_way) (by decide +kernel)) (fun _ _ _ _ _ => (pg_name (i := 2) sc_law_is_way.nd rfl (Or.inl rfl))) (fun _ _ _ _ _ => (pts_one (by exact (pt_not (pt_val (pe_call (ok__law_is_road T) (hr.mono (by decide)) rfl T._law_is_road.g T._law_is_road.F.kp T._law_is_road.b .nil pass0 (pa_cons (pv 0) (pa_cons (pv 2) pa_nil)))))))) (fun _ _ _ _ _ => (by exact (pv 2)))) pa_nil)) pe_int (nomark _))
      (pss_one (ps_ret pe_bl))
      pss_nil)
      (pss_one (ps_ret (pe_cmpR op_eq (pe_callB call_len_seq (by rfl) T.n_len (by decide +kernel) (pa_cons (pe_lc (own := [("_law_at", 3)]) (g := (gName 3))  (tt := (tTest (tOp rNe (tOp (rIxT K) (tOp (rIxT K) (tOp (rIxT K) (tVar 0) (tC (.int 1))) (tOp (rIxT K) (tVar 1) (tVar 3))) (tC (.int 0))) (tOp (rIxT K) (tOp (rIxT K) (tOp (rIxT K) (tVar 0) (tC (.int 1))) (tOp (rIxT K) (tVar 1) (tOp (rI0 fun i j => .int (i - j)) (tVar 3) (tC (.int 1))))) (tC (.int 1)))))) rfl sc_law_is_way.nd (pi_range2 (by rfl) T.n_range (pa_cons pe_int (pa_cons (pe_callB call_len_seq (by rfl) T.n_len (by decide +kernel) (pa_cons (pv 1) pa_nil)) pa_nil))) (blkOk_by (own := [("_law_at", 3)]) (N := ["_law_web_here", "_law_thing", "_law_road", "_law_at"]) (sc := defScope s_law_is_way) (by decide +kernel)) (fun _ _ _ _ _ => (pg_name (i := 3) sc_law_is_way.nd rfl (Or.inl rfl))) (fun _ _ _ _ _ => (pts_one (by exact (pt_cmpR op_ne (pe_ix ix_tup (pe_ix ix_tup (pe_ix ix_tup (pv 0) pe_int (fun _ _ => rfl)) (pe_ix ix_tup (pv 1) (pv 3) (fun _ _ => rfl)) (fun _ _ => rfl)) pe_int (fun _ _ => rfl)) (pe_ix ix_tup (pe_ix ix_tup (pe_ix ix_tup (pv 0) pe_int (fun _ _ => rfl)) (pe_ix ix_tup (pv 1) (pe_op op_sub (pv 3) pe_int) (fun _ _ => rfl)) (fun _ _ => rfl)) pe_int (fun _ _ => rfl)) (nomark _))))) (fun _ _ _ _ _ => (by exact (pv 3)))) pa_nil)) pe_int (nomark _)))))), ?_⟩
    refine ⟨_, rfl, _, _, _, _, _, rfl, .ty "tuple", r.ty, kit_ty (kitT d), _, rfl, ?_⟩
    cases r with
    | @tup pa xs ds e z ra =>
      refine iteF ?_
      refine ⟨_, rfl, _, _, rfl, .inr (SqT.of e), _, _, rfl, rfl, _, rfl, ?_⟩
      rw [ra.len]
      by_cases h1 : 1 ≤ ds.length
      · rw [decide_eq_true (show (1 : Int) ≤ (ds.length : Int) by omega)]
        refine iteT ?_
        refine ⟨_, _, rfl, rfl, _, rfl, ?_⟩
        by_cases h2 : ds.length ≤ 8
        · rw [decide_eq_true (show (ds.length : Int) ≤ 8 by omega)]
          refine iteF ?_
          refine ⟨_, rfl, _, rfl, ⟨_, SqT.of e⟩, fun A hA => none_tup e z ra (isRoad rds) hA (fun x => rfl) (fun x d H' Q' _ s1 rp q => ?_) (fun x H' Q' sm q => ?_) (fun H' acc sm sl hl hi => ?_)⟩
          · exact ⟨_, rfl, _, rfl, h, _, _, n, rds, _, rfl, W.same s1, rp, _, rfl, q _ (Same.refl _)⟩
          · exact ⟨_, rfl, q _⟩
          · refine ⟨_, _, rfl, .inl sl, _, _, rfl, rfl, _, rfl, ?_⟩
            by_cases h0 : acc.length = 0
            · rw [decide_eq_false (show ¬ (0 : Int) < (acc.length : Int) by omega)]
              refine iteF ?_
              have ea := hi.mp h0
              obtain ⟨ns, rfl, rfl, hn⟩ := roads_in ra ea
              rw [List.length_map] at h1 h2 z
              obtain ⟨p, q, x3, x4, xw, rfl, e1, e2, rw_⟩ := W.inv
              refine ⟨_, rfl, _, _, rfl, .inr (SqT.of (sm _ _ e)), 1, _, rfl, ⟨by decide, by decide, by rw [List.length_map]; omega, by rw [List.length_map]; omega⟩, fun A2 hA2 => ?_⟩
              have sA : ∀ {H2 : Hp}, (∀ b o, H' b = some o → H2 b = some o) → Same H H2 := fun q b o hb => q b o (sm b o hb)
              refine lc_range (lo := 1) (n := _) (fun i H2 => (∀ b o, H' b = some o → H2 b = some o) ∧ ∃ acc, H2 A2 = some (.lst acc) ∧ acc.length ≤ i ∧ (acc.length = 0 ↔ (List.range i).all (fun j => (fun a b => decide (en (dAt rds a) = bg (dAt rds b))) ((ns.map fun (j : Nat) => (j : Int)).getD j 0) ((ns.map fun (j : Nat) => (j : Int)).getD (j + 1) 0)) = true))
                ⟨same_upd hA2, [], upd_same, Nat.le_refl _, by simp⟩ ?_ ?_
              · rintro i H2 hi2 ⟨s2, acc2, hacc, ha1, ha2⟩
                have hi' : i + 1 < ns.length := by
                  rw [List.length_map] at hi2
                  omega
                have i0 : i < ns.length := by omega
                have sH := sA s2
                have eT := sH _ _ e
                have g1 : (ns.map fun (j : Nat) => V.int (j : Nat))[i + 1]? = some (.int (ns[i + 1] : Nat)) := by rw [List.getElem?_map, List.getElem?_eq_getElem hi']; rfl
                have g0 : (ns.map fun (j : Nat) => V.int (j : Nat))[i]? = some (.int (ns[i] : Nat)) := by rw [List.getElem?_map, List.getElem?_eq_getElem i0]; rfl
                obtain ⟨q1, a1, b1, y1, y2, y3, y4⟩ := rw_.road W.all (hn _ (List.getElem_mem hi'))
                obtain ⟨q2, a2, b2, z1, z2, z3, z4⟩ := rw_.road W.all (hn _ (List.getElem_mem i0))
                refine ⟨rfl, _, rfl, _, _, 1, _, rfl, rfl, SqT.of (sH _ _ e1), atI_nat (j := 1) rfl, _, rfl, _, rfl, pa, _, _, _, rfl, rfl, SqT.of eT, at_of (j := i + 1) (by omega) g1, q, xw, _, _, rfl, rfl, SqT.of (sH _ _ e2), atI_nat y1, q1, _, 0, _, rfl, rfl, SqT.of (sH _ _ y2), atI_nat (j := 0) rfl, ?_⟩
                refine ⟨_, rfl, _, _, 1, _, rfl, rfl, SqT.of (sH _ _ e1), atI_nat (j := 1) rfl, _, rfl, _, rfl, _, _, rfl, rfl, pa, _, _, _, rfl, rfl, SqT.of eT, at_of (j := i) (by omega) g0, q, xw, _, _, rfl, rfl, SqT.of (sH _ _ e2), atI_nat z1, q2, _, 1, _, rfl, rfl, SqT.of (sH _ _ z2), atI_nat (j := 1) rfl, rfl, _, rfl, ?_⟩
                rw [int_eqd]
                have st : (List.range (i + 1)).all (fun j => (fun a b => decide (en (dAt rds a) = bg (dAt rds b))) ((ns.map fun (j : Nat) => (j : Int)).getD j 0) ((ns.map fun (j : Nat) => (j : Int)).getD (j + 1) 0)) =
                    ((List.range i).all (fun j => (fun a b => decide (en (dAt rds a) = bg (dAt rds b))) ((ns.map fun (j : Nat) => (j : Int)).getD j 0) ((ns.map fun (j : Nat) => (j : Int)).getD (j + 1) 0)) && decide (b2 = a1)) := by
                  rw [List.range_succ, List.all_append, List.all_cons, List.all_nil, Bool.and_true, getD_map ns i0, getD_map ns hi']
                  have k1 : en (dAt rds (ns[i] : Nat)) = b2 := by unfold dAt; rw [Int.toNat_natCast]; exact z4
                  have k2 : bg (dAt rds (ns[i + 1] : Nat)) = a1 := by unfold dAt; rw [Int.toNat_natCast]; exact y3
                  congr 1
                  show decide (en (dAt rds (ns[i] : Nat)) = bg (dAt rds (ns[i + 1] : Nat))) = decide (b2 = a1)
                  rw [k1, k2]
                by_cases g : a1 = b2
                · rw [decide_eq_true g]
                  refine iteF ⟨s2, acc2, hacc, by omega, ?_⟩
                  rw [st, decide_eq_true g.symm, Bool.and_true]
                  exact ha2
                · rw [decide_eq_false g]
                  refine iteT ⟨_, rfl, _, hacc, line_lt (by omega), fun b o q => ?_, _, upd_same, ?_, ?_⟩
                  · rw [upd_ne (ne_of_none q hA2)]
                    exact s2 _ _ q
                  · rw [List.length_append, List.length_singleton]; omega
                  · rw [st, decide_eq_false (fun q => g q.symm), Bool.and_false, List.length_append, List.length_singleton]
                    constructor
                    · intro q; omega
                    · intro q; cases q
              · rintro H2 ⟨s2, acc2, hacc, ha1, ha2⟩
                refine ⟨_, _, rfl, .inl (SqL.of hacc), rfl, ?_⟩
                rw [int_eqd]
                have := k H2 (sA s2)
                rw [isWay_tup, ea, List.length_map, decide_eq_true h1, decide_eq_true h2, Bool.true_and, Bool.true_and, Bool.true_and, nums_map] at this
                unfold adj at this
                rw [List.length_map] at this
                have en_ : (((ns.map fun (j : Nat) => V.int (j : Nat)).length : Int) - 1).toNat = ns.length - 1 := by rw [List.length_map]; omega
                rw [en_] at ha2
                by_cases h0 : acc2.length = 0
                · rw [decide_eq_true (by omega)]
                  rw [ha2.mp h0] at this
                  exact this
                · rw [decide_eq_false (by omega)]
                  cases e3 : (List.range (ns.length - 1)).all (fun j => (fun a b => decide (en (dAt rds a) = bg (dAt rds b))) ((ns.map fun (j : Nat) => (j : Int)).getD j 0) ((ns.map fun (j : Nat) => (j : Int)).getD (j + 1) 0)) with
                  | true => exact absurd (ha2.mpr e3) h0
                  | false =>
                    rw [e3] at this
                    exact this
            · rw [decide_eq_true (show (0 : Int) < (acc.length : Int) by omega)]
              refine iteT ?_
              have := k H' sm
              have e2 : ds.all (isRoad rds) = false := by
                cases e3 : ds.all (isRoad rds) with
                | false => rfl
                | true => exact absurd (hi.mpr e3) h0
              rw [isWay_tup, e2, Bool.and_false, Bool.false_and] at this
              exact this
        · rw [decide_eq_false (show ¬ (ds.length : Int) ≤ 8 by omega)]
          refine iteT ?_
          have := k H (Same.refl _)
          rw [isWay_tup, decide_eq_true h1, decide_eq_false h2] at this
          exact this
      · rw [decide_eq_false (show ¬ (1 : Int) ≤ (ds.length : Int) by omega)]
        refine iteF ⟨_, rfl, iteT ?_⟩
        have := k H (Same.refl _)
        rw [isWay_tup, decide_eq_false h1] at this
        exact this
    | _ => exact iteT (iteT (k H (Same.refl _)))
end
end Hc

set_option Elab.async false
set_option linter.all false
set_option maxRecDepth 100000
set_option maxHeartbeats 1000000
set_option autoImplicit false
namespace L2
open PySem PySem.Spec PyProof.Rows
def rIsE2 (K : PySem.W.Frag) (D a : Addr) (cls : Value) (d : Option Addr) : List V → Hp → VK → Prop := fun xs H Q => cls = .ref D ∧ d = none ∧ rIsE K D a xs H Q
theorem call_isE2 {X : Cx} {a D : Addr} {oe : Obj} {cls : Value} {d : Option Addr} {pn : List (Addr × Obj)} (C : ExcC X.K D) (hz : Zc cls d oe) (hf : ∃ vs, oe.data = .fields vs) : CallR (X.suite a ((a, oe) :: pn)) (.builtin "isinstance") (rIsE2 X.K D a cls d) := by
  intro pins s σ H xs us Q I r h
  obtain ⟨rfl, rfl, h⟩ := h
  exact call_isE C hz hf pins s σ H xs us Q I r h
end L2
namespace Hc
open PySem L2
section
variable {P : Program} {w : World} {K : PySem.W.Frag} {mg : Str → Option Value} {base : Heap}
def spRefused (C : Addr) : Sp := fun vs H Q _ => ∃ (h p : Addr) (n : Int) (rds : List D) (v : V) (d : D), vs = [.ref p, v] ∧ WebO C H h p n rds ∧ Rp H h v d ∧ isRoad rds d = false ∧ Q (.bl true) H
theorem ok__law_refused (T : Tx K mg) : FnOk P w K mg base CX0 6 T._law_refused.f T._law_refused.fd ["_law_web_here", "_law_thing"] (spRefused T.Web.C) := by
  refine T._law_refused.F.ok sc_law_refused (fun vs H Q E h => ?_) (fun cdv A outer s H vs Q E hr h => ?_)
  · obtain ⟨_, p, n, rds, v, d, rfl, _⟩ := h
    rfl
  · obtain ⟨h, p, n, rds, v, d, rfl, W, r, e, k⟩ := h
    refine ⟨_, pss_cons (ps_set (i := 2) sc_law_refused.nd rfl (Or.inl rfl) pe_bl)
      (pss_cons (ps_try_as1 (i := 3) (tb := fun W => tDrop (tCallS (spNext T.Web.C T.x_NoRoad.C) (WE W) (tCons (tVar 0) (tCons (tVar 1) tNil))))
        (ts := fun a cls d => tAsg (tAndV (tCB (rIsE2 K T.x_NoRoad.C a cls d) (tCons (tVar 3) (tCons (tC (.ref T.he.C)) tNil))) (tCB (rIsE2 K T.x_NoRoad.C a cls d) (tCons (tVar 3) (tCons (tC (.ty "ValueError")) tNil)))) (gName 2))
        rfl rfl sc_law_refused.nd rfl rfl ⟨rfl, by decide, Or.inl T.x_NoRoad.g⟩
        (fun W pn xe tk _ => pss_one (ps_expr (by exact (pe_callS (ok_next_roads T) (hr.mono (by decide)) rfl T.next_roads.g T.next_roads.F.kp T.next_roads.b (fun σ => passAt tk σ) (by exact (pa_cons (pv 0) (pa_cons (pv 1) pa_nil)))))))
        (fun a oe cls d pn hz hf => pss_one (ps_set (i := 2) sc_law_refused.nd rfl (Or.inl rfl) (by exact (pe_and (pe_callB (call_isE2 T.he.ec hz hf) (by rfl) T.n_isinstance (by decide +kernel) (by exact (pa_cons (pv 3) (pa_cons (pe_glob (v := .ref T.he.C) rfl T.he.g rfl) pa_nil))))
          (pe_one (pe_callB (call_isE2 T.he.ec hz hf) (by rfl) T.n_isinstance (by decide +kernel) (by exact (pa_cons (pv 3) (pa_cons (pe_bltn (v := .ty "ValueError") (by rfl) T.n_ValueError (by decide +kernel) rfl) pa_nil))))))))))
      (pss_one (ps_ret (pv 2)))), ?_⟩
    refine ⟨_, rfl, _, rfl, h, p, n, rds, v, d, rfl, W, r, fun _ => ⟨T.x_NoRoad.te, fun a0 ha0 => ?_⟩, fun q => ?_⟩
    · refine ⟨_, rfl, rfl, rfl, _, _, _, rfl, fun u ru => ru, T.he.k1, _, rfl, iteT ?_⟩
      refine ⟨_, rfl, rfl, rfl, _, _, _, rfl, fun u ru => ru, T.he.k2, ?_⟩
      exact ⟨_, rfl, k⟩
    · rw [e] at q; cases q
end
end Hc

set_option Elab.async false
set_option linter.all false
set_option maxRecDepth 100000
set_option maxHeartbeats 1000000
set_option autoImplicit false
local macro_rules | `(tactic| walk_at "gen") => `(tactic| (generalize hE : L2.upd _ _ _ = H2; have q := Hc.new_facts (by assumption) (by assumption) hE; clear hE; obtain ⟨s2, e2, n2, n3, hA2⟩ := q))
local macro_rules | `(tactic| walk_at "rp") => `(tactic| first
  | assumption
  | exact Hc.RpX.non | exact Hc.RpX.bl _ | exact Hc.RpX.int _ | exact Hc.RpX.str _
  | exact Hc.RpXA.nil
  | (refine Hc.RpXA.cons ?_ ?_ <;> walk_at "rp")
  | (refine Hc.RpX.tup (by assumption) (by simp) ?_; walk_at "rp")
  | exact Hc.RpX.lst (by assumption) (by assumption)
  | exact Hc.RpX.dct (by assumption)
  | (refine Hc.RpX.same (by assumption) ?_; walk_at "rp")
  | (refine Hc.RpX.monoB (by assumption) (by assumption) ?_; walk_at "rp"))
local macro_rules | `(tactic| walk_at "rr") => `(tactic| first
  | assumption
  | (refine Hc.Rp.same (by assumption) ?_; walk_at "rr")
  | (refine Hc.Rp.monoB (by assumption) (by assumption) ?_; walk_at "rr"))
local macro_rules | `(tactic| walk_at "bt") => `(tactic| first
  | assumption
  | exact Hc.But.refl _ _
  | (refine Hc.But.trans ?_ (Hc.But.of (by assumption)); walk_at "bt")
  | (refine Hc.But.trans ?_ (by assumption); walk_at "bt"))
local macro_rules | `(tactic| walk_at "rx") => `(tactic| first
  | assumption
  | (refine Hc.RpXA.same (by assumption) ?_; walk_at "rx")
  | (refine Hc.RpXA.monoB (by assumption) (by assumption) ?_; walk_at "rx"))
local macro_rules | `(tactic| walk_at "xx") => `(tactic| first
  | assumption
  | (refine Hc.RpX.same (by assumption) ?_; walk_at "xx")
  | (refine Hc.RpX.monoB (by assumption) (by assumption) ?_; walk_at "xx"))
local macro_rules | `(tactic| walk_at "at") => `(tactic| first
  | assumption
  | (refine (by assumption : L2.Same _ _) _ _ ?_; walk_at "at")
  | (refine (by assumption : Hc.But _ _ _) _ _ ?_ (by assumption); walk_at "at"))
namespace Hc
open PySem L2
theorem nD_x {H : Hp} {h : Addr} {v : V} {ns : List Nat} (r : Rp H h v (nD ns)) (z : ns.length ≤ 60) : RpX H h v := ⟨_, r, by show (ns.map _).length ≤ 60; rw [List.length_map]; exact z⟩
theorem tup_x {H : Hp} {h : Addr} {v : V} {ds : List D} (r : Rp H h v (.tup ds)) (z : ds.length ≤ 60) : RpX H h v := ⟨_, r, z⟩
theorem nD_at {H : Hp} {h a : Addr} {ns : List Nat} (r : Rp H h (.ref a) (nD ns)) : H a = some (.tup (ns.map fun j => V.int (j : Nat))) := by
  obtain ⟨b, e, g, _⟩ := nD_inv r
  cases e
  exact g
theorem rg_nat (n : Nat) : rgV 0 (n : Int) = (List.range n).map fun j => V.int (j : Nat) := by
  unfold rgV
  rw [show ((n : Int) - 0).toNat = n by omega]
  congr 1
  funext i
  rw [Int.zero_add]
section
variable {P : Program} {w : World} {K : PySem.W.Frag} {mg : Str → Option Value} {base : Heap}
def spThings : Sp := fun vs H Q _ => ∃ (h c : Addr) (v : V) (n : Int) (rds : List D), vs = [.ref h, v] ∧ HandAt H h c ∧ WebL H h v n rds ∧
  ∀ a xs H', HandAt H' h c → But h H H' → a ≠ h → H' a = some (.lst xs) → RpXA H' h xs → Q (.ref a) H'
theorem ok__law_things (T : Tx K mg) : FnOk P w K mg base CX0 3 T._law_things.f T._law_things.fd ["_law_hand_here", "_law_web_here"] spThings := by
  refine T._law_things.F.ok sc_law_things (fun vs H Q E h => ?_) (fun cdv A outer s H vs Q E hr h => ?_)
  · obtain ⟨h, c, v, n, rds, rfl, _⟩ := h
    rfl
  · obtain ⟨h, c, v, n, rds, rfl, hA, W, k⟩ := h
    obtain ⟨p, q, y3, y4, xs, rfl, e1, e2, ra⟩ := W.inv
    have hl := ra.len
    have l1 := W.l1
    have l2 := W.l2
    refine ⟨_, (pss_cons (ps_set (i := 2) sc_law_things.nd rfl (Or.inr rfl) (pe_callB call_len_seq (by rfl) T.n_len (by decide +kernel) (pa_cons (pe_ix ix_tup (pv 1) pe_int (fun _ _ => rfl)) pa_nil)))
      (pss_cons (ps_set (i := 3) sc_law_things.nd rfl (Or.inl rfl) (pe_call (ok__law_way T) (hr.mono (by decide)) rfl T._law_way.g T._law_way.F.kp T._law_way.b .nil pass0 (pa_cons (pv 0) (pa_cons (pv 1) (pa_cons pe_int pa_nil)))))
      (pss_cons (ps_set (i := 4) sc_law_things.nd rfl (Or.inl rfl) (pe_call (ok__law_draw T) (hr.mono (by decide)) rfl T._law_draw.g T._law_draw.F.kp T._law_draw.b .nil pass0 (pa_cons (pv 0) (pa_cons (pe_callB call_len_seq (by rfl) T.n_len (by decide +kernel) (pa_cons (pv 3) pa_nil)) pa_nil))))
      (pss_cons (ps_set (i := 5) sc_law_things.nd rfl (Or.inl rfl) (pe_callTy call_tuple_of (by rfl) T.n_tuple (by decide +kernel) (pa_cons (pe_lc (own := [("_law_turn", 7)]) (g := (gName 7)) (tt := tYes) rfl sc_law_things.nd (pi_range1 (by rfl) T.n_range (pa_cons (pe_call (ok__law_draw T) (hr.mono (by decide)) rfl T._law_draw.g T._law_draw.F.kp T._law_draw.b .nil pass0 (pa_cons (pv 0) (pa_cons pe_int pa_nil))) pa_nil)) (blkOk_by (own := [("_law_turn", 7)]) (N := ["_law_hand_here", "_law_web_here", "_law_many", "_law_way_here", "_law_at", "_law_drawn", "_law_things_here", "_law_turn"]) (sc := defScope s_law_things) (by decide +kernel)) (fun _ _ _ _ _ => (pg_name (i := 7) sc_law_things.nd rfl (Or.inl rfl))) (fun _ _ _ _ _ => pts_nil) (fun _ _ _ _ _ => (by exact (pe_call (ok__law_draw T) (hr.mono (by decide)) rfl T._law_draw.g T._law_draw.F.kp T._law_draw.b .nil pass0 (pa_cons (pv 0) (pa_cons (pv 2) pa_nil)))))) pa_nil)))
      (pss_cons (ps_set (i := 6) sc_law_things.nd rfl (Or.inl rfl) (pe_lst (pa_cons (pv 3) (pa_cons (pe_revT (pv 3)) (pa_cons (pe_op op_catA (pv 3) (pv 3)) (pa_cons (pe_op op_catA (pv 3) (pe_tup (pa_cons (pe_call (ok__law_draw T) (hr.mono (by decide)) rfl T._law_draw.g T._law_draw.F.kp T._law_draw.b .nil pass0 (pa_cons (pv 0) (pa_cons (pv 2) pa_nil))) pa_nil))) (pa_cons (pe_callTy call_list_of (by rfl) T.n_list (by decide +kernel) (pa_cons (pv 3) pa_nil)) (pa_cons (pe_op op_catA (pe_op op_catA (pe_slice sl_tupA (pv 3) po_none (po_some (pv 4))) (pe_tup (pa_cons (pv 2) pa_nil))) (pe_slice sl_tupA (pv 3) (po_some (pe_op op_add (pv 4) pe_int)) po_none)) (pa_cons (pv 5) pa_nil)))))))))
      (pss_cons (ps_set (i := 6) sc_law_things.nd rfl (Or.inl rfl) (pe_op op_cat (pv 6) (pe_lst (pa_cons (pe_op op_catA (pe_op op_catA (pe_slice sl_tupA (pv 3) po_none (po_some (pv 4))) (pe_tup (pa_cons pe_bl pa_nil))) (pe_slice sl_tupA (pv 3) (po_some (pe_op op_add (pv 4) pe_int)) po_none)) (pa_cons (pe_op op_catA (pe_op op_catA (pe_slice sl_tupA (pv 3) po_none (po_some (pv 4))) (pe_tup (pa_cons (pe_un un_neg pe_int) pa_nil))) (pe_slice sl_tupA (pv 3) (po_some (pe_op op_add (pv 4) pe_int)) po_none)) (pa_cons (pe_op op_catA (pe_op op_catA (pe_slice sl_tupA (pv 3) po_none (po_some (pv 4))) (pe_tup (pa_cons pe_non pa_nil))) (pe_slice sl_tupA (pv 3) (po_some (pe_op op_add (pv 4) pe_int)) po_none)) pa_nil))))))
      (pss_cons (ps_set (i := 6) sc_law_things.nd rfl (Or.inl rfl) (pe_op op_cat (pv 6) (pe_lst (pa_cons (pe_tup pa_nil) (pa_cons (pe_tupRg rfl (by rfl) T.n_tuple (prg_1 (by rfl) T.n_range (pv 2))) (pa_cons (pe_callTy call_tuple_of (by rfl) T.n_tuple (by decide +kernel) (pa_cons (pe_callB cr_sortT1 (by rfl) T.n_sorted (by decide +kernel) (pa_cons (pv 5) pa_nil)) pa_nil)) (pa_cons (pe_callTy call_tuple_of (by rfl) T.n_tuple (by decide +kernel) (pa_cons (pe_callB (cr_sortedSet rfl) (by rfl) T.n_sorted (by decide +kernel) (pa_cons (pe_callTy (cr_setT rfl) (by rfl) T.n_set (by decide +kernel) (pa_cons (pv 5) pa_nil)) pa_nil)) pa_nil)) (pa_cons (pe_tup (pa_cons (pv 2) pa_nil)) (pa_cons (pe_tup (pa_cons pe_int (pa_cons pe_int pa_nil))) (pa_cons (pe_listRg rfl (by rfl) T.n_list (prg_1 (by rfl) T.n_range (pv 2))) pa_nil))))))))))
      (pss_one (ps_ret (pe_op op_cat (pv 6) (pe_lst (pa_cons (pe_op op_catA (pe_tupRg rfl (by rfl) T.n_tuple (prg_1 (by rfl) T.n_range (pv 2))) (pe_tup (pa_cons (pv 2) pa_nil))) (pa_cons (pe_call (ok__law_odd T) (hr.mono (by decide)) rfl T._law_odd.g T._law_odd.F.kp T._law_odd.b .nil pass0 (pa_cons (pv 0) pa_nil)) (pa_cons (pe_tup (pa_cons (pv 3) pa_nil)) (pa_cons pe_int (pa_cons pe_non pa_nil)))))))))))))))), ?_⟩
    refine ⟨_, rfl, _, _, 1, _, rfl, rfl, SqT.of e1, atI_nat (j := 1) rfl, q, xs, rfl, .inr (SqT.of e2), ?_⟩
    refine ⟨_, rfl, _, rfl, h, c, .ref p, n, rds, 8, rfl, hA, W, by decide, by decide, fun wv ns H1 hA1 b1 r1 n1 n2 hn => ?_⟩
    obtain ⟨wa, rfl, ew, zw⟩ := nD_inv r1
    refine ⟨_, rfl, _, rfl, wa, _, rfl, .inr (SqT.of ew), h, c, _, rfl, hA1, by rw [List.length_map]; omega, by rw [List.length_map]; omega, fun ai H2 a0 a1 hA2 b2 => ?_⟩
    have r2 := r1.monoB b2 hA1
    refine ⟨_, rfl, h, c, 5, rfl, hA2, by decide, by decide, fun kk H3 k0 k1 hA3 b3 => ⟨kk, rfl, by omega, by omega, fun A hA0 => ?_⟩⟩
    have r3 := r2.monoB b3 hA2
    obtain ⟨nA, nAc⟩ := hA3.ne hA0
    have b03 := (b1.trans b2).trans b3
    refine lc_range (lo := 0) (n := kk.toNat) (fun i H' => ∃ ms : List Nat, ms.length = i ∧ H' A = some (.lst (ms.map fun j => V.int (j : Nat))) ∧ HandAt H' h c ∧ But h H3 H')
      ⟨[], rfl, upd_same, hA3.upd nA nAc, (But.refl h H3).upd hA0⟩ ?_ ?_
    · rintro i H' hi ⟨ms, hm, hd, hA', b'⟩
      refine ⟨rfl, tyes ⟨_, rfl, _, rfl, h, c, _, rfl, hA', by omega, by omega, fun x H4 x0 x1 hA4 b4 => ?_⟩⟩
      obtain ⟨x', rfl⟩ := Int.eq_ofNat_of_zero_le x0
      refine ⟨_, b4 _ _ hd nA, by rw [List.length_map]; exact line_lt (by omega), ms ++ [x'], by rw [List.length_append, hm]; rfl, by rw [upd_same, List.map_append]; rfl, hA4.upd nA nAc, (b'.trans b4).upd hA0⟩
    · rintro H4 ⟨ms, hm, hd, hA4, b4⟩
      have zm : ms.length ≤ 5 := by omega
      have r4 := r3.monoB b4 hA3
      have b04 : BW h H H4 := ⟨b03.trans b4⟩
      clear hA hA1 hA2 hA3 hA0 b1 b2 b3 b4 b03 r1 r2 r3 ew
      refine ⟨_, _, rfl, .inl ⟨SqL.of hd, fun pd hpd => ?_⟩⟩
      walk_at "gen"
      rename_i H5 s5 e5 nd5 _ hA5
      have r5 := r4.same s5
      have d5 : Rp H5 h (.ref pd) (nD ms) := nD_mk e5 (by omega)
      have e5w := nD_at r5
      refine ⟨_, rfl, _, rfl, wa, _, rfl, SqT.of e5w, fun p6 hp6 => ?_⟩
      walk_at "gen"
      rename_i H6 s6 e6 n6 _ hA6
      rw [← List.map_reverse] at e6
      have x6 : RpX H6 h (.ref p6) := nD_x (nD_mk e6 (by rw [List.length_reverse]; omega)) (by rw [List.length_reverse]; omega)
      have w6 : Rp H6 h (.ref wa) (nD ns) := by walk_at "rr"
      refine ⟨_, rfl, _, rfl, catA_rp hA6 w6 w6 (by rw [List.length_map]; omega) fun v7 H7 s7 hA7 r7 => ?_⟩
      have x7 : RpX H7 h v7 := tup_x r7 (by rw [List.length_append, List.length_map]; omega)
      have w7 : Rp H7 h (.ref wa) (nD ns) := by walk_at "rr"
      refine ⟨_, rfl, _, rfl, _, rfl, h, c, _, rfl, hA7, by omega, by omega, fun x8 H8 _ _ hA8 b8 => ?_⟩
      have w8 : Rp H8 h (.ref wa) (nD ns) := by walk_at "rr"
      refine ⟨by show 1 ≤ sizeLine; decide, fun p9 hp9 => ?_⟩
      walk_at "gen"
      rename_i H9 s9 e9 n9 _ hA9
      have w9 : Rp H9 h (.ref wa) (nD ns) := by walk_at "rr"
      refine catA_rp hA9 w9 (.tup (ds := [.int x8]) e9 (by simp) (.cons (.int x8) .nil)) (by rw [List.length_map]; simp; omega) fun v10 H10 s10 hA10 r10 => ?_
      have x10 : RpX H10 h v10 := tup_x r10 (by rw [List.length_append, List.length_map]; simp; omega)
      have w10 : Rp H10 h (.ref wa) (nD ns) := by walk_at "rr"
      refine ⟨_, rfl, wa, _, rfl, .inr (SqT.of (nD_at w10)), fun p11 hp11 => ?_⟩
      walk_at "gen"
      rename_i H11 s11 e11 n11 _ hA11
      have x11 : RpX H11 h (.ref p11) := .lst e11 n11
      have w11 : Rp H11 h (.ref wa) (nD ns) := by walk_at "rr"
      refine ⟨_, rfl, _, rfl, _, rfl, slA_rp hA11 w11 fun v12 ds12 H12 s12 hA12 r12 z12 => ?_⟩
      refine ⟨_, rfl, by show 1 ≤ sizeLine; decide, fun p13 hp13 => ?_⟩
      walk_at "gen"
      rename_i H13 s13 e13 n13 _ hA13
      have w13 : Rp H13 h (.ref wa) (nD ns) := by walk_at "rr"
      have z12' : ds12.length ≤ 8 := by have := z12; rw [List.length_map] at this; omega
      refine catA_rp hA13 (r12.same s13) (.tup (ds := [.int _]) e13 (by simp) (.cons (.int _) .nil)) (by simp; omega) fun v14 H14 s14 hA14 r14 => ?_
      have w14 : Rp H14 h (.ref wa) (nD ns) := by walk_at "rr"
      refine ⟨_, rfl, _, rfl, _, _, rfl, rfl, _, rfl, ?_⟩
      try delta tNoPart
      refine slA_rp hA14 w14 fun v15 ds15 H15 s15 hA15 r15 z15 => ?_
      have z15' : ds15.length ≤ 8 := by have := z15; rw [List.length_map] at this; omega
      refine catA_rp hA15 (r14.same s15) r15 (by simp; omega) fun v16 H16 s16 hA16 r16 => ?_
      have x16 : RpX H16 h v16 := tup_x r16 (by simp; omega)
      have w16 : Rp H16 h (.ref wa) (nD ns) := by walk_at "rr"
      refine ⟨_, rfl, by show 7 ≤ sizeLine; decide, fun p17 hp17 => ?_⟩
      walk_at "gen"
      rename_i H17 s17 e17 n17 _ hA17
      have w17 : Rp H17 h (.ref wa) (nD ns) := by walk_at "rr"
      have d17 : Rp H17 h (.ref pd) (nD ms) := by walk_at "rr"
      have l17 : RpXA H17 h [.ref wa, .ref p6, v7, v10, .ref p11, v16, .ref pd] := .cons (nD_x w17 (by omega)) (.cons (by walk_at "xx") (.cons (by walk_at "xx") (.cons (by walk_at "xx") (.cons (by walk_at "xx") (.cons (by walk_at "xx") (.cons (nD_x d17 (by omega)) .nil))))))
      refine ⟨_, rfl, ?_⟩
      refine ⟨_, rfl, _, rfl, _, rfl, slA_rp hA17 w17 fun v18 ds18 H18 s18 hA18 r18 z18 => ?_⟩
      refine ⟨by show 1 ≤ sizeLine; decide, fun p19 hp19 => ?_⟩
      walk_at "gen"
      rename_i H19 s19 e19 n19 _ hA19
      have w19 : Rp H19 h (.ref wa) (nD ns) := by walk_at "rr"
      have z18' : ds18.length ≤ 8 := by have := z18; rw [List.length_map] at this; omega
      refine catA_rp hA19 (r18.same s19) (.tup (ds := [.bl true]) e19 (by simp) (.cons (.bl true) .nil)) (by simp; omega) fun v20 H20 s20 hA20 r20 => ?_
      have w20 : Rp H20 h (.ref wa) (nD ns) := by walk_at "rr"
      refine ⟨_, rfl, _, rfl, _, _, rfl, rfl, _, rfl, ?_⟩
      try delta tNoPart
      refine slA_rp hA20 w20 fun v21 ds21 H21 s21 hA21 r21 z21 => ?_
      have z21' : ds21.length ≤ 8 := by have := z21; rw [List.length_map] at this; omega
      refine catA_rp hA21 (r20.same s21) r21 (by simp; omega) fun v22 H22 s22 hA22 r22 => ?_
      have x22 : RpX H22 h v22 := tup_x r22 (by simp; omega)
      have w22 : Rp H22 h (.ref wa) (nD ns) := by walk_at "rr"
      refine ⟨_, rfl, _, rfl, _, rfl, slA_rp hA22 w22 fun v23 ds23 H23 s23 hA23 r23 z23 => ?_⟩
      refine ⟨_, rfl, by show 1 ≤ sizeLine; decide, fun p24 hp24 => ?_⟩
      walk_at "gen"
      rename_i H24 s24 e24 n24 _ hA24
      have w24 : Rp H24 h (.ref wa) (nD ns) := by walk_at "rr"
      have z23' : ds23.length ≤ 8 := by have := z23; rw [List.length_map] at this; omega
      refine catA_rp hA24 (r23.same s24) (.tup (ds := [.int _]) e24 (by simp) (.cons (.int _) .nil)) (by simp; omega) fun v25 H25 s25 hA25 r25 => ?_
      have w25 : Rp H25 h (.ref wa) (nD ns) := by walk_at "rr"
      refine ⟨_, rfl, _, rfl, _, _, rfl, rfl, _, rfl, ?_⟩
      try delta tNoPart
      refine slA_rp hA25 w25 fun v26 ds26 H26 s26 hA26 r26 z26 => ?_
      have z26' : ds26.length ≤ 8 := by have := z26; rw [List.length_map] at this; omega
      refine catA_rp hA26 (r25.same s26) r26 (by simp; omega) fun v27 H27 s27 hA27 r27 => ?_
      have x27 : RpX H27 h v27 := tup_x r27 (by simp; omega)
      have w27 : Rp H27 h (.ref wa) (nD ns) := by walk_at "rr"
      refine ⟨_, rfl, _, rfl, _, rfl, slA_rp hA27 w27 fun v28 ds28 H28 s28 hA28 r28 z28 => ?_⟩
      refine ⟨by show 1 ≤ sizeLine; decide, fun p29 hp29 => ?_⟩
      walk_at "gen"
      rename_i H29 s29 e29 n29 _ hA29
      have w29 : Rp H29 h (.ref wa) (nD ns) := by walk_at "rr"
      have z28' : ds28.length ≤ 8 := by have := z28; rw [List.length_map] at this; omega
      refine catA_rp hA29 (r28.same s29) (.tup (ds := [.non]) e29 (by simp) (.cons (.non) .nil)) (by simp; omega) fun v30 H30 s30 hA30 r30 => ?_
      have w30 : Rp H30 h (.ref wa) (nD ns) := by walk_at "rr"
      refine ⟨_, rfl, _, rfl, _, _, rfl, rfl, _, rfl, ?_⟩
      try delta tNoPart
      refine slA_rp hA30 w30 fun v31 ds31 H31 s31 hA31 r31 z31 => ?_
      have z31' : ds31.length ≤ 8 := by have := z31; rw [List.length_map] at this; omega
      refine catA_rp hA31 (r30.same s31) r31 (by simp; omega) fun v32 H32 s32 hA32 r32 => ?_
      have x32 : RpX H32 h v32 := tup_x r32 (by simp; omega)
      have w32 : Rp H32 h (.ref wa) (nD ns) := by walk_at "rr"
      refine ⟨by show 3 ≤ sizeLine; decide, fun p33 hp33 => ?_⟩
      walk_at "gen"
      rename_i H33 s33 e33 n33 _ hA33
      have f17 : H33 p17 = some (.lst [.ref wa, .ref p6, v7, v10, .ref p11, v16, .ref pd]) := by walk_at "at"
      refine ⟨p17, p33, _, _, rfl, rfl, f17, e33, by show 10 ≤ sizeLine; decide, fun p34 hp34 => ?_⟩
      walk_at "gen"
      rename_i H34 s34 e34 n34 _ hA34
      have l34 : RpXA H34 h ([.ref wa, .ref p6, v7, v10, .ref p11, v16, .ref pd] ++ [v22, v27, v32]) := .app (by walk_at "rx") (.cons (by walk_at "xx") (.cons (by walk_at "xx") (.cons (by walk_at "xx") .nil)))
      have w34 : Rp H34 h (.ref wa) (nD ns) := by walk_at "rr"
      have d34 : Rp H34 h (.ref pd) (nD ms) := by walk_at "rr"
      refine ⟨_, rfl, ?_⟩
      refine ⟨by show 0 ≤ sizeLine; decide, fun p35 hp35 => ?_⟩
      walk_at "gen"
      rename_i H35 s35 e35 n35 _ hA35
      have x35 : RpX H35 h (.ref p35) := .tup e35 (by simp) .nil
      refine ⟨_, rfl, _, rfl, RgOk.of_le (by decide) (by omega) (by decide) (by omega), fun p36 hp36 => ?_⟩
      walk_at "gen"
      rename_i H36 s36 e36 n36 _ hA36
      rw [hl, rg_nat] at e36
      have x36 : RpX H36 h (.ref p36) := nD_x (nD_mk e36 (by rw [List.length_range]; omega)) (by rw [List.length_range]; omega)
      have d36 : Rp H36 h (.ref pd) (nD ms) := by walk_at "rr"
      refine ⟨_, rfl, pd, ms.map fun (j : Nat) => (j : Int), rfl, SqT.of (by rw [← vnat]; exact nD_at d36), by rw [List.length_map]; omega, fun m1 p37 hz1 hz2 hp37 => ?_⟩
      walk_at "gen"
      rename_i H37 s37 e37 n37 _ hA37
      refine ⟨p37, _, rfl, .inl ⟨SqL.of e37, fun p38 hp38 => ?_⟩⟩
      walk_at "gen"
      rename_i H38 s38 e38 n38 _ hA38
      have zm1 : m1.length ≤ 5 := by rw [hz1.length_eq, List.length_map]; exact zm
      have x38 : RpX H38 h (.ref p38) := tup_x (.tup e38 (by rw [List.length_map]; omega) (RpA.ints m1)) (by rw [List.length_map]; omega)
      have d38 : Rp H38 h (.ref pd) (nD ms) := by walk_at "rr"
      refine ⟨_, rfl, pd, ms.map fun (j : Nat) => (j : Int), rfl, SqT.of (by rw [← vnat]; exact nD_at d38), by rw [List.length_map]; omega, fun p39 k39 hk39 hp39 => ?_⟩
      walk_at "gen"
      rename_i H39 s39 e39 n39 _ hA39
      rw [List.length_map] at hk39
      refine ⟨p39, _, k39, rfl, e39, by omega, fun m2 p40 hy1 hy2 hy3 hp40 => ?_⟩
      walk_at "gen"
      rename_i H40 s40 e40 n40 _ hA40
      refine ⟨p40, _, rfl, .inl ⟨SqL.of e40, fun p41 hp41 => ?_⟩⟩
      walk_at "gen"
      rename_i H41 s41 e41 n41 _ hA41
      have x41 : RpX H41 h (.ref p41) := tup_x (.tup e41 (by rw [List.length_map]; omega) (RpA.ints m2)) (by rw [List.length_map]; omega)
      refine ⟨_, rfl, by show 1 ≤ sizeLine; decide, fun p42 hp42 => ?_⟩
      walk_at "gen"
      rename_i H42 s42 e42 n42 _ hA42
      have x42 : RpX H42 h (.ref p42) := .tup e42 (by simp) (.cons (.int _) .nil)
      refine ⟨by show 2 ≤ sizeLine; decide, fun p43 hp43 => ?_⟩
      walk_at "gen"
      rename_i H43 s43 e43 n43 _ hA43
      have x43 : RpX H43 h (.ref p43) := .tup e43 (by simp) (.cons (.int _) (.cons (.int _) .nil))
      refine ⟨_, rfl, _, rfl, RgOk.of_le (by decide) (by omega) (by decide) (by omega), fun p44 hp44 => ?_⟩
      walk_at "gen"
      rename_i H44 s44 e44 n44 _ hA44
      have x44 : RpX H44 h (.ref p44) := .lst e44 n44
      refine ⟨by show 7 ≤ sizeLine; decide, fun p45 hp45 => ?_⟩
      walk_at "gen"
      rename_i H45 s45 e45 n45 _ hA45
      have f34 : H45 p34 = some (.lst ([.ref wa, .ref p6, v7, v10, .ref p11, v16, .ref pd] ++ [v22, v27, v32])) := by walk_at "at"
      refine ⟨p34, p45, _, _, rfl, rfl, f34, e45, by show 17 ≤ sizeLine; decide, fun p46 hp46 => ?_⟩
      walk_at "gen"
      rename_i H46 s46 e46 n46 _ hA46
      have l46 : RpXA H46 h ([.ref wa, .ref p6, v7, v10, .ref p11, v16, .ref pd] ++ [v22, v27, v32] ++ [.ref p35, .ref p36, .ref p38, .ref p41, .ref p42, .ref p43, .ref p44]) := .app (by walk_at "rx") (.cons (by walk_at "xx") (.cons (by walk_at "xx") (.cons (by walk_at "xx") (.cons (by walk_at "xx") (.cons (by walk_at "xx") (.cons (by walk_at "xx") (.cons (by walk_at "xx") .nil)))))))
      have w46 : Rp H46 h (.ref wa) (nD ns) := by walk_at "rr"
      refine ⟨_, rfl, ?_⟩
      refine ⟨_, rfl, _, rfl, RgOk.of_le (by decide) (by omega) (by decide) (by omega), fun p47 hp47 => ?_⟩
      walk_at "gen"
      rename_i H47 s47 e47 n47 _ hA47
      rw [hl, rg_nat] at e47
      have g47 : Rp H47 h (.ref p47) (nD (List.range rds.length)) := nD_mk e47 (by rw [List.length_range]; omega)
      refine ⟨_, rfl, by show 1 ≤ sizeLine; decide, fun p48 hp48 => ?_⟩
      walk_at "gen"
      rename_i H48 s48 e48 n48 _ hA48
      refine catA_rp (es := [.int _]) hA48 (g47.same s48) (.tup e48 (by simp) (.cons (.int _) .nil)) (by rw [List.length_map, List.length_range]; simp; omega) fun v49 H49 s49 hA49 r49 => ?_
      have x49 : RpX H49 h v49 := tup_x r49 (by rw [List.length_append, List.length_map, List.length_range]; simp; omega)
      refine ⟨_, rfl, h, c, rfl, hA49, fun vo H50 hA50 b50 x50 => ?_⟩
      have w50 : Rp H50 h (.ref wa) (nD ns) := by walk_at "rr"
      refine ⟨_, rfl, by show 1 ≤ sizeLine; decide, fun p51 hp51 => ?_⟩
      walk_at "gen"
      rename_i H51 s51 e51 n51 _ hA51
      have w51 : Rp H51 h (.ref wa) (nD ns) := by walk_at "rr"
      have x51 : RpX H51 h (.ref p51) := .tup e51 (by simp) (.cons (nD_x w51 (by omega)) .nil)
      refine ⟨by show 5 ≤ sizeLine; decide, fun p52 hp52 => ?_⟩
      walk_at "gen"
      rename_i H52 s52 e52 n52 _ hA52
      have f46 : H52 p46 = some (.lst ([.ref wa, .ref p6, v7, v10, .ref p11, v16, .ref pd] ++ [v22, v27, v32] ++ [.ref p35, .ref p36, .ref p38, .ref p41, .ref p42, .ref p43, .ref p44])) := by walk_at "at"
      refine ⟨p46, p52, _, _, rfl, rfl, f46, e52, by show 22 ≤ sizeLine; decide, fun p53 hp53 => ?_⟩
      walk_at "gen"
      rename_i H53 s53 e53 n53 _ hA53
      refine k p53 _ H53 hA53 (b04.b.trans (by walk_at "bt")) n53 e53 (.app (by walk_at "rx") (.cons (by walk_at "xx") (.cons (by walk_at "xx") (.cons (by walk_at "xx") (.cons (.int 0) (.cons .non .nil))))))
end
end Hc

set_option Elab.async false
set_option linter.all false
set_option maxRecDepth 100000
set_option maxHeartbeats 1000000
set_option autoImplicit false
local macro_rules | `(tactic| walk_at "gen") => `(tactic| (generalize hE : L2.upd _ _ _ = H2; have q := Hc.new_facts (by assumption) (by assumption) hE; clear hE; obtain ⟨s2, e2, n2, n3, hA2⟩ := q))
local macro_rules | `(tactic| walk_at "rp") => `(tactic| first
  | assumption
  | exact Hc.RpX.non | exact Hc.RpX.bl _ | exact Hc.RpX.int _ | exact Hc.RpX.str _
  | exact Hc.RpXA.nil
  | (refine Hc.RpXA.cons ?_ ?_ <;> walk_at "rp")
  | (refine Hc.RpX.tup (by assumption) (by simp) ?_; walk_at "rp")
  | exact Hc.RpX.lst (by assumption) (by assumption)
  | exact Hc.RpX.dct (by assumption)
  | (refine Hc.RpX.same (by assumption) ?_; walk_at "rp")
  | (refine Hc.RpX.monoB (by assumption) (by assumption) ?_; walk_at "rp"))
local macro_rules | `(tactic| walk_at "rr") => `(tactic| first
  | assumption
  | (refine Hc.Rp.same (by assumption) ?_; walk_at "rr")
  | (refine Hc.Rp.monoB (by assumption) (by assumption) ?_; walk_at "rr"))
local macro_rules | `(tactic| walk_at "bt") => `(tactic| first
  | assumption
  | exact Hc.But.refl _ _
  | (refine Hc.But.trans ?_ (Hc.But.of (by assumption)); walk_at "bt")
  | (refine Hc.But.trans ?_ (by assumption); walk_at "bt"))
local macro_rules | `(tactic| walk_at "rx") => `(tactic| first
  | assumption
  | (refine Hc.RpXA.same (by assumption) ?_; walk_at "rx")
  | (refine Hc.RpXA.monoB (by assumption) (by assumption) ?_; walk_at "rx"))
local macro_rules | `(tactic| walk_at "xx") => `(tactic| first
  | assumption
  | (refine Hc.RpX.same (by assumption) ?_; walk_at "xx")
  | (refine Hc.RpX.monoB (by assumption) (by assumption) ?_; walk_at "xx"))
local macro_rules | `(tactic| walk_at "at") => `(tactic| first
  | assumption
  | (refine (by assumption : L2.Same _ _) _ _ ?_; walk_at "at")
  | (refine (by assumption : Hc.But _ _ _) _ _ ?_ (by assumption); walk_at "at"))
namespace Hc
open PySem L2
theorem HandAt.but {H H' : Hp} {h c x : Addr} (a : HandAt H h c) (k : But x H H') (h1 : h ≠ x) (h2 : c ≠ x) : HandAt H' h c := by
  obtain ⟨ns, i, d, s, t, e, hc, hi, hn⟩ := a
  exact ⟨ns, i, d, s, t, k _ _ e h1, k _ _ hc h2, hi, hn⟩
section
variable {P : Program} {w : World} {K : PySem.W.Frag} {mg : Str → Option Value} {base : Heap}
def spLaw (K : PySem.W.Frag) : Sp := fun vs H Q _ => ∃ (a : Addr) (ns : List Int), vs = [.ref a] ∧ SqL K H a (ns.map V.int) ∧ ns.length ≤ 63 ∧ ∀ H', Q (.bl true) H'
theorem ok_law (T : Tx K mg) : FnOk P w K mg base CX0 9 T.law.f T.law.fd ["_law_script"] (spLaw K) := by
  refine T.law.F.ok sc_law (fun vs H Q E h => ?_) (fun cdv A outer s H vs Q E hr h => ?_)
  · obtain ⟨a, ns, rfl, _⟩ := h
    rfl
  · obtain ⟨a, ns, rfl, hS, hl, k⟩ := h
    refine ⟨_, (pss_cons (ps_set (i := 1) sc_law.nd rfl (Or.inl rfl) (pe_call (ok__law_hand T) (hr.mono (by decide)) rfl T._law_hand.g T._law_hand.F.kp T._law_hand.b .nil pass0 (pa_cons (pv 0) pa_nil)))
      (pss_cons (ps_for PassesOwn.never rfl (pi_range1 (by rfl) T.n_range (pa_cons pe_int pa_nil)) (pg_name (i := 2) sc_law.nd rfl (Or.inl rfl))
      (pss_cons (ps_set (i := 3) sc_law.nd rfl (Or.inl rfl) (pe_call (ok__law_web T) (hr.mono (by decide)) rfl T._law_web.g T._law_web.F.kp T._law_web.b .nil pass0 (pa_cons (pv 1) (pa_cons (pe_ix ix_list (pe_lst (pa_cons pe_int (pa_cons pe_int (pa_cons pe_int pa_nil)))) (pv 2) (fun _ _ => rfl)) (pa_cons (pe_ix ix_list (pe_lst (pa_cons pe_int (pa_cons pe_int (pa_cons pe_int pa_nil)))) (pv 2) (fun _ _ => rfl)) pa_nil)))))
      (pss_cons (ps_set (i := 4) sc_law.nd rfl (Or.inl rfl) (pe_make T.Web.mk1 (ok_Web___init T) (hr.mono (by decide)) rfl T.Web.g T.Web.b .nil passL (pa_cons (pe_ix ix_tup (pv 3) pe_int (fun _ _ => rfl)) (pa_cons (pe_ix ix_tup (pv 3) pe_int (fun _ _ => rfl)) (pa_cons (pe_ix ix_tup (pv 3) pe_int (fun _ _ => rfl)) (pa_cons (pe_ix ix_tup (pv 3) pe_int (fun _ _ => rfl)) pa_nil))))))
      (pss_cons (ps_for PassesOwn.never rfl (pi_range1 (by rfl) T.n_range (pa_cons (pe_callB call_len_seq (by rfl) T.n_len (by decide +kernel) (pa_cons (pe_ix ix_tup (pv 3) pe_int (fun _ _ => rfl)) pa_nil)) pa_nil)) (pg_name (i := 5) sc_law.nd rfl (Or.inl rfl))
      (pss_one (ps_if (pt_cmpR (op_neD hr.units) (pe_call (ok_next_roads T) (hr.mono (by decide)) rfl T.next_roads.g T.next_roads.F.kp T.next_roads.b .nil passL (pa_cons (pv 4) (pa_cons (pv 5) pa_nil))) (pe_callTy call_tuple_of (by rfl) T.n_tuple (by decide +kernel) (pa_cons (pe_call (ok__law_next T) (hr.mono (by decide)) rfl T._law_next.g T._law_next.F.kp T._law_next.b .nil pass0 (pa_cons (pv 3) (pa_cons (pv 5) pa_nil))) pa_nil)) (nomark _))
      (pss_one (ps_ret pe_bl))
      pss_nil)))
      (pss_cons (ps_for PassesOwn.never rfl (pi_list (pe_lst (pa_cons (pe_callB call_len_seq (by rfl) T.n_len (by decide +kernel) (pa_cons (pe_ix ix_tup (pv 3) pe_int (fun _ _ => rfl)) pa_nil)) (pa_cons (pe_un un_neg pe_int) (pa_cons pe_non (pa_cons pe_bl (pa_cons pe_bl (pa_cons pe_str (pa_cons (pe_tup (pa_cons pe_int pa_nil)) (pa_cons (pe_lst (pa_cons pe_int pa_nil)) (pa_cons (pe_op op_pow pe_int pe_int) (pa_cons pe_dnewK pa_nil)))))))))))) (pg_name (i := 6) sc_law.nd rfl (Or.inl rfl))
      (pss_one (ps_if (pt_not (pt_val (pe_call (ok__law_refused T) (hr.mono (by decide)) rfl T._law_refused.g T._law_refused.F.kp T._law_refused.b .nil pass0 (pa_cons (pv 4) (pa_cons (pv 6) pa_nil)))))
      (pss_one (ps_ret pe_bl))
      pss_nil)))
      (pss_one (ps_for PassesOwn.never rfl (pi_list (pe_call (ok__law_things T) (hr.mono (by decide)) rfl T._law_things.g T._law_things.F.kp T._law_things.b .nil pass0 (pa_cons (pv 1) (pa_cons (pv 3) pa_nil)))) (pg_name (i := 6) sc_law.nd rfl (Or.inl rfl))
      (pss_cons (ps_set (i := 7) sc_law.nd rfl (Or.inl rfl) (pe_lst (pa_cons (pe_call (ok_is_way T) (hr.mono (by decide)) rfl T.is_way.g T.is_way.F.kp T.is_way.b .nil pass0 (pa_cons (pv 4) (pa_cons (pv 6) pa_nil))) (pa_cons (pe_call (ok_is_lot T) (hr.mono (by decide)) rfl T.is_lot.g T.is_lot.F.kp T.is_lot.b .nil pass0 (pa_cons (pv 4) (pa_cons (pv 6) pa_nil))) pa_nil))))
      (pss_cons (ps_if (pt_cmpR (op_neD hr.units) (pv 7) (pe_lst (pa_cons (pe_call (ok__law_is_way T) (hr.mono (by decide)) rfl T._law_is_way.g T._law_is_way.F.kp T._law_is_way.b .nil pass0 (pa_cons (pv 3) (pa_cons (pv 6) pa_nil))) (pa_cons (pe_call (ok__law_is_lot T) (hr.mono (by decide)) rfl T._law_is_lot.g T._law_is_lot.F.kp T._law_is_lot.b .nil pass0 (pa_cons (pv 3) (pa_cons (pv 6) pa_nil))) pa_nil))) (nomark _))
      (pss_one (ps_ret pe_bl))
      pss_nil)
      (pss_one (ps_if (PW.pt (pw_or (pt_not (pt_val (pe_callB call_isi (by rfl) T.n_isinstance (by decide +kernel) (pa_cons (pe_ix ix_list (pv 7) pe_int (fun _ _ => rfl)) (pa_cons (pe_bltn (v := .ty "bool") (by rfl) T.n_bool (by decide +kernel) rfl) pa_nil))))) (pw_or1 (pt_not (pt_val (pe_callB call_isi (by rfl) T.n_isinstance (by decide +kernel) (pa_cons (pe_ix ix_list (pv 7) pe_int (fun _ _ => rfl)) (pa_cons (pe_bltn (v := .ty "bool") (by rfl) T.n_bool (by decide +kernel) rfl) pa_nil))))))))
      (pss_one (ps_ret pe_bl))
      pss_nil)))))))))))
      (pss_one (ps_ret pe_bl)))), ?_⟩
    refine ⟨_, rfl, a, ns, rfl, hS, hl, fun h c H0 s0 hA0 => ?_⟩
    refine ⟨3, rfl, by decide, by decide, for_range (lo := 0) (n := 3) (fun i σ' H' => ∃ o2 o3 o4 o5 o6 o7 : Option V, σ' = [some (.ref a), some (.ref h), o2, o3, o4, o5, o6, o7] ∧ HandAt H' h c)
      ⟨none, none, none, none, none, none, rfl, hA0⟩ ?_ (fun σ' H' _ => k H')⟩
    rintro i σ' H1 hi ⟨o2, o3, o4, o5, o6, o7, rfl, hA1⟩
    obtain ⟨to, mo, ht1, ht2, t0, t1, m0, m1⟩ : ∃ to mo : Int, atI [V.int 3, V.int 6, V.int 12] (0 + (i : Int)) = some (.int to) ∧ atI [V.int 3, V.int 8, V.int 24] (0 + (i : Int)) = some (.int mo) ∧ 2 ≤ to ∧ to ≤ 12 ∧ 1 ≤ mo ∧ mo ≤ 24 := by
      have : i = 0 ∨ i = 1 ∨ i = 2 := by omega
      rcases this with rfl | rfl | rfl
      · exact ⟨3, 3, rfl, rfl, by decide, by decide, by decide, by decide⟩
      · exact ⟨6, 8, rfl, rfl, by decide, by decide, by decide, by decide⟩
      · exact ⟨12, 24, rfl, rfl, by decide, by decide, by decide, by decide⟩
    clear hA0 s0
    refine ⟨_, rfl, by show 3 ≤ sizeLine; decide, fun p1 hp1 => ?_⟩
    walk_at "gen"
    rename_i H2 s2 e2 n2 _ hA2
    refine ⟨_, rfl, p1, _, _, _, rfl, rfl, SqL.of e2, ht1, by show 3 ≤ sizeLine; decide, fun p2 hp2 => ?_⟩
    walk_at "gen"
    rename_i H3 s3 e3 n3 _ hA3
    refine ⟨_, rfl, p2, _, _, _, rfl, rfl, SqL.of e3, ht2, h, c, to, mo, rfl, hA3, t0, by omega, m0, by omega, fun vw dw H4 hA4 b4 rw_ wd => ?_⟩
    obtain ⟨n, ds, rm, tm, rfl, z1, z2, z3, z4, hall, hrm, htm⟩ := wd
    have WL : WebL H4 h vw n ds := ⟨⟨rm, tm, rw_⟩, hall, z3, by omega⟩
    obtain ⟨pw, xs, rfl, ew, _, rA⟩ := tup_inv rw_
    cases rA with
    | cons r1 rA =>
    cases rA with
    | cons r2 rA =>
    cases rA with
    | cons r3 rA =>
    cases rA with
    | cons r4 rA =>
    cases rA
    cases r1
    rename_i vr vm vt _
    clear hA1 hA2 hA3 s2 s3 b4
    refine ⟨_, rfl, pw, _, 0, _, rfl, rfl, SqT.of ew, atI_nat (j := 0) rfl, _, rfl, pw, _, 1, _, rfl, rfl, SqT.of ew, atI_nat (j := 1) rfl, _, rfl, pw, _, 2, _, rfl, rfl, SqT.of ew, atI_nat (j := 2) rfl, _, rfl, pw, _, 3, _, rfl, rfl, SqT.of ew, atI_nat (j := 3) rfl, fun x dx hx hdx ne => ?_⟩
    have sx : Same H4 (upd (upd H4 dx (.own x)) x (.ins T.Web.C dx [])) := fun b o q => by
      rw [upd_ne (ne_of_none q hx), upd_ne (ne_of_none q hdx)]; exact q
    obtain ⟨nh, nc⟩ := hA4.ne hx
    have hdue : due (.int n) (.tup ds) rm tm = none := by
      have q1 : ¬ isBtw 2 12 (.int n) = false := by rw [btw_of z1 (by omega)]; decide
      have q2 : ¬ areRoads (num (.int n)) (.tup ds) = false := by
        show ¬ areRoads n (.tup ds) = false
        rw [areRoads_tup, decide_eq_true z3, decide_eq_true (show ds.length ≤ 24 by omega), hall]; decide
      have q3 : ¬ areBtw (dlen (.tup ds)) 1 3 rm = false := by show ¬ areBtw (ds.length : Int) 1 3 rm = false; rw [hrm]; decide
      have q4 : ¬ areBtw (dlen (.tup ds)) 1 3 tm = false := by show ¬ areBtw (ds.length : Int) 1 3 tm = false; rw [htm]; decide
      exact (if_neg q1).trans ((if_neg q2).trans ((if_neg q3).trans (if_neg q4)))
    refine ⟨h, x, dx, .int n, vr, vm, vt, .int n, .tup ds, rm, tm, rfl, upd_same, .int n, r2.same sx, r3.same sx, r4.same sx, fun _ H7 b7 e7 => ⟨rfl, ?_⟩, fun part hd => by rw [hdue] at hd; cases hd⟩
    have hA7 : HandAt H7 h c := (hA4.mono sx).but b7 nh.symm nc.symm
    have s7 : Same H4 H7 := fun b o q => b7 _ _ (sx _ _ q) (ne_of_none q hx)
    have WO : WebO T.Web.C H7 h x n ds := ⟨⟨dx, _, _, _, _, e7, r2.same s7⟩, hall, z3, by omega⟩
    have W7 := WL.same s7
    clear hA4 WL s7 sx b7 r2 r3 r4 rw_
    obtain ⟨pw', pq, y3, y4, xr, ea', ew7, eq7, ra7⟩ := W7.inv
    cases ea'
    have hlr := ra7.len
    -- the roads
    refine ⟨_, rfl, pw, _, 1, _, rfl, rfl, SqT.of ew7, atI_nat (j := 1) rfl, pq, xr, rfl, .inr (SqT.of eq7), (xr.length : Int), rfl, by omega, by omega, for_range (lo := 0) (n := (xr.length : Int).toNat) (fun j σ' H' => ∃ o5 : Option V, σ' = [some (.ref a), some (.ref h), some (.int (0 + (i : Int))), some (.ref pw), some (.ref x), o5, o6, o7] ∧ Same H7 H')
      ⟨_, rfl, Same.refl _⟩ ?_ ?_⟩
    · rintro j σ' H8 hj ⟨o5, rfl, s8⟩
      rw [Int.zero_add (j : Int)]
      have hj' : j < ds.length := by omega
      have rd : isRoad ds (.int (j : Nat)) = true := btw_of (by omega) (by omega)
      refine ⟨_, rfl, _, rfl, h, x, n, ds, _, .int (j : Nat), rfl, WO.same s8, .int _, fun q => ?_, fun _ aN H9 s9 e9 => ?_⟩
      · rw [rd] at q; cases q
      refine ⟨_, rfl, _, rfl, h, _, n, ds, j, rfl, W7.same (s8.trans s9), hj', fun bN H10 s10 fb e10 => ?_⟩
      refine ⟨bN, _, rfl, .inl ⟨SqL.of e10, fun pN hpN => ?_⟩⟩
      have e9' : H9 aN = some (.tup (((nextL ds j).map fun (j : Nat) => (j : Int)).map V.int)) := by rw [← vnat]; exact e9
      refine ⟨.tuple (((nextL ds j).map fun (j : Nat) => (j : Int)).map .int), .tuple (((nextL ds j).map fun (j : Nat) => (j : Int)).map .int), .tup (SqT.of (same_upd hpN _ _ (s10 _ _ e9'))) (dpl_ints _), .tup (SqT.of (by rw [← vnat]; exact upd_same)) (dpl_ints _), shaped_t _, shaped_t _, _, rfl, ?_⟩
      have ev : PyData.eqv (.tuple (((nextL ds j).map fun (j : Nat) => (j : Int)).map .int)) (.tuple (((nextL ds j).map fun (j : Nat) => (j : Int)).map .int)) = true := by
        show PyData.eqvAll _ _ = true
        rw [eqv_ints]
        exact decide_eq_true rfl
      rw [ev]
      exact iteF ⟨_, rfl, ((s8.trans s9).trans s10).trans (same_upd hpN)⟩
    rintro σ' H8 ⟨o5', rfl, s8⟩
    have hA8 := hA7.mono s8
    have WO8 := WO.same s8
    have W8 := W7.same s8
    have ew8 := s8 _ _ ew7
    have eq8 := s8 _ _ eq7
    clear hA7 WO W7 s8 ew7 eq7 e7
    -- what is no road
    refine ⟨_, rfl, _, _, 1, _, rfl, rfl, SqT.of ew8, atI_nat (j := 1) rfl, pq, xr, rfl, .inr (SqT.of eq8), _, rfl, by show 1 ≤ sizeLine; decide, fun p9 hp9 => ?_⟩
    walk_at "gen"
    rename_i H9 s9 e9 n9 _ hA9
    refine ⟨by show 1 ≤ sizeLine; decide, fun p10 hp10 => ?_⟩
    walk_at "gen"
    rename_i H10 s10 e10 n10 _ hA10
    refine ⟨_, _, rfl, rfl, ⟨by decide, by decide, by decide⟩, fun p11 hp11 => ?_⟩
    walk_at "gen"
    rename_i H11 s11 e11 n11 _ hA11
    refine ⟨by show 10 ≤ sizeLine; decide, fun p12 hp12 => ?_⟩
    walk_at "gen"
    rename_i H12 s12 e12 n12 _ hA12
    have s812 := ((s9.trans s10).trans s11).trans s12
    have rl : RpA H12 h [.int (xr.length : Int), .int (-1), .non, .bl true, .bl false, .str "0", .ref p9, .ref p10, .int ((10 : Int) ^ (30 : Int).toNat), .ref p11]
        [.int (xr.length : Int), .int (-1), .non, .bl true, .bl false, .str "0", .tup [.int 0], .lst, .int ((10 : Int) ^ (30 : Int).toNat), .dct] :=
      .cons (.int _) (.cons (.int _) (.cons .non (.cons (.bl _) (.cons (.bl _) (.cons (.str _) (.cons (.tup ((s10.trans (s11.trans s12)) _ _ e9) (by decide) (.cons (.int 0) .nil)) (.cons (.lst ((s11.trans s12) _ _ e10) n10) (.cons (.int _) (.cons (.dct (s12 _ _ e11)) .nil)))))))))
    have bad : ∀ d ∈ ([.int (xr.length : Int), .int (-1), .non, .bl true, .bl false, .str "0", .tup [.int 0], .lst, .int ((10 : Int) ^ (30 : Int).toNat), .dct] : List D), isRoad ds d = false := by
      have b1 : isRoad ds (.int (xr.length : Int)) = false := by
        show (decide (0 ≤ (xr.length : Int)) && decide ((xr.length : Int) ≤ (ds.length : Int) - 1)) = false
        rw [decide_eq_false (show ¬ (xr.length : Int) ≤ (ds.length : Int) - 1 by omega), Bool.and_false]
      have b2 : isRoad ds (.int (-1)) = false := rfl
      have b3 : isRoad ds (.int ((10 : Int) ^ (30 : Int).toNat)) = false := by
        show (decide (0 ≤ (10 : Int) ^ (30 : Int).toNat) && decide ((10 : Int) ^ (30 : Int).toNat ≤ (ds.length : Int) - 1)) = false
        have big : (1000 : Int) < (10 : Int) ^ (30 : Int).toNat := by decide
        rw [decide_eq_false (show ¬ (10 : Int) ^ (30 : Int).toNat ≤ (ds.length : Int) - 1 by omega), Bool.and_false]
      intro d hd
      simp only [List.mem_cons, List.not_mem_nil, or_false] at hd
      rcases hd with rfl | rfl | rfl | rfl | rfl | rfl | rfl | rfl | rfl | rfl
      · exact b1
      · exact b2
      · rfl
      · rfl
      · rfl
      · rfl
      · rfl
      · rfl
      · exact b3
      · rfl
    have WO12 := WO8.same s812
    have W12 := W8.same s812
    clear hA8 hA9 hA10 hA11 WO8 W8 s9 s10 s11 s12 e9 e10 e11 ew8 eq8 s812
    refine ⟨p12, rfl, ⟨_, SqL.of e12⟩, for_list (K := K) (a := p12) (xs := _) (fun j σ' H' => ∃ o6' : Option V, σ' = [some (.ref a), some (.ref h), some (.int (0 + (i : Int))), some (.ref pw), some (.ref x), o5', o6', o7] ∧ Same H12 H')
      ⟨_, rfl, Same.refl _⟩ (fun j σ' H' _ ⟨_, _, s13⟩ => SqL.of (s13 _ _ e12)) ?_ ?_⟩
    · rintro j v σ' H13 hv ⟨o6', rfl, s13⟩
      obtain ⟨d, hd, rd⟩ := rl.get hv
      refine ⟨_, rfl, _, rfl, h, x, n, ds, v, d, rfl, WO12.same s13, rd.same s13, bad d (List.mem_of_getElem? hd), _, rfl, iteF ?_⟩
      exact ⟨_, rfl, s13⟩
    rintro σ' H13 ⟨o6', rfl, s13⟩
    have hA13 := hA12.mono s13
    have WO13 := WO12.same s13
    have W13 := W12.same s13
    clear hA12 WO12 W12 s13 e12 rl bad
    -- ways and lots
    refine ⟨_, rfl, _, rfl, h, c, _, n, ds, rfl, hA13, W13, fun b ys H14 hA14 b14 nb e14 rx => ?_⟩
    have WO14 := WO13.but b14 hA13
    have W14 := W13.but b14 hA13
    clear hA13 WO13 W13 b14
    refine ⟨b, rfl, ⟨_, SqL.of e14⟩, for_list (K := K) (a := b) (xs := ys) (fun j σ' H' => ∃ o6 o7 : Option V, σ' = [some (.ref a), some (.ref h), some (.int (0 + (i : Int))), some (.ref pw), some (.ref x), o5', o6, o7] ∧ Same H14 H')
      ⟨_, _, rfl, Same.refl _⟩ (fun j σ' H' _ ⟨_, _, _, s15⟩ => SqL.of (s15 _ _ e14)) ?_ (fun σ' H' ⟨_, _, e, s15⟩ => ⟨_, _, _, _, _, _, e, hA14.mono s15⟩)⟩
    rintro j v σ' H15 hv ⟨o6, o7, rfl, s15⟩
    obtain ⟨d, rd, sd⟩ := rx.at hv
    have rd := rd.same s15
    have WO15 := WO14.same s15
    have W15 := W14.same s15
    refine ⟨_, rfl, _, rfl, h, x, n, ds, v, d, rfl, WO15, rd, fun H16 s16 => ?_⟩
    refine ⟨_, rfl, _, rfl, h, x, n, ds, v, d, rfl, WO15.same s16, rd.same s16, fun H17 s17 => ?_⟩
    refine ⟨by show 2 ≤ sizeLine; decide, fun p18 hp18 => ?_⟩
    have s18 := same_upd (o := .lst [V.bl (isWay ds d), V.bl (isLot ds d)]) hp18
    have s15_18 := (s16.trans s17).trans s18
    refine ⟨_, rfl, _, rfl, _, rfl, h, _, v, n, ds, d, rfl, W15.same s15_18, rd.same s15_18, sd, fun H19 s19 => ?_⟩
    refine ⟨_, rfl, _, rfl, h, _, v, n, ds, d, rfl, (W15.same s15_18).same s19, (rd.same s15_18).same s19, sd, fun H20 s20 => ?_⟩
    refine ⟨by show 2 ≤ sizeLine; decide, fun p21 hp21 => ?_⟩
    have s21 := same_upd (o := .lst [V.bl (isWay ds d), V.bl (isLot ds d)]) hp21
    have e18 := (s19.trans (s20.trans s21)) _ _ (upd_same (H := H17) (a := p18) (o := .lst [V.bl (isWay ds d), V.bl (isLot ds d)]))
    refine ⟨.list [.bool (isWay ds d), .bool (isLot ds d)], .list [.bool (isWay ds d), .bool (isLot ds d)], .lst (SqL.of e18) (.cons (.bl _) (.cons (.bl _) .nil)), .lst (SqL.of upd_same) (.cons (.bl _) (.cons (.bl _) .nil)), rfl, rfl, _, rfl, ?_⟩
    have ev : PyData.eqv (.list [.bool (isWay ds d), .bool (isLot ds d)]) (.list [.bool (isWay ds d), .bool (isLot ds d)]) = true := by
      cases isWay ds d <;> cases isLot ds d <;> rfl
    rw [ev]
    refine iteF ?_
    have te : ∀ {X : Hp} (y : Bool), TyX K X (.bl y) (.type "bool") := fun y => .base (.bl y)
    refine ⟨_, rfl, p18, _, 0, _, rfl, rfl, SqL.of e18, atI_nat (j := 0) rfl, _, _, _, _, _, rfl, .ty "bool", te (isWay ds d), kit_ty (kitBo (.bl (isWay ds d))), _, rfl, iteF ?_⟩
    refine ⟨_, rfl, p18, _, 1, _, rfl, rfl, SqL.of e18, atI_nat (j := 1) rfl, _, _, _, _, _, rfl, .ty "bool", te (isLot ds d), kit_ty (kitBo (.bl (isLot ds d))), _, rfl, iteF ?_⟩
    exact ⟨_, _, rfl, s15.trans (s15_18.trans (s19.trans (s20.trans s21)))⟩
end
end Hc

set_option Elab.async false
set_option linter.all false
set_option maxRecDepth 100000
set_option maxHeartbeats 4000000
set_option autoImplicit false
namespace Hc
open PySem L2
/-- an error of the class at S is what «except S» names -/
theorem exm_self {K : PySem.W.Frag} {S : Addr} (h1 : PySem.W.subIn K (.ref S) (.type "BaseException") = some true) (h2 : PySem.W.isClsIn K S = true) (h3 : PySem.W.typeIn K (.ref S) = some (.type "type")) (h4 : PySem.W.subIn K (.ref S) (.ref S) = some true) :
    PySem.W.exmOne K (.ref S) (.ref S) = some true := by
  have e1 : (PySem.W.subIn K (.ref S) (.type "BaseException") == some true) = true := by rw [h1] <;> rfl
  have e2 : ((PySem.W.clsIn K S).isSome && PySem.W.typeIn K (.ref S) == some (.type "type")) = true := by
    have h2' : (PySem.W.clsIn K S).isSome = true := h2
    rw [h2', h3] <;> rfl
  show (if (PySem.W.subIn K (.ref S) (.type "BaseException") == some true) = true then (if ((PySem.W.clsIn K S).isSome && PySem.W.typeIn K (.ref S) == some (.type "type")) = true then PySem.W.subIn K (.ref S) (.ref S) else none) else none) = some true
  rw [if_pos e1, if_pos e2]
  exact h4
theorem tx_mk {K : PySem.W.Frag} {h : Heap} {mg : Str → Option Value} (X : K.In h) (G : h.Ns mainGlobals mg)
    {fisqinteger : Addr} {odisqinteger anisqinteger : Option Addr} {slisqinteger : Array (Option Value)} {ocisqinteger kVisqinteger dcisqinteger pmisqinteger cdisqinteger ctisqinteger : Value}
    {fisqbetween : Addr} {odisqbetween anisqbetween : Option Addr} {slisqbetween : Array (Option Value)} {ocisqbetween kVisqbetween dcisqbetween pmisqbetween cdisqbetween ctisqbetween : Value}
    {fisqtuple : Addr} {odisqtuple anisqtuple : Option Addr} {slisqtuple : Array (Option Value)} {ocisqtuple kVisqtuple dcisqtuple pmisqtuple cdisqtuple ctisqtuple : Value}
    {fareqintegers : Addr} {odareqintegers anareqintegers : Option Addr} {slareqintegers : Array (Option Value)} {ocareqintegers kVareqintegers dcareqintegers pmareqintegers cdareqintegers ctareqintegers : Value}
    {fareqbetween : Addr} {odareqbetween anareqbetween : Option Addr} {slareqbetween : Array (Option Value)} {ocareqbetween kVareqbetween dcareqbetween pmareqbetween cdareqbetween ctareqbetween : Value}
    {fareqroads : Addr} {odareqroads anareqroads : Option Addr} {slareqroads : Array (Option Value)} {ocareqroads kVareqroads dcareqroads pmareqroads cdareqroads ctareqroads : Value}
    {fisqbeginqandqend : Addr} {odisqbeginqandqend anisqbeginqandqend : Option Addr} {slisqbeginqandqend : Array (Option Value)} {ocisqbeginqandqend kVisqbeginqandqend dcisqbeginqandqend pmisqbeginqandqend cdisqbeginqandqend ctisqbeginqandqend : Value}
    {fisqroad : Addr} {odisqroad anisqroad : Option Addr} {slisqroad : Array (Option Value)} {ocisqroad kVisqroad dcisqroad pmisqroad cdisqroad ctisqroad : Value}
    {fnextqroads : Addr} {odnextqroads annextqroads : Option Addr} {slnextqroads : Array (Option Value)} {ocnextqroads kVnextqroads dcnextqroads pmnextqroads cdnextqroads ctnextqroads : Value}
    {fisqway : Addr} {odisqway anisqway : Option Addr} {slisqway : Array (Option Value)} {ocisqway kVisqway dcisqway pmisqway cdisqway ctisqway : Value}
    {fisqlot : Addr} {odisqlot anisqlot : Option Addr} {slisqlot : Array (Option Value)} {ocisqlot kVisqlot dcisqlot pmisqlot cdisqlot ctisqlot : Value}
    {fqlawqhand : Addr} {odqlawqhand anqlawqhand : Option Addr} {slqlawqhand : Array (Option Value)} {ocqlawqhand kVqlawqhand dcqlawqhand pmqlawqhand cdqlawqhand ctqlawqhand : Value}
    {fqlawqdraw : Addr} {odqlawqdraw anqlawqdraw : Option Addr} {slqlawqdraw : Array (Option Value)} {ocqlawqdraw kVqlawqdraw dcqlawqdraw pmqlawqdraw cdqlawqdraw ctqlawqdraw : Value}
    {fqlawqcounts : Addr} {odqlawqcounts anqlawqcounts : Option Addr} {slqlawqcounts : Array (Option Value)} {ocqlawqcounts kVqlawqcounts dcqlawqcounts pmqlawqcounts cdqlawqcounts ctqlawqcounts : Value}
    {fqlawqweb : Addr} {odqlawqweb anqlawqweb : Option Addr} {slqlawqweb : Array (Option Value)} {ocqlawqweb kVqlawqweb dcqlawqweb pmqlawqweb cdqlawqweb ctqlawqweb : Value}
    {fqlawqnext : Addr} {odqlawqnext anqlawqnext : Option Addr} {slqlawqnext : Array (Option Value)} {ocqlawqnext kVqlawqnext dcqlawqnext pmqlawqnext cdqlawqnext ctqlawqnext : Value}
    {fqlawqway : Addr} {odqlawqway anqlawqway : Option Addr} {slqlawqway : Array (Option Value)} {ocqlawqway kVqlawqway dcqlawqway pmqlawqway cdqlawqway ctqlawqway : Value}
    {fqlawqodd : Addr} {odqlawqodd anqlawqodd : Option Addr} {slqlawqodd : Array (Option Value)} {ocqlawqodd kVqlawqodd dcqlawqodd pmqlawqodd cdqlawqodd ctqlawqodd : Value}
    {fqlawqisqroad : Addr} {odqlawqisqroad anqlawqisqroad : Option Addr} {slqlawqisqroad : Array (Option Value)} {ocqlawqisqroad kVqlawqisqroad dcqlawqisqroad pmqlawqisqroad cdqlawqisqroad ctqlawqisqroad : Value}
    {fqlawqisqway : Addr} {odqlawqisqway anqlawqisqway : Option Addr} {slqlawqisqway : Array (Option Value)} {ocqlawqisqway kVqlawqisqway dcqlawqisqway pmqlawqisqway cdqlawqisqway ctqlawqisqway : Value}
    {fqlawqisqlot : Addr} {odqlawqisqlot anqlawqisqlot : Option Addr} {slqlawqisqlot : Array (Option Value)} {ocqlawqisqlot kVqlawqisqlot dcqlawqisqlot pmqlawqisqlot cdqlawqisqlot ctqlawqisqlot : Value}
    {fqlawqrefused : Addr} {odqlawqrefused anqlawqrefused : Option Addr} {slqlawqrefused : Array (Option Value)} {ocqlawqrefused kVqlawqrefused dcqlawqrefused pmqlawqrefused cdqlawqrefused ctqlawqrefused : Value}
    {fqlawqthings : Addr} {odqlawqthings anqlawqthings : Option Addr} {slqlawqthings : Array (Option Value)} {ocqlawqthings kVqlawqthings dcqlawqthings pmqlawqthings cdqlawqthings ctqlawqthings : Value}
    {flaw : Addr} {odlaw anlaw : Option Addr} {sllaw : Array (Option Value)} {oclaw kVlaw dclaw pmlaw cdlaw ctlaw : Value}
    {tMOSTqHOUSES : Tok}
    {tMOSTqROADS : Tok}
    {tMOSTqROOMS : Tok}
    {tLONGESTqTIME : Tok}
    {tLONGESTqWAY : Tok}
    {CWWeb fWWeb : Addr} {odWWeb anWWeb : Option Addr} {slWWeb : Array (Option Value)} {ocWWeb kVWWeb dcWWeb pmWWeb cdWWeb ctWWeb : Value}
    {CXBadWeb fXBadWeb : Addr} {odXBadWeb anXBadWeb : Option Addr} {slXBadWeb : Array (Option Value)} {ocXBadWeb kVXBadWeb dcXBadWeb pmXBadWeb cdXBadWeb ctXBadWeb : Value} {nmXBadWeb qnXBadWeb : Str} {NXBadWeb : Addr} {bsXBadWeb bmXBadWeb : List Value} {snXBadWeb : List Str} {subXBadWeb : List Value} {abXBadWeb : Bool} {colXBadWeb : Option Bool} {ddXBadWeb : Option Addr} {m0XBadWeb m1XBadWeb m2XBadWeb m3XBadWeb m5XBadWeb : Option Value}
    {CXNoRoad fXNoRoad : Addr} {odXNoRoad anXNoRoad : Option Addr} {slXNoRoad : Array (Option Value)} {ocXNoRoad kVXNoRoad dcXNoRoad pmXNoRoad cdXNoRoad ctXNoRoad : Value} {nmXNoRoad qnXNoRoad : Str} {NXNoRoad : Addr} {bsXNoRoad bmXNoRoad : List Value} {snXNoRoad : List Str} {subXNoRoad : List Value} {abXNoRoad : Bool} {colXNoRoad : Option Bool} {ddXNoRoad : Option Addr} {m0XNoRoad m1XNoRoad m2XNoRoad m3XNoRoad m5XNoRoad : Option Value}
    {CHE : Addr}
    (aisqinteger : PySem.W.nsIn K mainGlobals "is_integer" = some (some (.ref fisqinteger)))
    (lisqinteger : K.lookup fisqinteger = some ⟨ocisqinteger, odisqinteger, .func (PySem.W.fnOf "is_integer" "is_integer" (defArgs s_is_integer) (defBody s_is_integer) (defScope s_is_integer) .none kVisqinteger dcisqinteger pmisqinteger anisqinteger cdisqinteger ctisqinteger), slisqinteger⟩)
    (cisqinteger : PySem.W.codeIn K cdisqinteger "is_integer" = true)
    (kisqinteger : PySem.W.keepIn K (.ref fisqinteger) = true)
    (aisqbetween : PySem.W.nsIn K mainGlobals "is_between" = some (some (.ref fisqbetween)))
    (lisqbetween : K.lookup fisqbetween = some ⟨ocisqbetween, odisqbetween, .func (PySem.W.fnOf "is_between" "is_between" (defArgs s_is_between) (defBody s_is_between) (defScope s_is_between) .none kVisqbetween dcisqbetween pmisqbetween anisqbetween cdisqbetween ctisqbetween), slisqbetween⟩)
    (cisqbetween : PySem.W.codeIn K cdisqbetween "is_between" = true)
    (kisqbetween : PySem.W.keepIn K (.ref fisqbetween) = true)
    (aisqtuple : PySem.W.nsIn K mainGlobals "is_tuple" = some (some (.ref fisqtuple)))
    (lisqtuple : K.lookup fisqtuple = some ⟨ocisqtuple, odisqtuple, .func (PySem.W.fnOf "is_tuple" "is_tuple" (defArgs s_is_tuple) (defBody s_is_tuple) (defScope s_is_tuple) .none kVisqtuple dcisqtuple pmisqtuple anisqtuple cdisqtuple ctisqtuple), slisqtuple⟩)
    (cisqtuple : PySem.W.codeIn K cdisqtuple "is_tuple" = true)
    (kisqtuple : PySem.W.keepIn K (.ref fisqtuple) = true)
    (aareqintegers : PySem.W.nsIn K mainGlobals "are_integers" = some (some (.ref fareqintegers)))
    (lareqintegers : K.lookup fareqintegers = some ⟨ocareqintegers, odareqintegers, .func (PySem.W.fnOf "are_integers" "are_integers" (defArgs s_are_integers) (defBody s_are_integers) (defScope s_are_integers) .none kVareqintegers dcareqintegers pmareqintegers anareqintegers cdareqintegers ctareqintegers), slareqintegers⟩)
    (careqintegers : PySem.W.codeIn K cdareqintegers "are_integers" = true)
    (kareqintegers : PySem.W.keepIn K (.ref fareqintegers) = true)
    (aareqbetween : PySem.W.nsIn K mainGlobals "are_between" = some (some (.ref fareqbetween)))
    (lareqbetween : K.lookup fareqbetween = some ⟨ocareqbetween, odareqbetween, .func (PySem.W.fnOf "are_between" "are_between" (defArgs s_are_between) (defBody s_are_between) (defScope s_are_between) .none kVareqbetween dcareqbetween pmareqbetween anareqbetween cdareqbetween ctareqbetween), slareqbetween⟩)
    (careqbetween : PySem.W.codeIn K cdareqbetween "are_between" = true)
    (kareqbetween : PySem.W.keepIn K (.ref fareqbetween) = true)
    (aareqroads : PySem.W.nsIn K mainGlobals "are_roads" = some (some (.ref fareqroads)))
    (lareqroads : K.lookup fareqroads = some ⟨ocareqroads, odareqroads, .func (PySem.W.fnOf "are_roads" "are_roads" (defArgs s_are_roads) (defBody s_are_roads) (defScope s_are_roads) .none kVareqroads dcareqroads pmareqroads anareqroads cdareqroads ctareqroads), slareqroads⟩)
    (careqroads : PySem.W.codeIn K cdareqroads "are_roads" = true)
    (kareqroads : PySem.W.keepIn K (.ref fareqroads) = true)
    (aisqbeginqandqend : PySem.W.nsIn K mainGlobals "is_begin_and_end" = some (some (.ref fisqbeginqandqend)))
    (lisqbeginqandqend : K.lookup fisqbeginqandqend = some ⟨ocisqbeginqandqend, odisqbeginqandqend, .func (PySem.W.fnOf "is_begin_and_end" "is_begin_and_end" (defArgs s_is_begin_and_end) (defBody s_is_begin_and_end) (defScope s_is_begin_and_end) .none kVisqbeginqandqend dcisqbeginqandqend pmisqbeginqandqend anisqbeginqandqend cdisqbeginqandqend ctisqbeginqandqend), slisqbeginqandqend⟩)
    (cisqbeginqandqend : PySem.W.codeIn K cdisqbeginqandqend "is_begin_and_end" = true)
    (kisqbeginqandqend : PySem.W.keepIn K (.ref fisqbeginqandqend) = true)
    (aisqroad : PySem.W.nsIn K mainGlobals "is_road" = some (some (.ref fisqroad)))
    (lisqroad : K.lookup fisqroad = some ⟨ocisqroad, odisqroad, .func (PySem.W.fnOf "is_road" "is_road" (defArgs s_is_road) (defBody s_is_road) (defScope s_is_road) .none kVisqroad dcisqroad pmisqroad anisqroad cdisqroad ctisqroad), slisqroad⟩)
    (cisqroad : PySem.W.codeIn K cdisqroad "is_road" = true)
    (kisqroad : PySem.W.keepIn K (.ref fisqroad) = true)
    (anextqroads : PySem.W.nsIn K mainGlobals "next_roads" = some (some (.ref fnextqroads)))
    (lnextqroads : K.lookup fnextqroads = some ⟨ocnextqroads, odnextqroads, .func (PySem.W.fnOf "next_roads" "next_roads" (defArgs s_next_roads) (defBody s_next_roads) (defScope s_next_roads) .none kVnextqroads dcnextqroads pmnextqroads annextqroads cdnextqroads ctnextqroads), slnextqroads⟩)
    (cnextqroads : PySem.W.codeIn K cdnextqroads "next_roads" = true)
    (knextqroads : PySem.W.keepIn K (.ref fnextqroads) = true)
    (aisqway : PySem.W.nsIn K mainGlobals "is_way" = some (some (.ref fisqway)))
    (lisqway : K.lookup fisqway = some ⟨ocisqway, odisqway, .func (PySem.W.fnOf "is_way" "is_way" (defArgs s_is_way) (defBody s_is_way) (defScope s_is_way) .none kVisqway dcisqway pmisqway anisqway cdisqway ctisqway), slisqway⟩)
    (cisqway : PySem.W.codeIn K cdisqway "is_way" = true)
    (kisqway : PySem.W.keepIn K (.ref fisqway) = true)
    (aisqlot : PySem.W.nsIn K mainGlobals "is_lot" = some (some (.ref fisqlot)))
    (lisqlot : K.lookup fisqlot = some ⟨ocisqlot, odisqlot, .func (PySem.W.fnOf "is_lot" "is_lot" (defArgs s_is_lot) (defBody s_is_lot) (defScope s_is_lot) .none kVisqlot dcisqlot pmisqlot anisqlot cdisqlot ctisqlot), slisqlot⟩)
    (cisqlot : PySem.W.codeIn K cdisqlot "is_lot" = true)
    (kisqlot : PySem.W.keepIn K (.ref fisqlot) = true)
    (aqlawqhand : PySem.W.nsIn K mainGlobals "_law_hand" = some (some (.ref fqlawqhand)))
    (lqlawqhand : K.lookup fqlawqhand = some ⟨ocqlawqhand, odqlawqhand, .func (PySem.W.fnOf "_law_hand" "_law_hand" (defArgs s_law_hand) (defBody s_law_hand) (defScope s_law_hand) .none kVqlawqhand dcqlawqhand pmqlawqhand anqlawqhand cdqlawqhand ctqlawqhand), slqlawqhand⟩)
    (cqlawqhand : PySem.W.codeIn K cdqlawqhand "_law_hand" = true)
    (kqlawqhand : PySem.W.keepIn K (.ref fqlawqhand) = true)
    (aqlawqdraw : PySem.W.nsIn K mainGlobals "_law_draw" = some (some (.ref fqlawqdraw)))
    (lqlawqdraw : K.lookup fqlawqdraw = some ⟨ocqlawqdraw, odqlawqdraw, .func (PySem.W.fnOf "_law_draw" "_law_draw" (defArgs s_law_draw) (defBody s_law_draw) (defScope s_law_draw) .none kVqlawqdraw dcqlawqdraw pmqlawqdraw anqlawqdraw cdqlawqdraw ctqlawqdraw), slqlawqdraw⟩)
    (cqlawqdraw : PySem.W.codeIn K cdqlawqdraw "_law_draw" = true)
    (kqlawqdraw : PySem.W.keepIn K (.ref fqlawqdraw) = true)
    (aqlawqcounts : PySem.W.nsIn K mainGlobals "_law_counts" = some (some (.ref fqlawqcounts)))
    (lqlawqcounts : K.lookup fqlawqcounts = some ⟨ocqlawqcounts, odqlawqcounts, .func (PySem.W.fnOf "_law_counts" "_law_counts" (defArgs s_law_counts) (defBody s_law_counts) (defScope s_law_counts) .none kVqlawqcounts dcqlawqcounts pmqlawqcounts anqlawqcounts cdqlawqcounts ctqlawqcounts), slqlawqcounts⟩)
    (cqlawqcounts : PySem.W.codeIn K cdqlawqcounts "_law_counts" = true)
    (kqlawqcounts : PySem.W.keepIn K (.ref fqlawqcounts) = true)
    (aqlawqweb : PySem.W.nsIn K mainGlobals "_law_web" = some (some (.ref fqlawqweb)))
    (lqlawqweb : K.lookup fqlawqweb = some ⟨ocqlawqweb, odqlawqweb, .func (PySem.W.fnOf "_law_web" "_law_web" (defArgs s_law_web) (defBody s_law_web) (defScope s_law_web) .none kVqlawqweb dcqlawqweb pmqlawqweb anqlawqweb cdqlawqweb ctqlawqweb), slqlawqweb⟩)
    (cqlawqweb : PySem.W.codeIn K cdqlawqweb "_law_web" = true)
    (kqlawqweb : PySem.W.keepIn K (.ref fqlawqweb) = true)
    (aqlawqnext : PySem.W.nsIn K mainGlobals "_law_next" = some (some (.ref fqlawqnext)))
    (lqlawqnext : K.lookup fqlawqnext = some ⟨ocqlawqnext, odqlawqnext, .func (PySem.W.fnOf "_law_next" "_law_next" (defArgs s_law_next) (defBody s_law_next) (defScope s_law_next) .none kVqlawqnext dcqlawqnext pmqlawqnext anqlawqnext cdqlawqnext ctqlawqnext), slqlawqnext⟩)
    (cqlawqnext : PySem.W.codeIn K cdqlawqnext "_law_next" = true)
    (kqlawqnext : PySem.W.keepIn K (.ref fqlawqnext) = true)
    (aqlawqway : PySem.W.nsIn K mainGlobals "_law_way" = some (some (.ref fqlawqway)))
    (lqlawqway : K.lookup fqlawqway = some ⟨ocqlawqway, odqlawqway, .func (PySem.W.fnOf "_law_way" "_law_way" (defArgs s_law_way) (defBody s_law_way) (defScope s_law_way) .none kVqlawqway dcqlawqway pmqlawqway anqlawqway cdqlawqway ctqlawqway), slqlawqway⟩)
    (cqlawqway : PySem.W.codeIn K cdqlawqway "_law_way" = true)
    (kqlawqway : PySem.W.keepIn K (.ref fqlawqway) = true)
    (aqlawqodd : PySem.W.nsIn K mainGlobals "_law_odd" = some (some (.ref fqlawqodd)))
    (lqlawqodd : K.lookup fqlawqodd = some ⟨ocqlawqodd, odqlawqodd, .func (PySem.W.fnOf "_law_odd" "_law_odd" (defArgs s_law_odd) (defBody s_law_odd) (defScope s_law_odd) .none kVqlawqodd dcqlawqodd pmqlawqodd anqlawqodd cdqlawqodd ctqlawqodd), slqlawqodd⟩)
    (cqlawqodd : PySem.W.codeIn K cdqlawqodd "_law_odd" = true)
    (kqlawqodd : PySem.W.keepIn K (.ref fqlawqodd) = true)
    (aqlawqisqroad : PySem.W.nsIn K mainGlobals "_law_is_road" = some (some (.ref fqlawqisqroad)))
    (lqlawqisqroad : K.lookup fqlawqisqroad = some ⟨ocqlawqisqroad, odqlawqisqroad, .func (PySem.W.fnOf "_law_is_road" "_law_is_road" (defArgs s_law_is_road) (defBody s_law_is_road) (defScope s_law_is_road) .none kVqlawqisqroad dcqlawqisqroad pmqlawqisqroad anqlawqisqroad cdqlawqisqroad ctqlawqisqroad), slqlawqisqroad⟩)
    (cqlawqisqroad : PySem.W.codeIn K cdqlawqisqroad "_law_is_road" = true)
    (kqlawqisqroad : PySem.W.keepIn K (.ref fqlawqisqroad) = true)
    (aqlawqisqway : PySem.W.nsIn K mainGlobals "_law_is_way" = some (some (.ref fqlawqisqway)))
    (lqlawqisqway : K.lookup fqlawqisqway = some ⟨ocqlawqisqway, odqlawqisqway, .func (PySem.W.fnOf "_law_is_way" "_law_is_way" (defArgs s_law_is_way) (defBody s_law_is_way) (defScope s_law_is_way) .none kVqlawqisqway dcqlawqisqway pmqlawqisqway anqlawqisqway cdqlawqisqway ctqlawqisqway), slqlawqisqway⟩)
    (cqlawqisqway : PySem.W.codeIn K cdqlawqisqway "_law_is_way" = true)
    (kqlawqisqway : PySem.W.keepIn K (.ref fqlawqisqway) = true)
    (aqlawqisqlot : PySem.W.nsIn K mainGlobals "_law_is_lot" = some (some (.ref fqlawqisqlot)))
    (lqlawqisqlot : K.lookup fqlawqisqlot = some ⟨ocqlawqisqlot, odqlawqisqlot, .func (PySem.W.fnOf "_law_is_lot" "_law_is_lot" (defArgs s_law_is_lot) (defBody s_law_is_lot) (defScope s_law_is_lot) .none kVqlawqisqlot dcqlawqisqlot pmqlawqisqlot anqlawqisqlot cdqlawqisqlot ctqlawqisqlot), slqlawqisqlot⟩)
    (cqlawqisqlot : PySem.W.codeIn K cdqlawqisqlot "_law_is_lot" = true)
    (kqlawqisqlot : PySem.W.keepIn K (.ref fqlawqisqlot) = true)
    (aqlawqrefused : PySem.W.nsIn K mainGlobals "_law_refused" = some (some (.ref fqlawqrefused)))
    (lqlawqrefused : K.lookup fqlawqrefused = some ⟨ocqlawqrefused, odqlawqrefused, .func (PySem.W.fnOf "_law_refused" "_law_refused" (defArgs s_law_refused) (defBody s_law_refused) (defScope s_law_refused) .none kVqlawqrefused dcqlawqrefused pmqlawqrefused anqlawqrefused cdqlawqrefused ctqlawqrefused), slqlawqrefused⟩)
    (cqlawqrefused : PySem.W.codeIn K cdqlawqrefused "_law_refused" = true)
    (kqlawqrefused : PySem.W.keepIn K (.ref fqlawqrefused) = true)
    (aqlawqthings : PySem.W.nsIn K mainGlobals "_law_things" = some (some (.ref fqlawqthings)))
    (lqlawqthings : K.lookup fqlawqthings = some ⟨ocqlawqthings, odqlawqthings, .func (PySem.W.fnOf "_law_things" "_law_things" (defArgs s_law_things) (defBody s_law_things) (defScope s_law_things) .none kVqlawqthings dcqlawqthings pmqlawqthings anqlawqthings cdqlawqthings ctqlawqthings), slqlawqthings⟩)
    (cqlawqthings : PySem.W.codeIn K cdqlawqthings "_law_things" = true)
    (kqlawqthings : PySem.W.keepIn K (.ref fqlawqthings) = true)
    (alaw : PySem.W.nsIn K mainGlobals "law" = some (some (.ref flaw)))
    (llaw : K.lookup flaw = some ⟨oclaw, odlaw, .func (PySem.W.fnOf "law" "law" (defArgs s_law) (defBody s_law) (defScope s_law) .none kVlaw dclaw pmlaw anlaw cdlaw ctlaw), sllaw⟩)
    (claw : PySem.W.codeIn K cdlaw "law" = true)
    (klaw : PySem.W.keepIn K (.ref flaw) = true)
    (aMOSTqHOUSES : PySem.W.nsIn K mainGlobals "MOST_HOUSES" = some (some (.int 12 tMOSTqHOUSES)))
    (aMOSTqROADS : PySem.W.nsIn K mainGlobals "MOST_ROADS" = some (some (.int 24 tMOSTqROADS)))
    (aMOSTqROOMS : PySem.W.nsIn K mainGlobals "MOST_ROOMS" = some (some (.int 3 tMOSTqROOMS)))
    (aLONGESTqTIME : PySem.W.nsIn K mainGlobals "LONGEST_TIME" = some (some (.int 3 tLONGESTqTIME)))
    (aLONGESTqWAY : PySem.W.nsIn K mainGlobals "LONGEST_WAY" = some (some (.int 8 tLONGESTqWAY)))
    (aWWeb : PySem.W.nsIn K mainGlobals "Web" = some (some (.ref CWWeb)))
    (iWWeb : PySem.W.findIn K (.ref CWWeb) "__init__" = some (some (.ref fWWeb)))
    (yWWeb : PySem.W.isFn K (.ref fWWeb) = true)
    (lWWeb : K.lookup fWWeb = some ⟨ocWWeb, odWWeb, .func (PySem.W.fnOf "__init__" "Web.__init__" (defArgs s_Web___init) (defBody s_Web___init) (defScope s_Web___init) .none kVWWeb dcWWeb pmWWeb anWWeb cdWWeb ctWWeb), slWWeb⟩)
    (cWWeb : PySem.W.codeIn K cdWWeb "Web.__init__" = true)
    (kWWeb : PySem.W.keepIn K (.ref fWWeb) = true)
    (pgWWeb : PySem.W.plainGet K CWWeb Str.empty = true)
    (hdWWeb : PySem.W.hasDictIn K CWWeb = true)
    (poWWeb : PySem.W.plainOver K CWWeb = true)
    (saWWeb : PySem.W.findIn K (.ref CWWeb) "__setattr__" = some (some (.builtin "object.__setattr__")))
    (mkWWeb : PySem.W.makesIn K CWWeb = true)
    (kcWWeb : PySem.W.keepIn K (.ref CWWeb) = true)
    (naWWebhouses : PySem.W.findIn K (.ref CWWeb) "houses" = some none)
    (naWWebroads : PySem.W.findIn K (.ref CWWeb) "roads" = some none)
    (naWWebrooms : PySem.W.findIn K (.ref CWWeb) "rooms" = some none)
    (naWWebtimes : PySem.W.findIn K (.ref CWWeb) "times" = some none)
    (aXBadWeb : PySem.W.nsIn K mainGlobals "BadWeb" = some (some (.ref CXBadWeb)))
    (xXBadWeb : K.lookup CXBadWeb = some (excClassObj nmXBadWeb qnXBadWeb CXBadWeb NXBadWeb bsXBadWeb bmXBadWeb true snXBadWeb subXBadWeb abXBadWeb colXBadWeb ddXBadWeb m0XBadWeb m1XBadWeb m2XBadWeb m3XBadWeb m5XBadWeb "ValueError.__new__"))
    (bmXBadWebo : PySem.HandSPX.refsVE bmXBadWeb = true)
    (saXBadWeb : PySem.W.findIn K (.ref CXBadWeb) "__setattr__" = some (some (.builtin "object.__setattr__")))
    (gaXBadWeb : PySem.W.findIn K (.ref CXBadWeb) "__getattribute__" = some (some (.builtin "BaseException.__getattribute__")))
    (ggXBadWeb : PySem.W.findIn K (.ref CXBadWeb) "__getattr__" = some none)
    (iXBadWeb : PySem.W.findIn K (.ref CXBadWeb) "__init__" = some (some (.ref fXBadWeb)))
    (yXBadWeb : PySem.W.typeIn K (.ref fXBadWeb) = some (.type "function"))
    (lXBadWeb : K.lookup fXBadWeb = some ⟨ocXBadWeb, odXBadWeb, .func (PySem.W.fnOf "__init__" "BadWeb.__init__" (defArgs s_BadWeb___init) (defBody s_BadWeb___init) (defScope s_BadWeb___init) .none kVXBadWeb dcXBadWeb pmXBadWeb anXBadWeb cdXBadWeb ctXBadWeb), slXBadWeb⟩)
    (cXBadWeb : PySem.W.codeIn K cdXBadWeb "BadWeb.__init__" = true)
    (kXBadWeb : PySem.W.keepIn K (.ref fXBadWeb) = true)
    (kcXBadWeb : PySem.W.keepIn K (.ref CXBadWeb) = true)
    (exXBadWeb : PySem.W.subIn K (.ref CXBadWeb) (.type "BaseException") = some true)
    (tyXBadWeb : PySem.W.typeIn K (.ref CXBadWeb) = some (.type "type"))
    (hdXBadWeb : PySem.W.hasDictIn K CXBadWeb = true)
    (icXBadWeb : PySem.W.isClsIn K CXBadWeb = true)
    (suXBadWeb : PySem.W.subIn K (.ref CXBadWeb) (.ref CXBadWeb) = some true)
    (naXBadWebpart : PySem.W.findIn K (.ref CXBadWeb) "part" = some none)
    (aXNoRoad : PySem.W.nsIn K mainGlobals "NoRoad" = some (some (.ref CXNoRoad)))
    (xXNoRoad : K.lookup CXNoRoad = some (excClassObj nmXNoRoad qnXNoRoad CXNoRoad NXNoRoad bsXNoRoad bmXNoRoad true snXNoRoad subXNoRoad abXNoRoad colXNoRoad ddXNoRoad m0XNoRoad m1XNoRoad m2XNoRoad m3XNoRoad m5XNoRoad "ValueError.__new__"))
    (bmXNoRoado : PySem.HandSPX.refsVE bmXNoRoad = true)
    (saXNoRoad : PySem.W.findIn K (.ref CXNoRoad) "__setattr__" = some (some (.builtin "object.__setattr__")))
    (gaXNoRoad : PySem.W.findIn K (.ref CXNoRoad) "__getattribute__" = some (some (.builtin "BaseException.__getattribute__")))
    (ggXNoRoad : PySem.W.findIn K (.ref CXNoRoad) "__getattr__" = some none)
    (iXNoRoad : PySem.W.findIn K (.ref CXNoRoad) "__init__" = some (some (.ref fXNoRoad)))
    (yXNoRoad : PySem.W.typeIn K (.ref fXNoRoad) = some (.type "function"))
    (lXNoRoad : K.lookup fXNoRoad = some ⟨ocXNoRoad, odXNoRoad, .func (PySem.W.fnOf "__init__" "NoRoad.__init__" (defArgs s_NoRoad___init) (defBody s_NoRoad___init) (defScope s_NoRoad___init) .none kVXNoRoad dcXNoRoad pmXNoRoad anXNoRoad cdXNoRoad ctXNoRoad), slXNoRoad⟩)
    (cXNoRoad : PySem.W.codeIn K cdXNoRoad "NoRoad.__init__" = true)
    (kXNoRoad : PySem.W.keepIn K (.ref fXNoRoad) = true)
    (kcXNoRoad : PySem.W.keepIn K (.ref CXNoRoad) = true)
    (exXNoRoad : PySem.W.subIn K (.ref CXNoRoad) (.type "BaseException") = some true)
    (tyXNoRoad : PySem.W.typeIn K (.ref CXNoRoad) = some (.type "type"))
    (hdXNoRoad : PySem.W.hasDictIn K CXNoRoad = true)
    (icXNoRoad : PySem.W.isClsIn K CXNoRoad = true)
    (suXNoRoad : PySem.W.subIn K (.ref CXNoRoad) (.ref CXNoRoad) = some true)
    (aHE : PySem.W.nsIn K mainGlobals "HourError" = some (some (.ref CHE)))
    (kHE1 : PySem.W.kitOne K (.ref CXNoRoad) (.ref CHE) = some true)
    (kHE2 : PySem.W.kitOne K (.ref CXNoRoad) (.type "ValueError") = some true)
    (haHE : PySem.W.findIn K (.ref CXNoRoad) "__class__" = some (some (.builtin "object.__class__")))
    (hnHE : PySem.W.specialIn K (.builtin "object.__class__") "__get__" = some (some (.builtin "getset_descriptor.__get__")))
    (htHE : PySem.W.takesIn K (.builtin "object.__class__") = some true)
    (hmHE : PySem.W.mroIn K CXNoRoad (.type "object") = some true)
    (anqisinstance : PySem.W.nsIn K mainGlobals "isinstance" = some none)
    (anqint : PySem.W.nsIn K mainGlobals "int" = some none)
    (anqbool : PySem.W.nsIn K mainGlobals "bool" = some none)
    (anqtuple : PySem.W.nsIn K mainGlobals "tuple" = some none)
    (anqlen : PySem.W.nsIn K mainGlobals "len" = some none)
    (anqall : PySem.W.nsIn K mainGlobals "all" = some none)
    (anqabs : PySem.W.nsIn K mainGlobals "abs" = some none)
    (anqrange : PySem.W.nsIn K mainGlobals "range" = some none)
    (anqlist : PySem.W.nsIn K mainGlobals "list" = some none)
    (anqzip : PySem.W.nsIn K mainGlobals "zip" = some none)
    (anqenumerate : PySem.W.nsIn K mainGlobals "enumerate" = some none)
    (anqset : PySem.W.nsIn K mainGlobals "set" = some none)
    (anqsorted : PySem.W.nsIn K mainGlobals "sorted" = some none)
    (anqValueError : PySem.W.nsIn K mainGlobals "ValueError" = some none) :
    ∃ T : Tx K mg, ∀ (s : Shared) (v : Value), BindsTo s T.law.fd ⟨[v], []⟩ [("_law_script", v)] := by
  refine ⟨{
    is_integer := ⟨fisqinteger, _, fun_mk (st := s_is_integer) lisqinteger cisqinteger kisqinteger, PySem.W.mg_of X G aisqinteger, (fun_mk (st := s_is_integer) lisqinteger cisqinteger kisqinteger).binds (fun _ _ _ _ _ _ us hl => match us, hl with | [_], _ => rfl)⟩
    is_between := ⟨fisqbetween, _, fun_mk (st := s_is_between) lisqbetween cisqbetween kisqbetween, PySem.W.mg_of X G aisqbetween, (fun_mk (st := s_is_between) lisqbetween cisqbetween kisqbetween).binds (fun _ _ _ _ _ _ us hl => match us, hl with | [_, _, _], _ => rfl)⟩
    is_tuple := ⟨fisqtuple, _, fun_mk (st := s_is_tuple) lisqtuple cisqtuple kisqtuple, PySem.W.mg_of X G aisqtuple, (fun_mk (st := s_is_tuple) lisqtuple cisqtuple kisqtuple).binds (fun _ _ _ _ _ _ us hl => match us, hl with | [_, _], _ => rfl)⟩
    are_integers := ⟨fareqintegers, _, fun_mk (st := s_are_integers) lareqintegers careqintegers kareqintegers, PySem.W.mg_of X G aareqintegers, (fun_mk (st := s_are_integers) lareqintegers careqintegers kareqintegers).binds (fun _ _ _ _ _ _ us hl => match us, hl with | [_, _], _ => rfl)⟩
    are_between := ⟨fareqbetween, _, fun_mk (st := s_are_between) lareqbetween careqbetween kareqbetween, PySem.W.mg_of X G aareqbetween, (fun_mk (st := s_are_between) lareqbetween careqbetween kareqbetween).binds (fun _ _ _ _ _ _ us hl => match us, hl with | [_, _, _, _], _ => rfl)⟩
    are_roads := ⟨fareqroads, _, fun_mk (st := s_are_roads) lareqroads careqroads kareqroads, PySem.W.mg_of X G aareqroads, (fun_mk (st := s_are_roads) lareqroads careqroads kareqroads).binds (fun _ _ _ _ _ _ us hl => match us, hl with | [_, _], _ => rfl)⟩
    is_begin_and_end := ⟨fisqbeginqandqend, _, fun_mk (st := s_is_begin_and_end) lisqbeginqandqend cisqbeginqandqend kisqbeginqandqend, PySem.W.mg_of X G aisqbeginqandqend, (fun_mk (st := s_is_begin_and_end) lisqbeginqandqend cisqbeginqandqend kisqbeginqandqend).binds (fun _ _ _ _ _ _ us hl => match us, hl with | [_, _], _ => rfl)⟩
    is_road := ⟨fisqroad, _, fun_mk (st := s_is_road) lisqroad cisqroad kisqroad, PySem.W.mg_of X G aisqroad, (fun_mk (st := s_is_road) lisqroad cisqroad kisqroad).binds (fun _ _ _ _ _ _ us hl => match us, hl with | [_, _], _ => rfl)⟩
    next_roads := ⟨fnextqroads, _, fun_mk (st := s_next_roads) lnextqroads cnextqroads knextqroads, PySem.W.mg_of X G anextqroads, (fun_mk (st := s_next_roads) lnextqroads cnextqroads knextqroads).binds (fun _ _ _ _ _ _ us hl => match us, hl with | [_, _], _ => rfl)⟩
    is_way := ⟨fisqway, _, fun_mk (st := s_is_way) lisqway cisqway kisqway, PySem.W.mg_of X G aisqway, (fun_mk (st := s_is_way) lisqway cisqway kisqway).binds (fun _ _ _ _ _ _ us hl => match us, hl with | [_, _], _ => rfl)⟩
    is_lot := ⟨fisqlot, _, fun_mk (st := s_is_lot) lisqlot cisqlot kisqlot, PySem.W.mg_of X G aisqlot, (fun_mk (st := s_is_lot) lisqlot cisqlot kisqlot).binds (fun _ _ _ _ _ _ us hl => match us, hl with | [_, _], _ => rfl)⟩
    _law_hand := ⟨fqlawqhand, _, fun_mk (st := s_law_hand) lqlawqhand cqlawqhand kqlawqhand, PySem.W.mg_of X G aqlawqhand, (fun_mk (st := s_law_hand) lqlawqhand cqlawqhand kqlawqhand).binds (fun _ _ _ _ _ _ us hl => match us, hl with | [_], _ => rfl)⟩
    _law_draw := ⟨fqlawqdraw, _, fun_mk (st := s_law_draw) lqlawqdraw cqlawqdraw kqlawqdraw, PySem.W.mg_of X G aqlawqdraw, (fun_mk (st := s_law_draw) lqlawqdraw cqlawqdraw kqlawqdraw).binds (fun _ _ _ _ _ _ us hl => match us, hl with | [_, _], _ => rfl)⟩
    _law_counts := ⟨fqlawqcounts, _, fun_mk (st := s_law_counts) lqlawqcounts cqlawqcounts kqlawqcounts, PySem.W.mg_of X G aqlawqcounts, (fun_mk (st := s_law_counts) lqlawqcounts cqlawqcounts kqlawqcounts).binds (fun _ _ _ _ _ _ us hl => match us, hl with | [_, _], _ => rfl)⟩
    _law_web := ⟨fqlawqweb, _, fun_mk (st := s_law_web) lqlawqweb cqlawqweb kqlawqweb, PySem.W.mg_of X G aqlawqweb, (fun_mk (st := s_law_web) lqlawqweb cqlawqweb kqlawqweb).binds (fun _ _ _ _ _ _ us hl => match us, hl with | [_, _, _], _ => rfl)⟩
    _law_next := ⟨fqlawqnext, _, fun_mk (st := s_law_next) lqlawqnext cqlawqnext kqlawqnext, PySem.W.mg_of X G aqlawqnext, (fun_mk (st := s_law_next) lqlawqnext cqlawqnext kqlawqnext).binds (fun _ _ _ _ _ _ us hl => match us, hl with | [_, _], _ => rfl)⟩
    _law_way := ⟨fqlawqway, _, fun_mk (st := s_law_way) lqlawqway cqlawqway kqlawqway, PySem.W.mg_of X G aqlawqway, (fun_mk (st := s_law_way) lqlawqway cqlawqway kqlawqway).binds (fun _ _ _ _ _ _ us hl => match us, hl with | [_, _, _], _ => rfl)⟩
    _law_odd := ⟨fqlawqodd, _, fun_mk (st := s_law_odd) lqlawqodd cqlawqodd kqlawqodd, PySem.W.mg_of X G aqlawqodd, (fun_mk (st := s_law_odd) lqlawqodd cqlawqodd kqlawqodd).binds (fun _ _ _ _ _ _ us hl => match us, hl with | [_], _ => rfl)⟩
    _law_is_road := ⟨fqlawqisqroad, _, fun_mk (st := s_law_is_road) lqlawqisqroad cqlawqisqroad kqlawqisqroad, PySem.W.mg_of X G aqlawqisqroad, (fun_mk (st := s_law_is_road) lqlawqisqroad cqlawqisqroad kqlawqisqroad).binds (fun _ _ _ _ _ _ us hl => match us, hl with | [_, _], _ => rfl)⟩
    _law_is_way := ⟨fqlawqisqway, _, fun_mk (st := s_law_is_way) lqlawqisqway cqlawqisqway kqlawqisqway, PySem.W.mg_of X G aqlawqisqway, (fun_mk (st := s_law_is_way) lqlawqisqway cqlawqisqway kqlawqisqway).binds (fun _ _ _ _ _ _ us hl => match us, hl with | [_, _], _ => rfl)⟩
    _law_is_lot := ⟨fqlawqisqlot, _, fun_mk (st := s_law_is_lot) lqlawqisqlot cqlawqisqlot kqlawqisqlot, PySem.W.mg_of X G aqlawqisqlot, (fun_mk (st := s_law_is_lot) lqlawqisqlot cqlawqisqlot kqlawqisqlot).binds (fun _ _ _ _ _ _ us hl => match us, hl with | [_, _], _ => rfl)⟩
    _law_refused := ⟨fqlawqrefused, _, fun_mk (st := s_law_refused) lqlawqrefused cqlawqrefused kqlawqrefused, PySem.W.mg_of X G aqlawqrefused, (fun_mk (st := s_law_refused) lqlawqrefused cqlawqrefused kqlawqrefused).binds (fun _ _ _ _ _ _ us hl => match us, hl with | [_, _], _ => rfl)⟩
    _law_things := ⟨fqlawqthings, _, fun_mk (st := s_law_things) lqlawqthings cqlawqthings kqlawqthings, PySem.W.mg_of X G aqlawqthings, (fun_mk (st := s_law_things) lqlawqthings cqlawqthings kqlawqthings).binds (fun _ _ _ _ _ _ us hl => match us, hl with | [_, _], _ => rfl)⟩
    law := ⟨flaw, _, fun_mk (st := s_law) llaw claw klaw, PySem.W.mg_of X G alaw, (fun_mk (st := s_law) llaw claw klaw).binds (fun _ _ _ _ _ _ us hl => match us, hl with | [_], _ => rfl)⟩
    c_MOST_HOUSES := ⟨_, PySem.W.mg_of X G aMOSTqHOUSES⟩
    c_MOST_ROADS := ⟨_, PySem.W.mg_of X G aMOSTqROADS⟩
    c_MOST_ROOMS := ⟨_, PySem.W.mg_of X G aMOSTqROOMS⟩
    c_LONGEST_TIME := ⟨_, PySem.W.mg_of X G aLONGESTqTIME⟩
    c_LONGEST_WAY := ⟨_, PySem.W.mg_of X G aLONGESTqWAY⟩
    Web := ⟨CWWeb, fWWeb, _, fun_mk (st := s_Web___init) lWWeb cWWeb kWWeb, PySem.W.mg_of X G aWWeb, (fun_mk (st := s_Web___init) lWWeb cWWeb kWWeb).binds (fun _ _ _ _ _ _ us hl => match us, hl with | [_, _, _, _, _], _ => rfl), ⟨mkWWeb, iWWeb, yWWeb, kcWWeb⟩, ⟨pgWWeb, hdWWeb, poWWeb, saWWeb⟩, by intro x hx; simp only [List.mem_cons, List.not_mem_nil, or_false] at hx; rcases hx with rfl | rfl | rfl | rfl <;> assumption⟩
    x_BadWeb := ⟨CXBadWeb, fXBadWeb, _, fun_mk (st := s_BadWeb___init) lXBadWeb cXBadWeb kXBadWeb, PySem.W.mg_of X G aXBadWeb, (fun_mk (st := s_BadWeb___init) lXBadWeb cXBadWeb kXBadWeb).binds (fun _ _ _ _ _ _ us hl => match us, hl with | [_, _], _ => rfl), ⟨⟨_, _, _, _, _, _, _, _, _, _, _, _, _, _, _, xXBadWeb, bmXBadWebo⟩, saXBadWeb, exXBadWeb, tyXBadWeb, kcXBadWeb⟩, iXBadWeb, yXBadWeb, ⟨gaXBadWeb, ggXBadWeb, exXBadWeb, hdXBadWeb⟩, exm_self exXBadWeb icXBadWeb tyXBadWeb suXBadWeb, (fun x hx => by simp only [List.mem_cons, List.not_mem_nil, or_false] at hx; rcases hx with rfl <;> assumption)⟩
    x_NoRoad := ⟨CXNoRoad, fXNoRoad, _, fun_mk (st := s_NoRoad___init) lXNoRoad cXNoRoad kXNoRoad, PySem.W.mg_of X G aXNoRoad, (fun_mk (st := s_NoRoad___init) lXNoRoad cXNoRoad kXNoRoad).binds (fun _ _ _ _ _ _ us hl => match us, hl with | [_], _ => rfl), ⟨⟨_, _, _, _, _, _, _, _, _, _, _, _, _, _, _, xXNoRoad, bmXNoRoado⟩, saXNoRoad, exXNoRoad, tyXNoRoad, kcXNoRoad⟩, iXNoRoad, yXNoRoad, ⟨gaXNoRoad, ggXNoRoad, exXNoRoad, hdXNoRoad⟩, exm_self exXNoRoad icXNoRoad tyXNoRoad suXNoRoad, (fun x hx => nomatch hx)⟩
    he := ⟨CHE, PySem.W.mg_of X G aHE, kHE1, kHE2, ⟨gaXNoRoad, ggXNoRoad, exXNoRoad, hdXNoRoad, haHE, hnHE, htHE, hmHE⟩⟩
    n_isinstance := PySem.W.mg_none_of X G anqisinstance
    n_int := PySem.W.mg_none_of X G anqint
    n_bool := PySem.W.mg_none_of X G anqbool
    n_tuple := PySem.W.mg_none_of X G anqtuple
    n_len := PySem.W.mg_none_of X G anqlen
    n_all := PySem.W.mg_none_of X G anqall
    n_abs := PySem.W.mg_none_of X G anqabs
    n_range := PySem.W.mg_none_of X G anqrange
    n_list := PySem.W.mg_none_of X G anqlist
    n_zip := PySem.W.mg_none_of X G anqzip
    n_enumerate := PySem.W.mg_none_of X G anqenumerate
    n_set := PySem.W.mg_none_of X G anqset
    n_sorted := PySem.W.mg_none_of X G anqsorted
    n_ValueError := PySem.W.mg_none_of X G anqValueError
  }, fun s v => .of_eq rfl⟩

theorem fin {l : PySem.W.OpenLaw} {w : World} {K : PySem.W.Frag} {mg : Str → Option Value} {fa : Addr} (hfa : mg "law" = some (.ref fa)) (h : ∃ T : Tx K mg, ∀ (s : Shared) (v : Value), BindsTo s T.law.fd ⟨[v], []⟩ [("_law_script", v)]) :
    ∃ fd : FuncData, (∀ (s : Shared) (v : Value), BindsTo s fd ⟨[v], []⟩ [("_law_script", v)]) ∧ ∀ base : Heap, K.In base → base.Ns mainGlobals mg → FnOk l.prog w K mg base CX0 9 fa fd ["_law_script"] (spLaw K) := by
  obtain ⟨T, b⟩ := h
  have e := hfa.symm.trans T.law.g
  cases e
  exact ⟨T.law.fd, b, fun base _ _ => ok_law T⟩
theorem walk {l : PySem.W.OpenLaw} {q : Program} {loose : List Str} {XP : (Str → Option Value) → Heap → Prop} {YP : World → Heap → Prop} {d : DefRec} {K : Params → PySem.W.Frag} (hn : l.most = some 63) (hdf : d.params.defaults = [])
    (hY : ∀ (w : World) (h : Heap), YP w h → (K w.params).In h)
    (F : ∀ (w : World) (mg : Str → Option Value) (fa : Addr) (h : Heap), (K w.params).In h → h.Ns mainGlobals mg → mg d.name = some (.ref fa) →
      ∃ fd : FuncData, (∀ (s : Shared) (u : Value), BindsTo s fd ⟨[u], []⟩ [("_law_script", u)]) ∧ ∀ base : Heap, (K w.params).In base → base.Ns mainGlobals mg → FnOk l.prog w (K w.params) mg base CX0 9 fa fd ["_law_script"] (spLaw (K w.params))) :
    PySem.W.WalkO q loose XP YP l.row.toRowW d [] (fun f vs => PySem.call f vs) :=
  L2.walk_of (n := 63) (k := 9) (x := "_law_script") (CX := fun _ => CX0) (sp := fun w => spLaw (K w.params)) hn (by decide) hdf ⟨rfl, by decide, by decide⟩ hY F (fun _ _ a ns hl _ hS => ⟨a, ns, rfl, hS, hl, fun _ => rfl⟩) fun _ _ _ _ _ z => z
end Hc

set_option Elab.async false
set_option linter.all false
open PySem PySem.W PyProof.Rows
set_option maxRecDepth 100000 in
set_option maxHeartbeats 0 in
theorem PySem.Challenge.cw_hourcards_k02_roads_ways_and_lots_holds : PySem.Challenge.rw_hourcards_k02_roads_ways_and_lots.Holds := by
  w_on; o_law; k_head; (case hw => w_witness2)
  k_fill
  refine Hc.walk (l := PySem.Challenge.rw_hourcards_k02_roads_ways_and_lots) rfl rfl (fun w h Y => PySem.W.kIn_of Y) ?F
  case F =>
    intro w mg fa h KX G hmg
    refine Hc.fin hmg ?T
    refine' Hc.tx_mk KX G ?aisqinteger ?lisqinteger ?cisqinteger ?kisqinteger ?aisqbetween ?lisqbetween ?cisqbetween ?kisqbetween ?aisqtuple ?lisqtuple ?cisqtuple ?kisqtuple ?aareqintegers ?lareqintegers ?careqintegers ?kareqintegers ?aareqbetween ?lareqbetween ?careqbetween ?kareqbetween ?aareqroads ?lareqroads ?careqroads ?kareqroads ?aisqbeginqandqend ?lisqbeginqandqend ?cisqbeginqandqend ?kisqbeginqandqend ?aisqroad ?lisqroad ?cisqroad ?kisqroad ?anextqroads ?lnextqroads ?cnextqroads ?knextqroads ?aisqway ?lisqway ?cisqway ?kisqway ?aisqlot ?lisqlot ?cisqlot ?kisqlot ?aqlawqhand ?lqlawqhand ?cqlawqhand ?kqlawqhand ?aqlawqdraw ?lqlawqdraw ?cqlawqdraw ?kqlawqdraw ?aqlawqcounts ?lqlawqcounts ?cqlawqcounts ?kqlawqcounts ?aqlawqweb ?lqlawqweb ?cqlawqweb ?kqlawqweb ?aqlawqnext ?lqlawqnext ?cqlawqnext ?kqlawqnext ?aqlawqway ?lqlawqway ?cqlawqway ?kqlawqway ?aqlawqodd ?lqlawqodd ?cqlawqodd ?kqlawqodd ?aqlawqisqroad ?lqlawqisqroad ?cqlawqisqroad ?kqlawqisqroad ?aqlawqisqway ?lqlawqisqway ?cqlawqisqway ?kqlawqisqway ?aqlawqisqlot ?lqlawqisqlot ?cqlawqisqlot ?kqlawqisqlot ?aqlawqrefused ?lqlawqrefused ?cqlawqrefused ?kqlawqrefused ?aqlawqthings ?lqlawqthings ?cqlawqthings ?kqlawqthings ?alaw ?llaw ?claw ?klaw ?aMOSTqHOUSES ?aMOSTqROADS ?aMOSTqROOMS ?aLONGESTqTIME ?aLONGESTqWAY ?aWWeb ?iWWeb ?yWWeb ?lWWeb ?cWWeb ?kWWeb ?pgWWeb ?hdWWeb ?poWWeb ?saWWeb ?mkWWeb ?kcWWeb ?naWWebhouses ?naWWebroads ?naWWebrooms ?naWWebtimes ?aXBadWeb ?xXBadWeb ?bmXBadWebo ?saXBadWeb ?gaXBadWeb ?ggXBadWeb ?iXBadWeb ?yXBadWeb ?lXBadWeb ?cXBadWeb ?kXBadWeb ?kcXBadWeb ?exXBadWeb ?tyXBadWeb ?hdXBadWeb ?icXBadWeb ?suXBadWeb ?naXBadWebpart ?aXNoRoad ?xXNoRoad ?bmXNoRoado ?saXNoRoad ?gaXNoRoad ?ggXNoRoad ?iXNoRoad ?yXNoRoad ?lXNoRoad ?cXNoRoad ?kXNoRoad ?kcXNoRoad ?exXNoRoad ?tyXNoRoad ?hdXNoRoad ?icXNoRoad ?suXNoRoad ?aHE ?kHE1 ?kHE2 ?haHE ?hnHE ?htHE ?hmHE ?anqisinstance ?anqint ?anqbool ?anqtuple ?anqlen ?anqall ?anqabs ?anqrange ?anqlist ?anqzip ?anqenumerate ?anqset ?anqsorted ?anqValueError
    (case aisqinteger => k_is)
    (case lisqinteger => k_is)
    (case cisqinteger => k_is)
    (case kisqinteger => k_is)
    (case aisqbetween => k_is)
    (case lisqbetween => k_is)
    (case cisqbetween => k_is)
    (case kisqbetween => k_is)
    (case aisqtuple => k_is)
    (case lisqtuple => k_is)
    (case cisqtuple => k_is)
    (case kisqtuple => k_is)
    (case aareqintegers => k_is)
    (case lareqintegers => k_is)
    (case careqintegers => k_is)
    (case kareqintegers => k_is)
    (case aareqbetween => k_is)
    (case lareqbetween => k_is)
    (case careqbetween => k_is)
    (case kareqbetween => k_is)
    (case aareqroads => k_is)
    (case lareqroads => k_is)
    (case careqroads => k_is)
    (case kareqroads => k_is)
    (case aisqbeginqandqend => k_is)
    (case lisqbeginqandqend => k_is)
    (case cisqbeginqandqend => k_is)
    (case kisqbeginqandqend => k_is)
    (case aisqroad => k_is)
    (case lisqroad => k_is)
    (case cisqroad => k_is)
    (case kisqroad => k_is)
    (case anextqroads => k_is)
    (case lnextqroads => k_is)
    (case cnextqroads => k_is)
    (case knextqroads => k_is)
    (case aisqway => k_is)
    (case lisqway => k_is)
    (case cisqway => k_is)
    (case kisqway => k_is)
    (case aisqlot => k_is)
    (case lisqlot => k_is)
    (case cisqlot => k_is)
    (case kisqlot => k_is)
    (case aqlawqhand => k_is)
    (case lqlawqhand => k_is)
    (case cqlawqhand => k_is)
    (case kqlawqhand => k_is)
    (case aqlawqdraw => k_is)
    (case lqlawqdraw => k_is)
    (case cqlawqdraw => k_is)
    (case kqlawqdraw => k_is)
    (case aqlawqcounts => k_is)
    (case lqlawqcounts => k_is)
    (case cqlawqcounts => k_is)
    (case kqlawqcounts => k_is)
    (case aqlawqweb => k_is)
    (case lqlawqweb => k_is)
    (case cqlawqweb => k_is)
    (case kqlawqweb => k_is)
    (case aqlawqnext => k_is)
    (case lqlawqnext => k_is)
    (case cqlawqnext => k_is)
    (case kqlawqnext => k_is)
    (case aqlawqway => k_is)
    (case lqlawqway => k_is)
    (case cqlawqway => k_is)
    (case kqlawqway => k_is)
    (case aqlawqodd => k_is)
    (case lqlawqodd => k_is)
    (case cqlawqodd => k_is)
    (case kqlawqodd => k_is)
    (case aqlawqisqroad => k_is)
    (case lqlawqisqroad => k_is)
    (case cqlawqisqroad => k_is)
    (case kqlawqisqroad => k_is)
    (case aqlawqisqway => k_is)
    (case lqlawqisqway => k_is)
    (case cqlawqisqway => k_is)
    (case kqlawqisqway => k_is)
    (case aqlawqisqlot => k_is)
    (case lqlawqisqlot => k_is)
    (case cqlawqisqlot => k_is)
    (case kqlawqisqlot => k_is)
    (case aqlawqrefused => k_is)
    (case lqlawqrefused => k_is)
    (case cqlawqrefused => k_is)
    (case kqlawqrefused => k_is)
    (case aqlawqthings => k_is)
    (case lqlawqthings => k_is)
    (case cqlawqthings => k_is)
    (case kqlawqthings => k_is)
    (case alaw => k_is)
    (case llaw => k_is)
    (case claw => k_is)
    (case klaw => k_is)
    (case aMOSTqHOUSES => k_is)
    (case aMOSTqROADS => k_is)
    (case aMOSTqROOMS => k_is)
    (case aLONGESTqTIME => k_is)
    (case aLONGESTqWAY => k_is)
    (case aWWeb => k_is)
    (case iWWeb => k_is)
    (case yWWeb => k_is)
    (case lWWeb => k_is)
    (case cWWeb => k_is)
    (case kWWeb => k_is)
    (case pgWWeb => k_is)
    (case hdWWeb => k_is)
    (case poWWeb => k_is)
    (case saWWeb => k_is)
    (case mkWWeb => k_is)
    (case kcWWeb => k_is)
    (case naWWebhouses => k_is)
    (case naWWebroads => k_is)
    (case naWWebrooms => k_is)
    (case naWWebtimes => k_is)
    (case aXBadWeb => k_is)
    (case xXBadWeb => k_is)
    (case bmXBadWebo => decide +kernel)
    (case saXBadWeb => k_is)
    (case gaXBadWeb => k_is)
    (case ggXBadWeb => k_is)
    (case iXBadWeb => k_is)
    (case yXBadWeb => k_is)
    (case lXBadWeb => k_is)
    (case cXBadWeb => k_is)
    (case kXBadWeb => k_is)
    (case kcXBadWeb => k_is)
    (case exXBadWeb => k_is)
    (case tyXBadWeb => k_is)
    (case hdXBadWeb => k_is)
    (case icXBadWeb => k_is)
    (case suXBadWeb => first | rfl | k_is)
    (case naXBadWebpart => k_is)
    (case aXNoRoad => k_is)
    (case xXNoRoad => k_is)
    (case bmXNoRoado => decide +kernel)
    (case saXNoRoad => k_is)
    (case gaXNoRoad => k_is)
    (case ggXNoRoad => k_is)
    (case iXNoRoad => k_is)
    (case yXNoRoad => k_is)
    (case lXNoRoad => k_is)
    (case cXNoRoad => k_is)
    (case kXNoRoad => k_is)
    (case kcXNoRoad => k_is)
    (case exXNoRoad => k_is)
    (case tyXNoRoad => k_is)
    (case hdXNoRoad => k_is)
    (case icXNoRoad => k_is)
    (case suXNoRoad => first | rfl | k_is)
    (case aHE => k_is)
    (case kHE1 => first | k_is | rfl | decide +kernel)
    (case kHE2 => first | k_is | rfl | decide +kernel)
    (case haHE => k_is)
    (case hnHE => k_is)
    (case htHE => k_is)
    (case hmHE => first | k_is | rfl | decide +kernel)
    (case anqisinstance => k_is)
    (case anqint => k_is)
    (case anqbool => k_is)
    (case anqtuple => k_is)
    (case anqlen => k_is)
    (case anqall => k_is)
    (case anqabs => k_is)
    (case anqrange => k_is)
    (case anqlist => k_is)
    (case anqzip => k_is)
    (case anqenumerate => k_is)
    (case anqset => k_is)
    (case anqsorted => k_is)
    (case anqValueError => k_is)

